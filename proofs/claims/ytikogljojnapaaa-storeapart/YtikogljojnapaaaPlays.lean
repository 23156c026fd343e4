/- Both stores are told anything: the law. -/
import Derived.Test.YtikogljojnapaaaTell7
import Derived.Test.YtikogljojnapaaaLight
namespace Go.Proofs.Ytikogljojnapaaa
open Go.RowKit

section
variable {α : Type}
theorem Ris.ins {x : Txt × α} : ∀ {F : List (Txt × α)}, Ris F → (∀ p ∈ F, p.1 ≠ x.1) → Ris (insM x F)
  | [], _, _ => by simp [insM, Ris]
  | y :: r, hF, hne => by
    obtain ⟨hy, hr⟩ := List.pairwise_cons.1 hF
    unfold insM
    by_cases hb : bytesBefore x.1 y.1 = true
    · rw [if_pos hb]
      refine List.pairwise_cons.2 ⟨fun p hp => ?_, hF⟩
      rcases List.mem_cons.1 hp with rfl | hp
      · exact hb
      · exact bb_trans _ _ _ hb (hy p hp)
    · rw [if_neg hb]
      refine List.pairwise_cons.2 ⟨fun p hp => ?_, Ris.ins hr (fun p hp => hne p (by simp [hp]))⟩
      rcases (mem_insM _ _ _).1 hp with rfl | hp
      · exact bb_tri _ _ (by simpa using hb) (fun e => hne y (by simp) e.symm)
      · exact hy p hp
theorem Ris.put {F : List (Txt × α)} (h : Ris F) (k : Txt) (d : α) : Ris (putM F k d) :=
  (h.del k).ins (fun p hp e => by
    have := (List.mem_filter.1 hp).2
    rw [show p.1 = k from e] at this
    simp at this)
end
def stepN (F : Vps) (p : Txt × List Txt) : Vps := putM F p.1 p.2
theorem newM_take {X : Vrs} {i : Nat} {p : Txt × Value × List Txt} (h : X[i]? = some p) : newM (X.take (i + 1)) = putM (newM (X.take i)) p.1 p.2.2 := by
  unfold newM
  rw [List.take_add_one, h]
  simp [cont]
theorem newM_ris (X : Vrs) : ∀ i, Ris (newM (X.take i)) := by
  intro i
  unfold newM
  have key : ∀ (L : Vps) (F : Vps), Ris F → Ris (L.foldl (fun F p => putM F p.1 p.2) F) := by
    intro L
    induction L with
    | nil => exact fun F h => h
    | cons p L ih => exact fun F h => ih _ (h.put p.1 p.2)
  exact key _ _ (by simp [Ris])
theorem newM_fit (X : Vrs) (hX : ∀ p ∈ X, p.1.length ≤ maxLen ∧ p.2.2.length ≤ 20) : ∀ p ∈ newM X, p.1.length ≤ maxLen ∧ p.2.length ≤ 20 := by
  unfold newM
  have key : ∀ (L : Vps), (∀ p ∈ L, p.1.length ≤ maxLen ∧ p.2.length ≤ 20) → ∀ (F : Vps), (∀ p ∈ F, p.1.length ≤ maxLen ∧ p.2.length ≤ 20) → ∀ p ∈ L.foldl (fun F p => putM F p.1 p.2) F, p.1.length ≤ maxLen ∧ p.2.length ≤ 20 := by
    intro L
    induction L with
    | nil => exact fun _ F h => h
    | cons q L ih =>
      intro hL F hF
      refine ih (fun p hp => hL p (by simp [hp])) _ (fun p hp => ?_)
      rcases mem_putM hp with rfl | hp
      · exact hL q (by simp)
      · exact hF p hp
  refine key _ (fun p hp => ?_) _ (fun p hp => ?_)
  · obtain ⟨q, hq, rfl⟩ := List.mem_map.1 hp
    exact hX q hq
  · simp only [List.mem_singleton] at hp
    subst hp
    exact ⟨by decide, by decide⟩
theorem star_le : star.length ≤ maxLen := by decide
theorem fit_put {F : Vps} {H : Fps} {n : Nat} (h : Fit F H n) {k : Txt} {l : List Txt} (hk : k.length ≤ maxLen) (hl : l.length ≤ 20) : Fit (putM F k l) H (n + 1) :=
  ⟨Nat.le_trans (length_putM _ _ _) (Nat.succ_le_succ h.fl), Nat.le_succ_of_le h.hl, fun p hp => by
    rcases mem_putM hp with rfl | hp
    · exact ⟨hk, hl⟩
    · exact h.fs p hp, h.hs⟩
theorem fit_uns {F : Vps} {H : Fps} {n : Nat} (h : Fit F H n) (k : Txt) : Fit (unsP F k) H (n + 1) := by
  unfold unsP
  split
  · exact fit_put h star_le (by simp)
  · exact ⟨Nat.le_succ_of_le (Nat.le_trans (length_delM _ _) h.fl), Nat.le_succ_of_le h.hl, fun p hp => h.fs p (mem_delM hp), h.hs⟩
theorem fit_tell {F : Vps} {H : Fps} {n : Nat} (h : Fit F H n) (kd : Int) {k : Txt} {l : List Txt} (b : Bool) {nl : List Nd} (hk : k.length ≤ maxLen) (hl : l.length ≤ 20) (hnl : nl.length ≤ 20) : Fit (tellF kd k l b F) (tellH kd k nl H) (n + 1) := by
  have up : Fit F H (n + 1) := ⟨Nat.le_succ_of_le h.fl, Nat.le_succ_of_le h.hl, h.fs, h.hs⟩
  unfold tellF tellH
  by_cases k1 : kd = 1
  · rw [if_pos k1, if_pos (.inl k1)]
    exact fit_put h hk hl
  · rw [if_neg k1]
    by_cases k2 : kd = 2
    · rw [if_pos k2, if_pos (.inr (.inl k2))]
      exact fit_uns h k
    · rw [if_neg k2]
      by_cases k3 : kd = 3
      · rw [if_pos k3, if_pos (.inr (.inr (.inl k3)))]
        cases b
        · exact fit_uns h k
        · exact fit_put h hk hl
      · rw [if_neg k3]
        by_cases k4 : kd = 4
        · rw [if_pos k4, if_pos (.inr (.inr (.inr k4)))]
          exact fit_put h star_le hl
        · rw [if_neg k4, if_neg (by omega)]
          exact ⟨Nat.le_succ_of_le h.fl, Nat.le_trans (length_putM _ _ _) (Nat.succ_le_succ h.hl), h.fs, fun p hp => by
            rcases mem_putM hp with rfl | hp
            · exact ⟨hk, hnl⟩
            · exact h.hs p hp⟩
/-- A new store of the document's. -/
theorem Rs.made (w : World) : Rs (w.alloc (.cells #[.slice none 0 0, .slice none 0 0, .slice none 0 0] 32)) (fun i => i = w.heap.size) w.heap.size (.slice none 0 0) (.slice none 0 0) (.slice none 0 0) [] [] [] :=
  ⟨Cel.new w 32 _, World.ownsRow_nil _ _ _ _, World.ownsRow_nil _ _ _ _, ⟨World.ownsRow_nil _ _ _ _, fun b hb => by simp [Value.ownBlock] at hb⟩, fun p hp => by simp at hp, fun p hp => by simp at hp, rfl, fun b hb => by simp [Value.ownBlock] at hb, fun b hb => by simp [Value.ownBlock] at hb, fun i hi => by simp; omega⟩
/-- Both, while the document's is filled. -/
def Both (W wr : World) (sb vb fb xb : Nat) (V X : Vrs) (i : Nat) : Prop := ∃ K vv av P A, Sto wr K sb vb fb V [] ∧ Rs wr K xb vv av (.slice none 0 0) P A [] ∧ Rel (newM (X.take i)) (cont P) A ∧ P.length ≤ i + 1 ∧ (∀ j, K j → W.heap.size ≤ j) ∧ Below W.heap.size W wr
theorem Both.start {W w3 : World} {K : Nat → Prop} {sb vb fb : Nat} {V X : Vrs} (h : Sto w3 K sb vb fb V []) (hK : ∀ i, K i → W.heap.size ≤ i) (hb : Below W.heap.size W w3) : Both W (w3.alloc (.cells #[.slice none 0 0, .slice none 0 0, .slice none 0 0] 32)) sb vb fb w3.heap.size V X 0 := by
  have hlt : ∀ i, (K i ∨ i = w3.heap.size) → i < (w3.alloc (.cells #[.slice none 0 0, .slice none 0 0, .slice none 0 0] 32)).heap.size := fun i hi => by
    have : (w3.alloc (.cells #[.slice none 0 0, .slice none 0 0, .slice none 0 0] 32)).heap.size = w3.heap.size + 1 := by simp
    rw [this]
    rcases hi with hi | hi
    · have := h.lt i hi
      omega
    · omega
  refine ⟨fun i => K i ∨ i = w3.heap.size, .slice none 0 0, .slice none 0 0, [], [], (h.below (below_new w3 _)).mono (fun _ h => .inl h) hlt, (Rs.made w3).mono (fun _ h => .inr h) hlt, (show Rel (newM []) (cont ([] : Vrs)) [] from ⟨by decide, by decide, by decide⟩), Nat.zero_le _, fun i hi => hi.elim (hK i) (fun e => by rw [e]; exact hb.size), hb.trans ((below_new w3 _).mono hb.size)⟩
theorem Both.step {W wr w5 : World} {K K5 : Nat → Prop} {sb vb fb xb : Nat} {vv av vv5 av5 u : Value} {V X P : Vrs} {A : List Txt} {i : Nat} {p : Txt × Value × List Txt} (hS : Sto wr K sb vb fb V []) (hR : Rs wr K xb vv av (.slice none 0 0) P A []) (hrel : Rel (newM (X.take i)) (cont P) A) (hl : P.length ≤ i + 1) (hK : ∀ j, K j → W.heap.size ≤ j) (hb : Below W.heap.size W wr) (hp : X[i]? = some p)
    (h5 : Rs w5 K5 xb vv5 av5 (.slice none 0 0) (setRP P p.1 (u, p.2.2)) (setRA A p.1 p.2.2) []) (hs5 : Stx xb wr K w5 K5) : Both W w5 sb vb fb xb V X (i + 1) := by
  refine ⟨K5, vv5, av5, _, _, (hS.turnx hR hs5.1).mono hs5.2.2 h5.lt, h5, ?_, ?_, fun j hj => (hs5.2.1 j hj).elim (hK j) (Nat.le_trans hb.size), hb.trans (hs5.1.below (fun j e => by rw [e]; exact hK _ hR.Kx) hb.size)⟩
  · have := hrel.put (newM_ris X i) p.1 p.2.2
    rw [newM_take hp]
    have e1 : cont (setRP P p.1 (u, p.2.2)) = if p.1 = star then cont P else putM (cont P) p.1 p.2.2 := by
      unfold setRP
      split
      · rfl
      · exact cont_put P p.1 (u, p.2.2)
    rw [e1]
    exact this
  · unfold setRP
    split
    · omega
    · have := length_putM P p.1 (u, p.2.2)
      omega
theorem Both.duo {W wr : World} {sb vb fb xb : Nat} {V X : Vrs} (h : Both W wr sb vb fb xb V X X.length) (hV : cont V = newM X) : ∃ K, Duo wr K sb vb fb xb (newM X) [] ∧ (∀ j, K j → W.heap.size ≤ j) ∧ Below W.heap.size W wr := by
  obtain ⟨K, vv, av, P, A, h1, h2, h3, _, h4, h5⟩ := h
  rw [List.take_length] at h3
  exact ⟨K, ⟨V, [], vv, av, _, P, A, [], h1, h2, hV, rfl, h3.1, h3.2.1, rfl, h3.2.2⟩, h4, h5⟩
def ToldV (g a : Nat) (n : Txt) (lv : Value) (W : World) : Prop := W.cell? ⟨g, a, none⟩ = some (str n) ∧ W.cell? ⟨g, a + 1, none⟩ = some lv
/-- Both stores, in blocks from here on. -/
def DuoB (W wr : World) (sb vb fb xb : Nat) (F : Vps) (H : Fps) : Prop := ∃ K, Duo wr K sb vb fb xb F H ∧ (∀ j, K j → W.heap.size ≤ j) ∧ Below W.heap.size W wr
theorem DuoB.below {W wr w' : World} {sb vb fb xb : Nat} {F : Vps} {H : Fps} (h : DuoB W wr sb vb fb xb F H) (hb : Below wr.heap.size wr w') : DuoB W w' sb vb fb xb F H := by
  obtain ⟨K, h1, h2, h3⟩ := h
  exact ⟨K, h1.below hb, h2, h3.trans (hb.mono h3.size)⟩
theorem sameB {W wr : World} {sb vb fb xb : Nat} {F : Vps} {H : Fps} (h : DuoB W wr sb vb fb xb F H) (hf : Fit F H 1000) (k : Txt) (hk : k.length ≤ maxLen) :
    Calls Try.prog 10 #[sP sb, xP xb, str k] wr fun e w' => e = .returned (.bool true) ∧ Below wr.heap.size wr w' := by
  obtain ⟨K, h1, _⟩ := h
  exact same_any h1 hf k hk
theorem tellB {W wr : World} {sb vb fb xb : Nat} {F : Vps} {H : Fps} (h : DuoB W wr sb vb fb xb F H) (hf : Fit F H 999) (kd : Int) (k : Txt) (lv : Value) (l : List Txt) (b : Bool) (pv : Value) (nl : List Nd) (hlt : Tx wr lv l) (hnt : NdAt wr pv nl) (hll : l.length ≤ 20) (hnl : nl.length ≤ 20) (hk : k.length ≤ maxLen) :
    Calls Try.prog 11 #[sP sb, xP xb, .agg (doC kd k lv b pv)] wr fun e w' => e = .returned (.bool true) ∧ DuoB W w' sb vb fb xb (tellF kd k l b F) (tellH kd k nl H) := by
  obtain ⟨K, h1, h2, h3⟩ := h
  refine (tell_any h1 hf kd k lv l b pv nl hlt hnt hll hnl hk).mono ?_
  rintro e w' ⟨rfl, K', hD, hs⟩
  obtain ⟨V, G, vv, av, fv, P, A, Q, hS, hR, _⟩ := h1
  refine ⟨rfl, K', hD, fun j hj => (hs.2 j hj).elim (h2 j) (Nat.le_trans h3.size), h3.trans (hs.1.below (fun j e => ?_) h3.size)⟩
  rcases e with rfl | rfl | rfl
  · exact h2 _ hS.Kv
  · exact h2 _ hS.Kf
  · exact h2 _ hR.Kx
set_option maxRecDepth 100000 in
set_option maxHeartbeats 8000000 in
theorem plays_main (xv dv : Value) (X : Vrs) (D : List Dd) (ask : Txt) (W : World) (hx : VaAt W xv X) (hd : DoAt W dv D) (hxm : ∀ p ∈ X, p.1.length ≤ maxLen ∧ p.2.2.length * 16 ≤ big) (hX : X.length ≤ 10) (hD : D.length ≤ maxLen) (hds : ∀ d ∈ D, d.k.length ≤ maxLen ∧ d.l.length ≤ maxLen ∧ d.nl.length ≤ maxLen ∧ ∀ s ∈ d.l, s.length ≤ maxLen) (ha : ask.length ≤ maxLen) :
    Calls Try.prog 3 #[xv, dv, str ask] W fun e w' => e = .returned (.bool true) ∧ Below W.heap.size W w' := by
  have HX : Hid (∀ W', Below W.heap.size W W' → VaAt W' xv X) := fun W' hb => hx.below hb (Nat.le_refl _)
  have HD : Hid (∀ W', Below W.heap.size W W' → DoAt W' dv D) := fun W' hb => hd.below hb (Nat.le_refl _)
  have HXM : Hid (∀ p ∈ X, p.1.length ≤ maxLen ∧ p.2.2.length * 16 ≤ big) := hxm
  have HDS : Hid (∀ d ∈ D, d.k.length ≤ maxLen ∧ d.l.length ≤ maxLen ∧ d.nl.length ≤ maxLen ∧ ∀ s ∈ d.l, s.length ≤ maxLen) := hds
  have HDL : Hid (D.length ≤ maxLen) := hD
  have HAK : Hid (ask.length ≤ maxLen) := ha
  obtain ⟨adx, capx, rfl⟩ := hx.form
  obtain ⟨add, capd, rfl⟩ := hd.form
  unfold maxLen at hD
  clear hx hd hxm hds ha
  go_enter Try.func3, Try.ntmps3
  go_wp2_with fail
  refine (first_any W).mono ?_
  rintro e w1 ⟨rfl, hb1⟩
  go_wp2_with fail
  refine (light_any _ D w1 (HD.out _ hb1) HDL.out HDS.out).mono ?_
  rintro e w2 ⟨r, rfl, hw2, hr⟩
  obtain rfl := hw2.symm
  cases r with
  | false =>
    go_wp2_with fail
    go_ret
    exact ⟨rfl, hb1⟩
  | true =>
    obtain ⟨hD60, hfew⟩ := hr rfl
    have HFW : Hid (∀ d ∈ D, Few d) := hfew
    clear hr hfew hw2
    go_wp2_with fail
    refine (new_any _ X w1 (HX.out _ hb1) (by omega) HXM.out).mono ?_
    rintro e w3 ⟨sb, vb, fb, K, V, rfl, hS, hV, hK, hVl, hb3⟩
    have HVL : Hid (V.length ≤ X.length + 1) := hVl
    have hB3 : Below W.heap.size W w3 := hb1.trans (hb3.mono hb1.size)
    have HBT : Hid (Both W (w3.alloc (.cells #[.slice none 0 0, .slice none 0 0, .slice none 0 0] 32)) sb vb fb w3.heap.size V X 0) := Both.start hS (fun i hi => Nat.le_trans hb1.size (hK i hi)) hB3
    have HV : Hid (cont V = newM X) := hV
    clear hS hV hK hb3 hVl
    go_wp2_with fail
    generalize hw4 : w3.alloc (.cells #[.slice none 0 0, .slice none 0 0, .slice none 0 0] 32) = w4 at *
    generalize hxb : w3.heap.size = xb at *
    clear hw4 hxb
    go_loopw [10] (fun v10 wr => ∃ i : Nat, v10 = .int .i64 i ∧ i ≤ X.length ∧ Hid (Both W wr sb vb fb xb V X i) ∧ Hid (∀ (j : Nat) (q : Txt × Value × List Txt), j < i → X[j]? = some q → q.2.2.length ≤ 20)) (fun v10 _ => X.length - (intOf v10).toNat)
    case atStart => exact ⟨0, rfl, Nat.zero_le _, HBT.out, fun j q hj => absurd hj (Nat.not_lt_zero _)⟩
    case round =>
      obtain ⟨i, rfl, hi, HB, HI⟩ := hrel
      obtain ⟨K, vv, av, P, A, hS, hR, hrel2, hPl, hK, hbr⟩ := HB.out
      by_cases hil : i < X.length
      · obtain ⟨p, hp⟩ := mem_iff_some hil
        obtain ⟨g, o, cap', hv, hg, c0W, c1W, htxW⟩ := (HX.out W (Below.refl _ _)).at hp
        cases hv
        have htx : Tx wr p.2.1 p.2.2 := htxW.below hbr (Nat.le_refl _)
        have HCB : Hid (∀ W', Below W.heap.size W W' → ToldV g (o + i * 2) p.1 p.2.1 W') := fun W' hb => ⟨(hb.cell (p := ⟨g, o + i * 2, none⟩) hg).trans c0W, (hb.cell (p := ⟨g, o + i * 2 + 1, none⟩) hg).trans c1W⟩
        obtain ⟨c0, c1⟩ := HCB.out _ hbr
        clear c0W c1W htxW
        obtain ⟨adv, capv, hlv⟩ := htx.form
        rw [hlv] at c1 HCB
        have HTX : Hid (Tx wr.drew (.slice adv p.2.2.length capv) p.2.2) := by
          unfold Hid
          rw [← hlv]
          exact htx.below ((Below.refl _ wr).drew) (Nat.le_refl _)
        have hpl := (HXM.out p (List.mem_of_getElem? hp)).2
        unfold big at hpl
        have HST : Hid (Sto wr K sb vb fb V [] ∧ Rs wr K xb vv av (.slice none 0 0) P A [] ∧ Rel (newM (X.take i)) (cont P) A ∧ P.length ≤ i + 1 ∧ (∀ j, K j → W.heap.size ≤ j)) := ⟨hS, hR, hrel2, hPl, hK⟩
        have HP : Hid (X[i]? = some p) := hp
        clear hS hR hrel2 hK hp htx hlv hg
        by_cases h20 : p.2.2.length > 20
        · go_wp2_with fail
          go_ret
          exact ⟨rfl, hbr⟩
        have HI2 : Hid (∀ (j : Nat) (q : Txt × Value × List Txt), j < i + 1 → X[j]? = some q → q.2.2.length ≤ 20) := fun j q hj hq => by
          rcases Nat.lt_or_ge j i with h1 | h1
          · exact HI.out j q h1 hq
          · rw [show j = i by omega, HP.out] at hq
            cases hq
            omega
        go_upto_region 11 with fail
        refine wp_region_held (S := ToldV g (o + i * 2) p.1 (.slice adv p.2.2.length capv)) (by kernel_rfl) ?_
        change wpAnyH _ _ _ _ _ _ _ _ (World.drew _)
        have hS0 : ToldV g (o + i * 2) p.1 (.slice adv p.2.2.length capv) (World.drew wr) := ⟨c0, c1⟩
        refine wpAnyH_take (i := 0) (v := xP xb) rfl (by kernel_rfl) (by kernel_rfl) (by kernel_rfl) (fun _ _ _ h => h) (Yields.yieldsIf (Or.inl ⟨by rfl, by intro wz; go_simp⟩)) hS0 ?_
        try simp only [Act.put, List.getElem_toArray, List.getElem_cons_zero, List.setIfInBounds_toArray, List.set_cons_zero, List.set_cons_succ]
        refine wpAnyH_take (i := 1) (v := .slice (some ⟨g, o, none⟩) X.length capx) rfl (by kernel_rfl) (by kernel_rfl) (by kernel_rfl) (fun _ _ _ h => h) (Yields.yieldsIf (Or.inl ⟨by rfl, by intro wz; go_simp⟩)) hS0 ?_
        try simp only [Act.put, List.getElem_toArray, List.getElem_cons_succ, List.getElem_cons_zero, List.setIfInBounds_toArray, List.set_cons_zero, List.set_cons_succ]
        refine wpAnyH_take (i := 2) (v := .int .i64 (i : Nat)) rfl (by kernel_rfl) (by kernel_rfl) (by kernel_rfl) (fun _ _ _ h => h) (Yields.yieldsIf (Or.inl ⟨by rfl, by intro wz; go_simp⟩)) hS0 ?_
        try simp only [Act.put, List.getElem_toArray, List.getElem_cons_succ, List.getElem_cons_zero, List.setIfInBounds_toArray, List.set_cons_zero, List.set_cons_succ]
        refine wpAnyH_take (i := 3) (v := .pointer (some ⟨g, o + i * 2, none⟩)) rfl (by kernel_rfl) (by kernel_rfl) (by kernel_rfl) (fun _ _ _ h => h) (Yields.yieldsIf (Or.inl ⟨by rfl, by intro wz; go_simp⟩)) hS0 ?_
        try simp only [Act.put, List.getElem_toArray, List.getElem_cons_succ, List.getElem_cons_zero, List.setIfInBounds_toArray, List.set_cons_zero, List.set_cons_succ]
        refine wpAnyH_take (i := 4) (v := .pointer (some ⟨g, o + i * 2, none⟩)) rfl (by kernel_rfl) (by kernel_rfl) (by kernel_rfl) (fun _ _ _ h => h) (Yields.yieldsIf (Or.inl ⟨by rfl, by intro wz; go_simp⟩)) hS0 ?_
        try simp only [Act.put, List.getElem_toArray, List.getElem_cons_succ, List.getElem_cons_zero, List.setIfInBounds_toArray, List.set_cons_zero, List.set_cons_succ]
        refine wpAnyH_take (i := 5) (v := str p.1) rfl (by kernel_rfl) (by kernel_rfl) (by kernel_rfl) (fun _ _ _ h => h) (Or.inl ⟨by rfl, fun wz hS => by obtain ⟨s1, s2⟩ := hS; go_simp⟩) hS0 ?_
        try simp only [Act.put, List.getElem_toArray, List.getElem_cons_succ, List.getElem_cons_zero, List.setIfInBounds_toArray, List.set_cons_zero, List.set_cons_succ]
        refine wpAnyH_take (i := 6) (v := .slice (some ⟨g, o, none⟩) X.length capx) rfl (by kernel_rfl) (by kernel_rfl) (by kernel_rfl) (fun _ _ _ h => h) (Yields.yieldsIf (Or.inl ⟨by rfl, by intro wz; go_simp⟩)) hS0 ?_
        try simp only [Act.put, List.getElem_toArray, List.getElem_cons_succ, List.getElem_cons_zero, List.setIfInBounds_toArray, List.set_cons_zero, List.set_cons_succ]
        refine wpAnyH_take (i := 7) (v := .int .i64 (i : Nat)) rfl (by kernel_rfl) (by kernel_rfl) (by kernel_rfl) (fun _ _ _ h => h) (Yields.yieldsIf (Or.inl ⟨by rfl, by intro wz; go_simp⟩)) hS0 ?_
        try simp only [Act.put, List.getElem_toArray, List.getElem_cons_succ, List.getElem_cons_zero, List.setIfInBounds_toArray, List.set_cons_zero, List.set_cons_succ]
        refine wpAnyH_take (i := 8) (v := .pointer (some ⟨g, o + i * 2, none⟩)) rfl (by kernel_rfl) (by kernel_rfl) (by kernel_rfl) (fun _ _ _ h => h) (Yields.yieldsIf (Or.inl ⟨by rfl, by intro wz; go_simp⟩)) hS0 ?_
        try simp only [Act.put, List.getElem_toArray, List.getElem_cons_succ, List.getElem_cons_zero, List.setIfInBounds_toArray, List.set_cons_zero, List.set_cons_succ]
        refine wpAnyH_take (i := 9) (v := .pointer (some ⟨g, o + i * 2 + 1, none⟩)) rfl (by kernel_rfl) (by kernel_rfl) (by kernel_rfl) (fun _ _ _ h => h) (Yields.yieldsIf (Or.inl ⟨by rfl, by intro wz; go_simp⟩)) hS0 ?_
        try simp only [Act.put, List.getElem_toArray, List.getElem_cons_succ, List.getElem_cons_zero, List.setIfInBounds_toArray, List.set_cons_zero, List.set_cons_succ]
        refine wpAnyH_take (i := 10) (v := .slice adv p.2.2.length capv) rfl (by kernel_rfl) (by kernel_rfl) (by kernel_rfl) (fun _ _ _ h => h) (Or.inl ⟨by rfl, fun wz hS => by obtain ⟨s1, s2⟩ := hS; go_simp⟩) hS0 ?_
        try simp only [Act.put, List.getElem_toArray, List.getElem_cons_succ, List.getElem_cons_zero, List.setIfInBounds_toArray, List.set_cons_zero, List.set_cons_succ]
        refine wpAnyH_ready (rs := [11]) (by kernel_rfl) (by simp) ?_
        refine AllReadyH.cons rfl (fun K' hK => ?_) AllReadyH.nil
        go_simp
        refine (rset_any (HST.out.2.1.below ((Below.refl _ wr).drew)) p.1 (.slice adv p.2.2.length capv) p.2.2 HTX.out (by omega) (by omega)).mono ?_
        rintro e w5 ⟨rfl, vv5, av5, u5, K5, h5, hs5⟩
        have HB5 : Hid (Both W w5 sb vb fb xb V X (i + 1)) := Both.step (HST.out.1.below ((Below.refl _ wr).drew)) (HST.out.2.1.below ((Below.refl _ wr).drew)) HST.out.2.2.1 hPl HST.out.2.2.2.2 hbr.drew HP.out h5 hs5
        have hS5 : ToldV g (o + i * 2) p.1 (.slice adv p.2.2.length capv) w5 := by
          obtain ⟨_, _, _, _, _, _, _, _, _, _, hb5⟩ := HB5.out
          exact HCB.out _ hb5
        refine hK.out _ _ hS5 (fun _ => ?_)
        clear hK K' hS0 h5 hs5
        try simp only [Act.put, List.getElem_toArray, List.getElem_cons_succ, List.getElem_cons_zero, List.setIfInBounds_toArray, List.set_cons_zero, List.set_cons_succ]
        refine wpAnyH_done (by kernel_rfl) ?_ _
        go_wp2_with fail
        exact ⟨⟨i + 1, by simp, by omega, HB5.out, HI2.out⟩, by simp [intOf]; omega⟩
      · have hie : i = X.length := by omega
        subst hie
        have HDB : Hid (DuoB W wr sb vb fb xb (newM X) []) := Both.duo HB.out HV.out
        have HFT : Hid (Fit (newM X) [] (11 + 0)) := by
          refine ⟨?_, Nat.zero_le _, newM_fit X (fun p hp => ?_), fun p hp => by simp at hp⟩
          · rw [← HV.out, cont_length]
            have := HVL.out
            omega
          · obtain ⟨j, hj, rfl⟩ := List.mem_iff_getElem.1 hp
            exact ⟨(HXM.out _ hp).1, HI.out j _ hj (List.getElem?_eq_getElem hj)⟩
        clear hS hR hrel2 hPl hK
        go_wp2_with fail
        refine (sameB HDB.out ⟨by have := HFT.out.fl; omega, by have := HFT.out.hl; omega, HFT.out.fs, HFT.out.hs⟩ ask HAK.out).mono ?_
        rintro e w6 ⟨rfl, hb6⟩
        have HD6 : Hid (DuoB W w6 sb vb fb xb (newM X) []) := HDB.out.below hb6
        clear hb6
        go_wp2_with fail
        go_loopw [11] (fun v11 wr => ∃ (i : Nat) (F : Vps) (H : Fps), v11 = .int .i64 i ∧ i ≤ D.length ∧ Hid (DuoB W wr sb vb fb xb F H ∧ Fit F H (11 + i))) (fun v11 _ => D.length - (intOf v11).toNat)
        case atStart => exact ⟨0, _, _, rfl, Nat.zero_le _, HD6.out, HFT.out⟩
        case round =>
          obtain ⟨i, F, H, rfl, hi, HR⟩ := hrel
          obtain ⟨K2, hDu, hK2, hbr2⟩ := HR.out.1
          by_cases hil : i < D.length
          · obtain ⟨d, hd⟩ := mem_iff_some hil
            obtain ⟨g, o, cap', hv, hg, ⟨c0, c1, c2, c3, c4⟩, _, _⟩ := (HD.out W (Below.refl _ _)).at hd
            cases hv
            have hfd := HFW.out d (List.mem_of_getElem? hd)
            have hkd : d.k.length ≤ maxLen := (HDS.out d (List.mem_of_getElem? hd)).1
            have HTL : Hid (Tx wr d.lv d.l ∧ NdAt wr d.pv d.nl) := (HD.out _ hbr2).2 d (List.mem_of_getElem? hd)
            have HCK : Hid (∀ W', Below W.heap.size W W' → W'.cell? ⟨g, o + i * 5 + 1, none⟩ = some (str d.k)) := fun W' hb => (hb.cell (p := ⟨g, o + i * 5 + 1, none⟩) hg).trans c1
            have e0 := (hbr2.cell (p := ⟨g, o + i * 5, none⟩) hg).trans c0
            have e1 := (hbr2.cell (p := ⟨g, o + i * 5 + 1, none⟩) hg).trans c1
            have e2 := (hbr2.cell (p := ⟨g, o + i * 5 + 2, none⟩) hg).trans c2
            have e3 := (hbr2.cell (p := ⟨g, o + i * 5 + 3, none⟩) hg).trans c3
            have e4 := (hbr2.cell (p := ⟨g, o + i * 5 + 4, none⟩) hg).trans c4
            obtain ⟨adl, capl, hlv⟩ := HTL.out.1.form
            obtain ⟨adp, capp, hpv⟩ := HTL.out.2.form
            obtain ⟨kd, k, lv, l, b, pv, nl⟩ := d
            simp only at e0 e1 e2 e3 e4 hlv hpv hkd HCK HTL
            subst hlv hpv
            obtain ⟨f1, f2, f3⟩ := hfd
            simp only at f1 f2 f3
            have HTB := tellB HR.out.1 ⟨by have := HR.out.2.fl; omega, by have := HR.out.2.hl; omega, HR.out.2.fs, HR.out.2.hs⟩ kd k _ l b _ nl HTL.out.1 HTL.out.2 f1 f2 hkd
            have HFT2 : Hid (Fit (tellF kd k l b F) (tellH kd k nl H) (11 + i + 1)) := fit_tell HR.out.2 kd b hkd f1 f2
            have HTB : Hid _ := HTB
            clear c0 c1 c2 c3 c4 hg hd hDu hK2
            go_wp2_with fail
            refine Calls.mono HTB.out ?_
            rintro e w7 ⟨rfl, hD7⟩
            have hb7 : Below W.heap.size W w7 := by
              obtain ⟨_, _, _, hb⟩ := hD7
              exact hb
            have HD7 : Hid (DuoB W w7 sb vb fb xb (tellF kd k l b F) (tellH kd k nl H)) := hD7
            have e7 := HCK.out _ hb7
            clear hD7
            go_wp2_with fail
            refine (sameB HD7.out ⟨by have := HFT2.out.fl; omega, by have := HFT2.out.hl; omega, HFT2.out.fs, HFT2.out.hs⟩ k hkd).mono ?_
            rintro e w8 ⟨rfl, hb8⟩
            have HD8 : Hid (DuoB W w8 sb vb fb xb (tellF kd k l b F) (tellH kd k nl H)) := HD7.out.below hb8
            clear hb8
            go_wp2_with fail
            refine (sameB HD8.out ⟨by have := HFT2.out.fl; omega, by have := HFT2.out.hl; omega, HFT2.out.fs, HFT2.out.hs⟩ ask HAK.out).mono ?_
            rintro e w9 ⟨rfl, hb9⟩
            have HD9 : Hid (DuoB W w9 sb vb fb xb (tellF kd k l b F) (tellH kd k nl H)) := HD8.out.below hb9
            clear hb9
            go_wp2_with fail
            exact ⟨⟨i + 1, _, _, by simp, by omega, HD9.out, HFT2.out⟩, by simp [intOf]; omega⟩
          · go_wp2_with fail
            go_ret
            exact ⟨rfl, hbr2⟩
end Go.Proofs.Ytikogljojnapaaa

/- Words joined. -/
import Derived.Test.YtfafhjglcaikoaaGreatDoorH21
/-! A word as one string. -/
namespace Go.Proofs.YtfafhjglcaikoaaGreatDoor
open Go.RowKit
attribute [local go_sem] Oper.semAt_some

variable {W W' : World} {K : Nat → Prop} {rb cb sb kb : Nat} {s : Sh} {ea : Nat → Addr} {f : List Nd → Sh → Option Cr} {g : List Nd → Sh → Option Wr}
theorem flatS_some {x : List Nd} {r : Sh × Txt × Xr} (h : flatS g x s = some r) : ∃ s1 l y, g x s = some (s1, l, y) ∧ (y ≠ .ok → r = (s1, [], y)) ∧
    (y = .ok → fitsB l = true ∧ ((flatB l = none ∧ r = (s1, [], .big)) ∨ (flatB l = some [Lib.join l [32]] ∧ r = (s1, Lib.join l [32], .ok)))) := by
  unfold flatS at h
  cases hk : g x s with
  | none => simp [hk] at h
  | some q =>
    obtain ⟨s1, l, y⟩ := q
    refine ⟨s1, l, y, rfl, fun hx => ?_, fun hx => ?_⟩
    · cases y <;> first | exact absurd rfl hx | simpa [hk] using h.symm
    · subst hx
      simp only [hk] at h
      split at h
      · rename_i hc
        refine ⟨hc, ?_⟩
        cases hf : flatB l with
        | none => exact .inl ⟨rfl, by simpa [hf] using h.symm⟩
        | some q => exact .inr ⟨by rw [(flatB_fits l q hf).1], by simpa [hf] using h.symm⟩
      · cases h
theorem fits_ok {l : List Txt} (h : fitsB l = true) : Ok l := by
  obtain ⟨h1, h2⟩ := (fitsB_iff l).1 h
  exact ⟨by omega, fun q hq => by have := h2 q hq; omega⟩
set_option maxRecDepth 100000 in
set_option maxHeartbeats 8000000 in
theorem flatR_any (hG : WordC ea g) (v : Value) (X : List Nd) (r : Sh × Txt × Xr) (hE : Ers W ea) (h : Rn W K rb cb sb kb s) (hn : NdAt W v X) (hov : Off W K v) (hr : flatS g X s = some r) :
    Calls Tryz.prog 115 #[rP rb, v] W (DoneT ea W K rb cb sb kb r) := by
  obtain ⟨s1, l, y, hg, hno, hyes⟩ := flatS_some hr
  have HW : Hid (Calls Tryz.prog 114 #[rP rb, v] W (DoneW ea W K rb cb sb kb (s1, l, y))) := hG _ _ _ _ _ _ _ v X _ hE h hn hov hg
  have HE : Hid (∀ w1 K1, Stp W K w1 K1 → Ers w1 ea) := fun w1 K1 q => hE.stp h q
  have HNO : Hid _ := hno
  have HYES : Hid _ := hyes
  obtain ⟨ad, cap, rfl⟩ := hn.form
  clear h hE hn hov hr hG hg hno hyes
  go_enter Tryz.func115, Tryz.ntmps115
  go_wp2_with fail
  refine Calls.mono HW.out ?_
  rintro e w1 ⟨u, rfl, hu, K1, cb1, hr1, hs1, hcb1, huo⟩
  rcases xr_cases ea y with ⟨hy1, hy2⟩ | ⟨hy1, a, hy2⟩
  case inr =>
    have HB : Hid (Rb W K rb cb sb kb s1 y w1) := ⟨K1, cb1, hr1, hs1, hcb1⟩
    obtain rfl := HNO.out hy1
    obtain ⟨ua, uc, rfl⟩ := (tx_own hu).form
    clear hu hr1 hs1 hcb1 huo HW HNO HYES
    simp only [hy2]
    go_wp2_with fail
    go_ret2
    refine ⟨?_, HB.out⟩
    show _ = Ending.returned (.tuple #[str [], xrV ea y])
    rw [hy2]
    rfl
  obtain rfl := hcb1 hy1
  obtain ⟨hfl, hyy⟩ := HYES.out hy1
  have HF : Hid _ := flat_any u l w1 (ea 1) (tx_own hu) (fits_ok hfl) (HE.out _ _ hs1).eb
  have HR1 : Hid (Rn w1 K1 rb cb1 sb kb s1) := hr1
  have HS1 : Hid (Stp W K w1 K1) := hs1
  have HHY : Hid _ := hyy
  obtain ⟨ua, uc, rfl⟩ := (tx_own hu).form
  clear hu hr1 hs1 hcb1 huo HW HNO HYES hyy hfl
  simp only [hy2]
  go_wp2_with fail
  refine Calls.mono HF.out ?_
  rintro e w2 ⟨hgot, hb2⟩
  have HR2 : Hid _ := Rn.below HR1.out hb2
  have HS2 : Hid _ := Stp.trans HS1.out (Stp.ofBelow hb2)
  rcases HHY.out with ⟨hf, rfl⟩ | ⟨hf, rfl⟩
  · rw [hf] at hgot
    obtain rfl : e = .returned (.tuple #[.slice none 0 0, bigV (ea 1)]) := hgot
    clear hb2 HHY HF
    go_wp2_with fail
    go_ret2
    exact ⟨rfl, Rb.of HR2.out HS2.out⟩
  · rw [hf] at hgot
    obtain ⟨v9, rfl, ho9⟩ := hgot
    obtain ⟨g9, o9, cap9, rfl, _, _, hcl⟩ := (Tx.owned ho9).inRow (by simp)
    have c9 := hcl 0 (Lib.join l [32]) rfl
    rw [Nat.add_zero] at c9
    clear hb2 HHY HF ho9 hcl
    go_wp2_with fail
    go_ret2
    exact ⟨rfl, Rb.of HR2.out HS2.out⟩
theorem Off.pick {v pv : Value} (h : Off W K v) (hp : ∀ b, pv.ownBlock = some b → v.ownBlock = some b) : Off W K pv := fun b hb => h b (hp b hb)
theorem kds_off {B : Nat} {v kv : Value} {ks : List (List Nd)} (hr : ∀ i, K i → i < B) (h : Kds W B v kv ks) : Off W K kv := by
  obtain ⟨L, _, h2, _⟩ := h
  exact off_own hr h2
set_option maxRecDepth 100000 in
set_option maxHeartbeats 8000000 in
theorem turned_any (hG : WordC ea g) (v : Value) (x0 : Nd) (X : List Nd) (hx0 : X[0]? = some x0) (h9 : x0.kind = 9) (k0 : List Nd) (ks : List (List Nd)) (hks : kidsP X = some (k0 :: ks)) (q : Sh × Txt × Xr) (r : Wr) (hE : Ers W ea) (h : Rn W K rb cb sb kb s) (hn : NdAt W v X) (hov : Off W K v)
    (hf : flatS g k0 s = some q) (hr : (q.2.2 = .ok → r = (q.1, [q.2.1], .ok)) ∧ (q.2.2 ≠ .ok → r = (q.1, [], q.2.2))) :
    Calls Tryz.prog 164 #[rP rb, v] W (DoneW ea W K rb cb sb kb r) := by
  obtain ⟨s1, l, y, hg, hno, hyes⟩ := flatS_some hf
  have HK : Hid _ := kids_any v X (k0 :: ks) W hn hks
  have HW : Hid (∀ w1 pv, Below W.heap.size W w1 → NdAt w1 pv k0 → (∀ b, pv.ownBlock = some b → v.ownBlock = some b) → Calls Tryz.prog 114 #[rP rb, pv] w1 (DoneW ea w1 K rb cb sb kb (s1, l, y))) := fun w1 pv q1 q2 q3 => hG _ _ _ _ _ _ _ pv k0 _ (hE.stp h (Stp.ofBelow (K := K) q1)) (h.below q1) q2 ((hov.below q1).pick q3) hg
  have HE : Hid (∀ w1 K1, Stp W K w1 K1 → Ers w1 ea) := fun w1 K1 q => hE.stp h q
  have HNO : Hid (y ≠ .ok → r = (s1, [], y)) := fun hy => by
    have := hno hy
    rw [this] at hr
    exact hr.2 hy
  have HYES : Hid (y = .ok → fitsB l = true ∧ ((flatB l = none ∧ r = (s1, [], .big)) ∨ (flatB l = some [Lib.join l [32]] ∧ r = (s1, [Lib.join l [32]], .ok)))) := fun hy => by
    obtain ⟨h1, ⟨h2, h3⟩ | ⟨h2, h3⟩⟩ := hyes hy
    · rw [h3] at hr
      exact ⟨h1, .inl ⟨h2, hr.2 (by simp)⟩⟩
    · rw [h3] at hr
      exact ⟨h1, .inr ⟨h2, hr.1 rfl⟩⟩
  obtain ⟨gb, ob, cap, hv, hgl, hcs⟩ := hn.at hx0
  subst hv
  have HN : Hid (∀ w1 K1, Stp W K w1 K1 → w1.cell? ⟨gb, ob, none⟩ = some (.int .i64 9)) := fun w1 K1 q1 => by
    obtain ⟨g', o', c', hv', _, hc', _⟩ := (hov.nd hn q1).at hx0
    cases hv'
    rw [h9, Nat.zero_mul, Nat.add_zero] at hc'
    exact hc'
  have hX0 : 0 < X.length := (List.getElem?_eq_some_iff.1 hx0).1
  clear h hE hn hov hr hG hg hno hyes hcs hf hks hx0
  go_enter Tryz.func164, Tryz.ntmps164
  go_wp2_with fail
  refine Calls.mono HK.out ?_
  rintro e w1 ⟨kv, rfl, hkd, hb1⟩
  obtain ⟨g1, c1, pv, rfl, hg1, hpc, hpn, hpo⟩ := hkd.at (j := 0) (k := k0) rfl
  have HW1 : Hid _ := HW.out w1 pv hb1 hpn hpo
  have HS1 : Hid (Stp W K w1 K) := Stp.ofBelow hb1
  obtain ⟨pa, pc, rfl⟩ := hpn.form
  have hlen : 0 < (k0 :: ks).length := by simp
  generalize (k0 :: ks).length = nk at *
  clear hkd hb1 hpn hpo HK HW
  go_wp2_with fail
  refine Calls.mono HW1.out ?_
  rintro e w2 ⟨u, rfl, hu, K1, cb1, hr1, hs1, hcb1, huo⟩
  have hs2 := Stp.trans HS1.out hs1
  rcases xr_cases ea y with ⟨hy1, hy2⟩ | ⟨hy1, a, hy2⟩
  case inr =>
    have HB : Hid (Rb W K rb cb sb kb s1 y w2) := ⟨K1, cb1, hr1, hs2, hcb1⟩
    obtain rfl := HNO.out hy1
    obtain ⟨ua, uc, rfl⟩ := (tx_own hu).form
    clear hu hr1 hs1 hs2 hcb1 huo HW1 HNO HYES HN
    simp only [hy2]
    go_wp2_with fail
    go_ret2
    have := doneW_err (ea := ea) hy1 HB.out
    rw [hy2] at this
    exact this
  obtain rfl := hcb1 hy1
  obtain ⟨hfl, hyy⟩ := HYES.out hy1
  have HF : Hid _ := flat_any u l w2 (ea 1) (tx_own hu) (fits_ok hfl) (HE.out _ _ hs2).eb
  have HR1 : Hid (Rn w2 K1 rb cb1 sb kb s1) := hr1
  have HS2 : Hid (Stp W K w2 K1) := hs2
  have HHY : Hid _ := hyy
  have ck := HN.out _ _ hs2
  obtain ⟨ua, uc, rfl⟩ := (tx_own hu).form
  clear hu hr1 hs1 hs2 hcb1 huo HW1 HNO HYES hyy hfl HN
  simp only [hy2]
  go_wp2_with fail
  refine Calls.mono HF.out ?_
  rintro e w3 ⟨hgot, hb3⟩
  have hr3 := Rn.below HR1.out hb3
  have HS3 : Hid (Stp W K w3 K1) := Stp.trans HS2.out (Stp.ofBelow hb3)
  rcases HHY.out with ⟨hf, rfl⟩ | ⟨hf, rfl⟩
  · rw [hf] at hgot
    obtain rfl : e = .returned (.tuple #[.slice none 0 0, bigV (ea 1)]) := hgot
    have HB : Hid (Rb W K rb cb1 sb kb s1 .big w3) := Rb.of hr3 HS3.out
    clear hb3 HHY HF hr3
    go_wp2_with fail
    go_ret2
    exact doneW_err (ea := ea) (by simp) HB.out
  · rw [hf] at hgot
    obtain ⟨v9, rfl, ho9⟩ := hgot
    have HO9 : Hid _ := owns_lower ho9 HS2.out.1.size
    have HV9 : Hid _ := off_own (Rn.lt HR1.out) ho9
    have HR3 : Hid _ := hr3
    obtain ⟨a9, c9, rfl⟩ := owns_slice ho9
    clear hb3 HHY HF ho9 hr3
    go_wp2_with fail
    go_ret2
    exact doneW_rb HR3.out HS3.out HO9.out HV9.out
end Go.Proofs.YtfafhjglcaikoaaGreatDoor
namespace Go.Proofs.YtfafhjglcaikoaaGreatDoor
open Go.RowKit
attribute [local go_sem] Oper.semAt_some

variable {W W' : World} {K : Nat → Prop} {rb cb sb kb : Nat} {s : Sh} {ea : Nat → Addr} {f : List Nd → Sh → Option Cr} {g : List Nd → Sh → Option Wr}
theorem infoL23 : (Tryz.prog.info? 23).map (fun i => (i.zero, i.size, i.bytes)) = some (some (.slice none 0 0), 1, 24) := by kernel_rfl
theorem joinS_cons {x : List Nd} {rest : List (List Nd)} {m : Option (List Txt)} {r : Wr} (h : joinS g (x :: rest) s m = some r) : ∃ s1 l y, g x s = some (s1, l, y) ∧ (y ≠ .ok → r = (s1, [], y)) ∧
    (y = .ok → fitsB l = true ∧ (∀ k, m = some k → fitsB k = true) ∧ ((joinB (m.toList ++ [l]) = none ∧ r = (s1, [], .big)) ∨ ∃ k, joinB (m.toList ++ [l]) = some k ∧ joinS g rest s1 (some k) = some r)) := by
  unfold joinS at h
  cases hk : g x s with
  | none => simp [hk] at h
  | some q =>
    obtain ⟨s1, l, y⟩ := q
    refine ⟨s1, l, y, rfl, fun hx => ?_, fun hx => ?_⟩
    · cases y <;> first | exact absurd rfl hx | simpa [hk] using h.symm
    · subst hx
      simp only [hk] at h
      cases hf : fitsB l with
      | false => simp [hf] at h
      | true =>
        cases m with
        | none =>
          refine ⟨rfl, fun k hm => (by cases hm), ?_⟩
          cases hj : joinB ([] ++ [l]) with
          | none => exact .inl ⟨by simpa using hj, by simpa [hf, show joinB [l] = none by simpa using hj] using h.symm⟩
          | some k => exact .inr ⟨k, by simpa using hj, by simpa [hf, show joinB [l] = some k by simpa using hj] using h⟩
        | some q =>
          cases hq : fitsB q with
          | false => simp [hf, hq] at h
          | true =>
            refine ⟨rfl, fun k hm => (by cases hm; exact hq), ?_⟩
            cases hj : joinB [q, l] with
            | none => exact .inl ⟨by simpa using hj, by simpa [hf, hq, hj] using h.symm⟩
            | some k => exact .inr ⟨k, by simpa using hj, by simpa [hf, hq, hj] using h⟩
theorem tss_own {B : Nat} {v : Value} {L : List (Value × List Txt)} (h : W.ownsRow B 23 1 v L.length (L.map Prod.fst)) (ht : ∀ p ∈ L, Tx W p.1 p.2) : Tss W v (L.map Prod.snd) := by
  rcases h.2 with ⟨hv, h0⟩ | ⟨gg, cap, cur, hv, hb, hc, h1, _, h2, h3⟩
  · have : L = [] := List.eq_nil_of_length_eq_zero h0
    subst this
    exact ⟨0, 0, none, 0, hv, Nat.le_refl _, fun hne => absurd rfl hne, fun k l hl => by simp at hl⟩
  · refine ⟨gg, 0, some ⟨gg, 0, none⟩, cap, by rw [hv, List.length_map], by rw [List.length_map]; exact h1, fun _ => ⟨rfl, (Array.getElem?_eq_some_iff.1 hc).1⟩, fun k l hl => ?_⟩
    rw [List.getElem?_map] at hl
    obtain ⟨p, hp, rfl⟩ := Option.map_eq_some_iff.1 hl
    have hk := (List.getElem?_eq_some_iff.1 hp).1
    refine ⟨p.1, ?_, ht p (List.mem_of_getElem? hp)⟩
    have e1 : W.cell? ⟨gg, 0 + k, none⟩ = cur[k]? := by simp [World.cell?, hc]
    rw [e1, ← Array.getElem?_toList, ← List.getElem?_take_of_lt (show k < L.length * 1 by omega), h3, List.getElem?_map, hp]
    rfl
/-- What was joined so far, in a row of its own. -/
def Jm (B : Nat) (W : World) (K : Nat → Prop) (v6 : Value) (m : Option (List Txt)) : Prop :=
  ∃ L : List (Value × List Txt), L.map Prod.snd = m.toList ∧ W.ownsRow B 23 1 v6 L.length (L.map Prod.fst) ∧ Off W K v6 ∧ ∀ p ∈ L, W.ownsRow B 9 1 p.1 p.2.length (txV p.2) ∧ Off W K p.1
theorem Jm.stp {B : Nat} {v6 : Value} {m : Option (List Txt)} {K' : Nat → Prop} (h : Jm B W K v6 m) (hs : Stp W K W' K') : Jm B W' K' v6 m := by
  obtain ⟨L, h1, h2, h3, h4⟩ := h
  exact ⟨L, h1, owns_turn h2 hs.1 (fun b hb => (h3 b hb).2), h3.stp hs, fun p hp => ⟨owns_turn (h4 p hp).1 hs.1 (fun b hb => ((h4 p hp).2 b hb).2), (h4 p hp).2.stp hs⟩⟩
theorem Jm.nil (B : Nat) (W : World) (K : Nat → Prop) : Jm B W K (.slice none 0 0) none := ⟨[], rfl, World.ownsRow_nil _ _ _ _, off_nil _ _, fun p hp => by simp at hp⟩
theorem off_newL (hK : ∀ i, K i → i < W.heap.size) (o : Obj) (n c : Nat) : Off (W.alloc o) K (.slice (some ⟨W.heap.size, 0, none⟩) n c) := fun b hb => by
  obtain rfl : W.heap.size = b := by simpa [Value.ownBlock] using hb
  exact ⟨by simp, fun hk => by have := hK _ hk; omega⟩
theorem Jm.one {B : Nat} {jv : Value} {k : List Txt} (hB : B ≤ W.heap.size) (hK : ∀ i, K i → i < W.heap.size) (h : W.ownsRow B 9 1 jv k.length (txV k)) (ho : Off W K jv) : Jm B (W.alloc (.cells #[jv] 23)) K (.slice (some ⟨W.heap.size, 0, none⟩) 1 1) (some k) :=
  ⟨[(jv, k)], rfl, ⟨rfl, .inr ⟨W.heap.size, 1, #[jv], rfl, hB, Cel.new W 23 #[jv], Nat.le_refl _, by decide, rfl, rfl⟩⟩, off_newL hK _ _ _, fun p hp => by
    simp only [List.mem_singleton] at hp
    subst hp
    exact ⟨h.alloc _, ho.below (below_new _ _)⟩⟩
theorem Jm.len {B : Nat} {v6 : Value} {m : Option (List Txt)} (h : Jm B W K v6 m) : ∃ n xs, n ≤ 1 ∧ W.ownsRow B 23 1 v6 n xs ∧ n = m.toList.length := by
  obtain ⟨L, h1, h2, h3, h4⟩ := h
  have : L.length = m.toList.length := by rw [← h1, List.length_map]
  refine ⟨L.length, _, ?_, h2, this⟩
  rw [this]
  cases m <;> simp
/-- One more. -/
theorem Jm.snoc {B : Nat} {v6 u v2 : Value} {m : Option (List Txt)} {l : List Txt} {w2 : World} {n : Nat} {xs : List Value} (h : Jm B W K v6 m) (hn : W.ownsRow B 23 1 v6 n xs) (hu : W.ownsRow B 9 1 u l.length (txV l))
    (hown : w2.ownsRow B 23 1 v2 (n + 1) (xs ++ [u])) (hg : (W.alloc (.cells #[u] 23)).grownBy w2 v6.ownBlock) : Tss w2 v2 (m.toList ++ [l]) ∧ Turn (fun i => B ≤ i ∧ ¬ K i) W w2 := by
  obtain ⟨L, h1, h2, h3, h4⟩ := h
  have hvn : L.length = n ∧ L.map Prod.fst = xs := by
    obtain ⟨a1, c1, e1⟩ := owns_slice h2
    obtain ⟨a2, c2, e2⟩ := owns_slice hn
    rw [e1] at e2
    cases e2
    refine ⟨rfl, ?_⟩
    rcases h2.2 with ⟨q1, q2⟩ | ⟨gg, cp, cur, q1, _, q2, _, _, _, q3⟩
    · have l1 := h2.1
      have l2 := hn.1
      rw [q2] at l1 l2
      rw [List.eq_nil_of_length_eq_zero (by omega : (L.map Prod.fst).length = 0), List.eq_nil_of_length_eq_zero (by omega : xs.length = 0)]
    · rcases hn.2 with ⟨p1, p2⟩ | ⟨gg', cp', cur', p1, _, p2, _, _, _, p3⟩
      · rw [q1] at p1
        cases p1
      · rw [q1] at p1
        cases p1
        rw [q2] at p2
        cases p2
        rw [← q3, ← p3]
  obtain ⟨rfl, rfl⟩ := hvn
  have hT := Turn.ofGrown hg
  have ha2 := h2.alloc (.cells #[u] 23)
  have key : ∀ {pv : Value} {q : List Txt}, W.ownsRow B 9 1 pv q.length (txV q) → Tx w2 pv q := fun ho => tx_own (owns_turn (ho.alloc _) hT (fun b hb e => owns_apart2 ha2 (ho.alloc _) (by decide) b e hb))
  refine ⟨?_, ?_⟩
  · have := tss_own (L := L ++ [(u, l)]) (B := B) (v := v2) (W := w2) (by rw [List.map_append, List.length_append]; exact hown) (fun p hp => ?_)
    · rw [List.map_append, h1] at this
      exact this
    · rcases List.mem_append.1 hp with hp | hp
      · exact key (h4 p hp).1
      · simp only [List.mem_singleton] at hp
        subst hp
        exact key hu
  · refine ((Turn.refl (fun i => B ≤ i ∧ ¬ K i) W).alloc (.cells #[u] 23)).trans hT (fun i hi hlt => ⟨(h2.lt i hi).1, (h3 i hi).2⟩)
set_option maxRecDepth 100000 in
set_option maxHeartbeats 8000000 in
theorem joinR_any (hG : WordC ea g) (v kv : Value) (B : Nat) (ks : List (List Nd)) (r : Wr) (hE : Ers W ea) (h : Rn W K rb cb sb kb s) (hK : Kds W B v kv ks) (hov : Off W K v) (hok : Off W K kv) (hks : ks.length < 4294967296) (hr : joinS g ks s none = some r) :
    Calls Tryz.prog 162 #[rP rb, kv] W (DoneW ea W K rb cb sb kb r) := by
  obtain ⟨i0, hi0, hz0, hz1, hz2⟩ := info_parts infoL23
  have HE : Hid (∀ w1 K1, Stp W K w1 K1 → Ers w1 ea) := fun w1 K1 q => hE.stp h q
  have HK : Hid (∀ w1 K1, Stp W K w1 K1 → Kds w1 B v kv ks ∧ Off w1 K1 v) := fun w1 K1 q => ⟨hK.turn q.1 (fun b hb => (hov b hb).2) (fun b hb => (hok b hb).2), hov.stp q⟩
  have HR0 : Hid (Rn W K rb cb sb kb s) := h
  have HCS : Hid (joinS g ks s none = some r) := hr
  have HG : Hid (WordC ea g) := hG
  obtain ⟨ad, cap, rfl⟩ := hK.form
  clear h hE hK hov hok hr hG
  go_enter Tryz.func162, Tryz.ntmps162
  go_wp2_with fail
  go_loopw [6, 14] (fun v6 v14 wr => ∃ (k : Nat) (sk : Sh) (m : Option (List Txt)) (Kk : Nat → Prop), v14 = .int .i64 k ∧ k ≤ ks.length ∧ Hid (joinS g (ks.drop k) sk m = some r) ∧ Hid (Rn wr Kk rb cb sb kb sk) ∧ Hid (Stp W K wr Kk) ∧ Hid (Jm W.heap.size wr Kk v6 m)) (fun _ v14 _ => ks.length - (intOf v14).toNat)
  case atStart => exact ⟨0, s, none, K, rfl, by omega, by rw [List.drop_zero]; exact HCS, HR0, Stp.refl W K, Jm.nil _ _ _⟩
  case round =>
    obtain ⟨k, sk, m, Kk, rfl, hk, HC, HR, HS, HJ⟩ := hrel
    by_cases hkl : k < ks.length
    · obtain ⟨x, hx⟩ : ∃ x, ks[k]? = some x := ⟨_, List.getElem?_eq_getElem hkl⟩
      have hdr : ks.drop k = x :: ks.drop (k + 1) := by
        obtain ⟨h1, h2⟩ := List.getElem?_eq_some_iff.1 hx
        rw [List.drop_eq_getElem_cons h1, h2]
      have hc := HC.out
      rw [hdr] at hc
      obtain ⟨s1, l, y, hg, hno, hyes⟩ := joinS_cons hc
      obtain ⟨hkd, hvo⟩ := HK.out _ _ HS.out
      obtain ⟨gb, cp, pv, hv, hgl, hcell, hnd, hpo⟩ := hkd.at hx
      cases hv
      have hw := HG.out wr Kk rb cb sb kb sk pv x (s1, l, y) (HE.out _ _ HS.out) HR.out hnd (hvo.pick hpo) hg
      have HW : Hid (Calls Tryz.prog 114 #[rP rb, pv] wr (DoneW ea wr Kk rb cb sb kb (s1, l, y))) := hw
      obtain ⟨pa, pc, rfl⟩ := hnd.form
      have HNO : Hid _ := hno
      have HYES : Hid _ := hyes
      clear hw hnd hkd hvo hpo hg hc hdr hx hno hyes
      go_wp2_with fail
      refine Calls.mono HW.out ?_
      rintro e w1 ⟨u, rfl, hu, K1, cb1, hr1, hs1, hcb1, huo⟩
      rcases xr_cases ea y with ⟨hy1, hy2⟩ | ⟨hy1, a, hy2⟩
      case inr =>
        have HB : Hid _ := (Rb.pre HS.out ⟨K1, cb1, hr1, hs1, hcb1⟩ : Rb W K rb cb sb kb s1 y w1)
        obtain rfl := HNO.out hy1
        obtain ⟨ua, uc, rfl⟩ := (tx_own hu).form
        clear hu hr1 hs1 hcb1 huo HW HNO HYES HC HR HS HJ
        simp only [hy2]
        go_wp2_with fail
        go_ret2
        have := doneW_err (ea := ea) hy1 HB.out
        rw [hy2] at this
        exact this
      obtain rfl := hcb1 hy1
      obtain ⟨hfl, hfm, hyy⟩ := HYES.out hy1
      have hs01 := Stp.trans HS.out hs1
      have hj1 : Jm W.heap.size w1 K1 u6 m := Jm.stp HJ.out hs1
      obtain ⟨n6, xs6, hn6, ho6, hn6e⟩ := hj1.len
      have hws : W.heap.size ≤ w1.heap.size := hs01.1.size
      have hu' : w1.ownsRow W.heap.size 9 1 u l.length (txV l) := owns_lower hu HS.out.1.size
      have HJ1 : Hid (∀ w2 v2, w2.ownsRow W.heap.size 23 1 v2 (n6 + 1) (xs6 ++ [u]) → (w1.alloc (.cells #[u] 23)).grownBy w2 u6.ownBlock → Calls Tryz.prog 209 #[v2] w2 (fun e w' => GotL w2.heap.size (ea 1) (joinB (m.toList ++ [l])) e w' ∧ Below w2.heap.size w2 w') ∧ Rn w2 K1 rb cb1 sb kb s1 ∧ Stp W K w2 K1 ∧ w1.heap.size ≤ w2.heap.size) := fun w2 v2 q1 q2 => by
        obtain ⟨t1, t2⟩ := hj1.snoc ho6 hu' q1 q2
        have hs2 : Stp W K w2 K1 := ⟨hs01.1.trans t2 (fun i hi hlt => by omega), hs01.2⟩
        have h1 := ((fitsB_iff l).1 hfl)
        refine ⟨join_any v2 (m.toList ++ [l]) w2 (ea 1) t1 (by cases m <;> simp) (fun q hq => ?_) (fun q hq => ?_) (HE.out _ _ hs2).eb, hr1.turn t2 (fun i hi hn => hn.2 hi), hs2, t2.size⟩
        · rcases List.mem_append.1 hq with hq | hq
          · obtain rfl : m = some q := by cases m <;> simp at hq ⊢; exact hq.symm
            have := ((fitsB_iff q).1 (hfm q rfl)).1
            omega
          · simp only [List.mem_singleton] at hq
            subst hq
            omega
        · intro z hz
          rcases List.mem_append.1 hq with hq | hq
          · obtain rfl : m = some q := by cases m <;> simp at hq ⊢; exact hq.symm
            have := ((fitsB_iff q).1 (hfm q rfl)).2 z hz
            omega
          · simp only [List.mem_singleton] at hq
            subst hq
            have := h1.2 z hz
            omega
      have hal := ho6.alloc (.cells #[u] 23)
      have HHY : Hid _ := hyy
      have HWS : Hid (W.heap.size ≤ w1.heap.size) := hws
      obtain ⟨ua, uc, rfl⟩ := (tx_own hu).form
      obtain ⟨ma, mc, rfl⟩ := owns_slice ho6
      clear hu hr1 hs1 hcb1 huo HW HNO HYES HC HR HS HJ hyy hs01 hfm hfl hj1 ho6 hu'
      simp only [hy2]
      go_wp2_with (at_builtin; refine wpList_append_own _ rfl _ _ 266 rfl W.heap.size 23 i0 _ 1 24 Tryz.underlying266 hi0 hz0 hz1 hz2 rfl (by decide) _ _ _ rfl hal ⟨w1.heap.size, 0, none⟩ 1 1 [.slice ua l.length uc] rfl rfl (cells_new _ [.slice ua l.length uc] _) (by simp [Value.oneCell']) (by have := maxLen_big; omega) (by omega) (by simp; omega) ?_; intro v2 w2 hown2 hgrow2 _)
      obtain ⟨hcal, hr2, hs2, hw2⟩ := HJ1.out _ _ hown2 hgrow2
      have HR2 : Hid (Rn w2 K1 rb cb1 sb kb s1) := hr2
      have HS2 : Hid (Stp W K w2 K1) := hs2
      have HW2 : Hid (W.heap.size ≤ w2.heap.size) := Nat.le_trans HWS.out hw2
      have HCAL : Hid _ := hcal
      clear hcal hr2 hs2 hw2 HJ1 hal hown2 hgrow2
      refine Calls.mono HCAL.out ?_
      rintro e w3 ⟨hgot, hb3⟩
      have hr3 := Rn.below HR2.out hb3
      have hs3 := Stp.trans HS2.out (Stp.ofBelow hb3)
      rcases HHY.out with ⟨hf, rfl⟩ | ⟨q, hf, hrest⟩
      · rw [hf] at hgot
        obtain rfl : e = .returned (.tuple #[.slice none 0 0, bigV (ea 1)]) := hgot
        have HB : Hid (Rb W K rb cb1 sb kb s1 .big w3) := Rb.of hr3 hs3
        clear hb3 hr3 hs3 HCAL HHY
        go_wp2_with fail
        go_ret2
        exact doneW_err (ea := ea) (by simp) HB.out
      · rw [hf] at hgot
        obtain ⟨v9, rfl, ho9⟩ := hgot
        have hlow := owns_lower ho9 HW2.out
        have hoff := off_own (Rn.lt HR2.out) ho9
        have HJ3 : Hid (Jm W.heap.size (w3.alloc (.cells #[v9] 23)) K1 (.slice (some ⟨w3.heap.size, 0, none⟩) 1 1) (some q)) := Jm.one (Nat.le_trans HW2.out hb3.size) (fun i hi => Nat.lt_of_lt_of_le (Rn.lt HR2.out i hi) hb3.size) hlow hoff
        have HR3 : Hid (Rn (w3.alloc (.cells #[v9] 23)) K1 rb cb1 sb kb s1) := hr3.below (below_new _ _)
        have HS3 : Hid (Stp W K (w3.alloc (.cells #[v9] 23)) K1) := hs3.trans (Stp.ofBelow (below_new _ _))
        have HC3 : Hid _ := hrest
        obtain ⟨a9, c9, rfl⟩ := owns_slice ho9
        clear hb3 hr3 hs3 HCAL HHY hlow hoff ho9 hrest
        go_wp2_with fail
        exact ⟨⟨k + 1, s1, some q, K1, by simp, by omega, HC3, HR3, HS3, HJ3⟩, by simp [intOf]; omega⟩
    · have hkz : k = ks.length := by omega
      subst hkz
      have hc := HC.out
      rw [List.drop_length] at hc
      obtain ⟨q, rfl, rfl⟩ : ∃ q, m = some q ∧ r = (sk, q, .ok) := by
        cases m with
        | none => simp [joinS] at hc
        | some q => exact ⟨q, rfl, by simpa [joinS] using hc.symm⟩
      obtain ⟨L, h1, h2, h3, h4⟩ := HJ.out
      obtain ⟨p, rfl⟩ : ∃ p, L = [p] := by
        have : L.length = 1 := by rw [← List.length_map (f := Prod.snd), h1]; rfl
        exact List.length_eq_one_iff.1 this
      obtain ⟨jv, jl⟩ := p
      obtain rfl : jl = q := by simpa using h1
      obtain ⟨g9, cp9, cur, hv9, _, hc9, _, _, _, ht9⟩ : ∃ gg cap cur, u6 = .slice (some ⟨gg, 0, none⟩) 1 cap ∧ W.heap.size ≤ gg ∧ wr.heap[gg]? = some (.cells cur 23) ∧ 1 ≤ cap ∧ cap ≤ maxLen ∧ cur.size = cap * 1 ∧ cur.toList.take (1 * 1) = [jv] := by
        rcases h2.2 with ⟨_, h0⟩ | hh
        · simp at h0
        · exact hh
      have c9 : wr.cell? ⟨g9, 0, none⟩ = some jv := by
        have e1 : wr.cell? ⟨g9, 0, none⟩ = cur[0]? := by simp [World.cell?, hc9]
        rw [e1, ← Array.getElem?_toList, ← List.getElem?_take_of_lt (show 0 < 1 * 1 by omega), ht9]
        rfl
      have hjo : wr.ownsRow W.heap.size 9 1 jv jl.length (txV jl) := (h4 (jv, jl) (by simp)).1
      have hjf : Off wr Kk jv := (h4 (jv, jl) (by simp)).2
      have HJO : Hid _ := hjo
      have HJF : Hid _ := hjf
      obtain ⟨a9, cc9, rfl⟩ := owns_slice hjo
      subst hv9
      clear hc HC HCS h1 h2 h3 h4 HJ hc9 ht9 hjo hjf
      go_wp2_with fail
      go_ret2
      exact doneW_rb HR.out HS.out HJO.out HJF.out
end Go.Proofs.YtfafhjglcaikoaaGreatDoor

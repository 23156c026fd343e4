/- The variables, by names. -/
import Derived.Test.YtikogljojnapaaaFuns
namespace Go.Proofs.Ytikogljojnapaaa
open Go.RowKit Go.Maps Go.Sort Go.Shelf

theorem keysV (mb : Option Nat) (W : World) : Calls Try.prog 37 #[.map mb] W fun e w' => e = .returned (.func (.func 47) #[] #[.pointer (some ⟨W.heap.size, 0, none⟩)]) ∧ w' = W.alloc (.cells #[.map mb] 44) :=
  (callsIn_wide (n := 5)).1 (maps_keysV mb W)
theorem sortedV {W : World} {vb : Nat} {V : Vrs} (hm : W.ownsMap Try.prog 9 hE vb V.length (dM V)) (hV : V.length < 4294967296) :
    Calls Try.prog 36 #[.func (.func 47) #[] #[.pointer (some ⟨W.heap.size, 0, none⟩)]] (W.alloc (.cells #[.map (some vb)] 44)) fun e w' => ∃ v, e = .returned v ∧ w'.ownsRow W.heap.size 9 1 v (V.map Prod.fst).length (txV (V.map Prod.fst)) ∧ Below W.heap.size W w' := by
  have hz : Maps.size (dM V) ≤ maxLen ∧ Maps.size (dM V) * 16 ≤ 140737488355328 := by
    rw [dM_size]
    have := maxLen_big
    omega
  refine ((callsIn_wide (n := 5)).1 (sorted_keysV vb V.length (dM V) hE W hm hz.1 hz.2)).mono ?_
  rintro e w2 ⟨v, ss, rfl, hS, hrow, hnil, hb⟩
  have hn := sorted_names hm ss hS
  have hl : ss.length = (V.map Prod.fst).length := by rw [← hn, List.length_mergeSort]
  rw [hn, enc_tx, hl] at hrow
  exact ⟨v, rfl, owns_lower hrow (by simp), (below_new _ _).trans (hb.mono (by simp))⟩

theorem info34 : (Try.prog.info? 34).map (fun i => (i.zero, i.size, i.bytes)) = some (some (.agg #[.string ⟨#[]⟩, .slice none 0 0]), 2, 40) := by kernel_rfl
def vaCs (Y : Vrs) : List Value := Y.flatMap fun p => [str p.1, p.2.1]
theorem vaCs_snoc (Y : Vrs) (p : Txt × Value × List Txt) : vaCs (Y ++ [p]) = vaCs Y ++ [str p.1, p.2.1] := by simp [vaCs]
/-- Values of one's own. -/
def VaOwn (W : World) (B : Nat) (v : Value) (Y : Vrs) : Prop := W.ownsRow B 34 2 v Y.length (vaCs Y) ∧ ∀ p ∈ Y, W.ownsRow B 9 1 p.2.1 p.2.2.length (txV p.2.2)
theorem VaOwn.nil (W : World) (B : Nat) : VaOwn W B (.slice none 0 0) [] := ⟨World.ownsRow_nil _ _ _ _, fun p hp => by simp at hp⟩
theorem VaOwn.below {W W' : World} {B : Nat} {v : Value} {Y : Vrs} (h : VaOwn W B v Y) (hb : Below W.heap.size W W') : VaOwn W' B v Y :=
  ⟨owns_turn h.1 (Turn.ofBelow (S := fun _ => False) hb) (fun _ _ h => h), fun p hp => owns_turn (h.2 p hp) (Turn.ofBelow (S := fun _ => False) hb) (fun _ _ h => h)⟩
theorem VaOwn.at {W : World} {B : Nat} {v : Value} {Y : Vrs} (h : VaOwn W B v Y) : VaAt W v Y := by
  refine ⟨RowAt.owned (e := 34) (B := B) ?_ (fun cs hcs => ?_), fun p hp => Tx.owned (h.2 p hp)⟩
  · rw [List.length_map, show (Y.map fun p => [str p.1, p.2.1]).flatMap id = vaCs Y by simp [vaCs, List.flatMap_map]]
    exact h.1
  · obtain ⟨p, _, rfl⟩ := List.mem_map.1 hcs
    rfl
/-- One more behind. -/
theorem VaOwn.snoc {W w2 w4 : World} {B : Nat} {v v' pv : Value} {Y : Vrs} {n : Txt} {l : List Txt} {o : Obj} (h : VaOwn W B v Y) (hb2 : Below W.heap.size W w2) (hB : B ≤ W.heap.size) (hp : w2.ownsRow W.heap.size 9 1 pv l.length (txV l))
    (hown : w4.ownsRow B 34 2 v' (Y.length + 1) (vaCs Y ++ [str n, pv])) (hg : (w2.alloc o).grownBy w4 v.ownBlock) :
    VaOwn w4 B v' (Y ++ [(n, pv, l)]) ∧ Below B W w4 ∧ ∀ {C k m : Nat} {u : Value} {xs : List Value}, W.ownsRow C 9 k u m xs → w4.ownsRow C 9 k u m xs := by
  have hb3 := hb2.alloc hb2.size o
  have h3 : VaOwn (w2.alloc o) B v Y := h.below hb3
  have hp3 : (w2.alloc o).ownsRow B 9 1 pv l.length (txV l) := owns_lower (owns_turn hp (Turn.ofBelow (S := fun _ => False) (below_new w2 o)) (fun _ _ h => h)) hB
  have hT := Turn.ofGrown hg
  have key : ∀ {C k m : Nat} {u : Value} {xs : List Value}, (w2.alloc o).ownsRow C 9 k u m xs → w4.ownsRow C 9 k u m xs := fun ho => owns_turn ho hT (fun b hb e' => owns_apart2 h3.1 ho (by decide) b e' hb)
  refine ⟨⟨by rw [vaCs_snoc, List.length_append]; exact hown, fun p hq => ?_⟩, ?_, fun ho => key (owns_turn ho (Turn.ofBelow (S := fun _ => False) hb3) (fun _ _ h => h))⟩
  · rcases List.mem_append.1 hq with hq | hq
    · exact key (h3.2 p hq)
    · simp only [List.mem_singleton] at hq
      subst hq
      exact key hp3
  · exact grown_own (Nat.le_trans hB hb3.size) (hb3.mono hB) h3.1 hg
theorem vaC_one (n : Txt) (ad : Option Addr) (m : Nat) {cap : Nat} : ∀ u ∈ [str n, Value.slice ad m cap], u.oneCell' = true := by
  intro u hu
  simp at hu
  rcases hu with rfl | rfl <;> rfl
def noStar {α : Type} (F : List (Txt × α)) : List (Txt × α) := F.filter fun p => !(p.1 == star)
variable {W : World} {K : Nat → Prop} {sb vb fb : Nat} {V : Vrs} {G : Fns}
theorem noStar_take_yes {V : Vrs} {k : Nat} {p : Txt × Value × List Txt} (hp : V[k]? = some p) (h : (p.1 == star) = false) : noStar (cont (V.take (k + 1))) = noStar (cont (V.take k)) ++ [(p.1, p.2.2)] := by
  rw [List.take_add_one, hp]
  simp [cont, noStar, h]
theorem noStar_take_no {V : Vrs} {k : Nat} {p : Txt × Value × List Txt} (hp : V[k]? = some p) (h : (p.1 == star) = true) : noStar (cont (V.take (k + 1))) = noStar (cont (V.take k)) := by
  rw [List.take_add_one, hp]
  simp [cont, noStar, h]
theorem getM_at {α : Type} {F : List (Txt × α)} (hF : F.Pairwise fun p q => bytesBefore p.1 q.1 = true) {p : Txt × α} (hp : p ∈ F) (z : α) : getM F p.1 z = p.2 := by
  have hh : hasM F p.1 = true := List.any_eq_true.2 ⟨p, hp, by simp⟩
  have hm := getM_mem (z := z) hh
  have irr : ∀ a : Txt, bytesBefore a a = false := by
    intro a
    induction a with
    | nil => rfl
    | cons c r ih => simp [bytesBefore, ih]
  have uniq : ∀ {l : List (Txt × α)}, l.Pairwise (fun p q => bytesBefore p.1 q.1 = true) → ∀ {q r : Txt × α}, q ∈ l → r ∈ l → q.1 = r.1 → q = r := by
    intro l hl
    induction hl with
    | nil => intro q r hq; simp at hq
    | cons hx _ ih =>
      intro q r hq hr e
      rcases List.mem_cons.1 hq with rfl | hq2 <;> rcases List.mem_cons.1 hr with rfl | hr2
      · rfl
      · have := hx r hr2
        rw [e, irr] at this
        cases this
      · have := hx q hq2
        rw [← e, irr] at this
        cases this
      · exact ih hq2 hr2 e
  have := uniq hF hm hp rfl
  exact (Prod.ext_iff.1 this).2
set_option maxRecDepth 100000 in
set_option maxHeartbeats 2000000 in
theorem vars_any (h : Sto W K sb vb fb V G) (hV : V.length < 4294967296) (hn : ∀ p ∈ V, p.1.length ≤ maxLen) :
    Calls Try.prog 13 #[sP sb] W fun e w' => ∃ v' Y, e = .returned v' ∧ VaOwn w' W.heap.size v' Y ∧ cont Y = noStar (cont V) ∧ Below W.heap.size W w' := by
  obtain ⟨i0, hi0, hz0, hz1, hz2⟩ := info_parts info34
  have c1 : W.cell? ⟨sb, 0, none⟩ = some (.map (some vb)) := h.sc.cell 0
  have HH : Hid (∀ W', Below W.heap.size W W' → Sto W' K sb vb fb V G) := fun W' hb => h.below hb
  have HN : Hid (∀ p ∈ V, p.1.length ≤ maxLen) := hn
  have HR : Hid (V.Pairwise fun p q => bytesBefore p.1 q.1 = true) := map_rising h.vm
  have HS : Hid (Calls Try.prog 36 #[.func (.func 47) #[] #[.pointer (some ⟨W.heap.size, 0, none⟩)]] (W.alloc (.cells #[.map (some vb)] 44)) fun e w' => ∃ v, e = .returned v ∧ w'.ownsRow W.heap.size 9 1 v (V.map Prod.fst).length (txV (V.map Prod.fst)) ∧ Below W.heap.size W w') := sortedV h.vm hV
  clear h hn
  go_enter Try.func13, Try.ntmps13
  go_wp2_with fail
  refine (keysV _ W).mono ?_
  rintro e w1 ⟨rfl, rfl⟩
  go_wp2_with fail
  refine Calls.mono HS.out ?_
  rintro e w2 ⟨vn, rfl, hon, hb2⟩
  have hll : (V.map Prod.fst).length = V.length := List.length_map _
  rw [hll] at hon
  obtain ⟨adn, capn, rfl⟩ := owns_slice hon
  have HON : Hid (w2.ownsRow W.heap.size 9 1 (.slice adn V.length capn) V.length (txV (V.map Prod.fst))) := hon
  clear hon hll HS c1
  go_wp2_with fail
  go_loopw [3, 5, 13] (fun v3 _ v13 wr => ∃ k : Nat, v13 = .int .i64 k ∧ k ≤ V.length ∧ ∃ Y, Hid (VaOwn wr W.heap.size v3 Y ∧ cont Y = noStar (cont (V.take k)) ∧ Y.length ≤ k ∧ wr.ownsRow W.heap.size 9 1 (.slice adn V.length capn) V.length (txV (V.map Prod.fst))) ∧ Below W.heap.size W wr) (fun _ _ v13 _ => V.length - (intOf v13).toNat)
  case atStart => exact ⟨0, rfl, Nat.zero_le _, [], ⟨VaOwn.nil _ _, rfl, Nat.le_refl _, HON.out⟩, hb2⟩
  case round =>
    obtain ⟨k, rfl, hk, Y, HI, hbr⟩ := hrel
    by_cases hkl : k < V.length
    · obtain ⟨p, hp⟩ : ∃ p, V[k]? = some p := ⟨_, List.getElem?_eq_getElem hkl⟩
      have hrow := HI.out.2.2.2
      have htx : Tx wr (.slice adn V.length capn) (V.map Prod.fst) := Tx.owned (B := W.heap.size) (by rw [List.length_map]; exact hrow)
      obtain ⟨g, o, cap', hv, _, hg, hce⟩ := htx.inRow (fun e => by
        have := congrArg List.length e
        simp at this
        rw [this] at hkl
        simp at hkl)
      rw [List.length_map] at hv
      cases hv
      have c0 := hce k p.1 (by rw [List.getElem?_map, hp]; rfl)
      have cs : wr.cell? ⟨sb, 0, none⟩ = some (.map (some vb)) := (HH.out _ hbr).sc.cell 0
      clear hce hg htx hrow
      cases hs : (p.1 == star) with
      | true =>
        have hs' : (p.1 == [42]) = true := hs
        have HE := noStar_take_no hp hs
        go_wp2_with fail
        refine ⟨⟨k + 1, by simp, by omega, Y, ⟨HI.out.1, HI.out.2.1.trans HE.symm, Nat.le_succ_of_le HI.out.2.2.1, HI.out.2.2.2⟩, hbr⟩, by simp [intOf]; omega⟩
      | false =>
        have hs' : (p.1 == [42]) = false := hs
        have HE : Hid (noStar (cont (V.take (k + 1))) = noStar (cont (V.take k)) ++ [(p.1, p.2.2)]) := noStar_take_yes hp hs
        have hpm := List.mem_of_getElem? hp
        have hlk := lookV (HH.out _ hbr).vm p.1 (HN.out p hpm) false
        simp only [Bool.false_eq_true, if_false, getM_at HR.out hpm] at hlk
        have hot := (HH.out _ hbr).vt p hpm
        obtain ⟨adp, capp, hvp⟩ := hot.tx.form
        rw [hvp] at hlk
        have HC : Hid (Calls Try.prog 38 #[.slice adp p.2.2.length capp] wr fun e w' => ∃ v', e = .returned v' ∧ w'.ownsRow wr.heap.size 9 1 v' p.2.2.length (txV p.2.2) ∧ Below wr.heap.size wr w') := by
          unfold Hid
          rw [← hvp]
          exact cloneT_any _ _ _ hot.tx ((HH.out _ hbr).vl p hpm)
        have hyl := HI.out.2.2.1
        obtain ⟨ady, capy, rfl⟩ := owns_slice HI.out.1.1
        clear hp hpm hot hvp
        go_wp2_with fail
        refine Calls.mono HC.out ?_
        rintro e w3 ⟨v3, rfl, ho3, hb3⟩
        obtain ⟨ad3, cap3, rfl⟩ := owns_slice ho3
        have HO3 : Hid (w3.ownsRow wr.heap.size 9 1 (.slice ad3 p.2.2.length cap3) p.2.2.length (txV p.2.2)) := ho3
        have hoA : (w3.alloc (.cells #[str p.1, .slice ad3 p.2.2.length cap3] 34)).ownsRow W.heap.size 34 2 (.slice ady Y.length capy) Y.length (vaCs Y) := (HI.out.1.below (hb3.alloc hb3.size _)).1
        have hzb := Nat.le_trans hbr.size hb3.size
        clear ho3
        go_wp2_with (at_builtin; refine wpList_append_own_at _ rfl _ _ 22 rfl W.heap.size 34 i0 _ 2 40 Try.underlying22 hi0 hz0 hz1 hz2 rfl (by decide) _ _ _ rfl hoA ⟨w3.heap.size, 0, none⟩ 1 1 [str p.1, .slice ad3 p.2.2.length cap3] rfl rfl (cells_new w3 _ 34) (vaC_one _ _ _) (by have := maxLen_big; omega) (by omega) (Nat.le_trans hzb (below_new _ _).size) ?_; intro v2 w4 hown2 hgrow2 _ _)
        obtain ⟨q1, q2, q3⟩ := HI.out.1.snoc hb3 hbr.size HO3.out hown2 hgrow2
        refine ⟨⟨k + 1, by simp, by omega, _, ⟨q1, ?_, ?_, q3 HI.out.2.2.2⟩, hbr.trans q2⟩, by simp [intOf]; omega⟩
        · rw [HE.out, ← HI.out.2.1]
          simp [cont]
        · rw [List.length_append]
          simp
          omega
    · have hkz : k = V.length := by omega
      subst hkz
      go_wp2_with fail
      go_ret
      obtain ⟨q1, q2, _⟩ := HI.out
      rw [List.take_length] at q2
      exact ⟨_, Y, rfl, q1, q2, hbr⟩
end Go.Proofs.Ytikogljojnapaaa

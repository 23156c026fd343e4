/- Whatever is called, with whatever arguments and to be heard, does what the chapter says. -/
import Derived.Test.YtiddlineklfhfaaDoorNames
import Derived.Test.YtiddlineklfhfaaDoorFirst
namespace Go.Proofs.YtiddlineklfhfaaDoor
open Go.RowKit Go.Shelf
attribute [local go_sem] Oper.semAt_some

theorem bstep5 {B : Nat} {w W W' : World} (h : Below B w W) (k : Below W.heap.size W W') (hB : B ≤ w.heap.size) : Below B w W' := h.trans (k.mono (Nat.le_trans hB h.size))
/-- Both say the same. -/
def Both (nm s : ByteArray) (v : Value) (w : World) (o : Oc) (b : Bool) : Prop :=
  (∀ W, Below w.heap.size w W → Calls Tryd.prog 9 #[.string nm, .string s, v] W fun e w' => e = .returned (.tuple #[ocV o, .bool b]) ∧ Below W.heap.size W w') ∧
  (∀ W, Below w.heap.size w W → Calls Tryd.prog 10 #[.string nm, .string s, v] W fun e w' => e = .returned (.tuple #[ocV o, .bool b]) ∧ Below W.heap.size W w')
theorem mk_of (nm : ByteArray) (l : List UInt8) (h : nm.data.toList = l) : nm = ⟨l.toArray⟩ := by rw [← h]
theorem not_of (nm : ByteArray) (l : List UInt8) (h : ¬ nm.data.toList = l) : (nm.toList == l) = false := by rw [ByteArray.toList_eq, beq_eq_false_iff_ne]; exact h
theorem both_of (nm s : ByteArray) (v : Value) (l : List (List UInt8)) (w : World) (h : Tx w v l) (hn : l.length ≤ 20) (hz : sumT l ≤ 3000) (hs : s.size ≤ 3000) (hP : ∀ W, Below w.heap.size w W → Pow W) : ∃ o, Both nm s v w o (isB nm.data.toList) := by
  have hT : ∀ W, Below w.heap.size w W → Tx W v l := fun W hW => h.below hW (Nat.le_refl _)
  have hm : ∀ p ∈ l, p.length < 4294967296 := fun p hp => by have := sum_mem l p hp; omega
  by_cases h0 : nm.data.toList = [97, 100, 100]
  · obtain rfl := mk_of nm _ h0
    exact ⟨_, fun W hW => do_add s v l W (hT W hW) (by omega) (fun W2 hW2 => hP W2 (bstep5 hW hW2 (Nat.le_refl _))), fun W hW => rdo_add s v l W (hT W hW) hn hz⟩
  by_cases h1 : nm.data.toList = [99, 97, 116]
  · obtain rfl := mk_of nm _ h1
    exact ⟨_, fun W hW => do_cat s v l W (hT W hW), fun W hW => rdo_cat s v l W (hT W hW) hn hz⟩
  by_cases h2 : nm.data.toList = [101, 99, 104, 111]
  · obtain rfl := mk_of nm _ h2
    exact ⟨_, fun W hW => do_echo s v l W (hT W hW) (by omega) (by omega), fun W hW => rdo_echo s v l W (hT W hW) hn hz⟩
  by_cases h3 : nm.data.toList = [101, 113]
  · obtain rfl := mk_of nm _ h3
    exact ⟨_, fun W hW => do_eq s v l W (hT W hW) (by omega), fun W hW => rdo_eq s v l W (hT W hW) hn hz⟩
  by_cases h4 : nm.data.toList = [101, 120, 105, 116]
  · obtain rfl := mk_of nm _ h4
    exact ⟨_, fun W hW => do_exit s v l W (hT W hW) (by omega), fun W hW => rdo_exit s v l W (hT W hW) hn hz⟩
  by_cases h5 : nm.data.toList = [102, 97, 108, 115, 101]
  · obtain rfl := mk_of nm _ h5
    exact ⟨_, fun W hW => do_false s v l W (hT W hW), fun W hW => rdo_false s v l W (hT W hW) hn hz⟩
  by_cases h6 : nm.data.toList = [108, 101, 115, 115]
  · obtain rfl := mk_of nm _ h6
    exact ⟨_, fun W hW => do_less s v l W (hT W hW) (by omega), fun W hW => rdo_less s v l W (hT W hW) hn hz⟩
  by_cases h7 : nm.data.toList = [108, 105, 107, 101]
  · obtain rfl := mk_of nm _ h7
    exact ⟨_, fun W hW => do_like s v l W (hT W hW) (by omega) hm, fun W hW => rdo_like s v l W (hT W hW) hn hz⟩
  by_cases h8 : nm.data.toList = [112, 117, 116]
  · obtain rfl := mk_of nm _ h8
    exact ⟨_, fun W hW => do_put s v l W (hT W hW) (by omega) (by omega), fun W hW => rdo_put s v l W (hT W hW) hn hz⟩
  by_cases h9 : nm.data.toList = [114, 101, 97, 100]
  · obtain rfl := mk_of nm _ h9
    exact ⟨_, fun W hW => do_read s v l W (hT W hW) (by omega) (by omega), fun W hW => rdo_read s v l W (hT W hW) hn hz hs⟩
  by_cases h10 : nm.data.toList = [116, 114, 117, 101]
  · obtain rfl := mk_of nm _ h10
    exact ⟨_, fun W hW => do_true s v l W (hT W hW), fun W hW => rdo_true s v l W (hT W hW) hn hz⟩
  have hb : isB nm.data.toList = false := by
    unfold isB nms
    simp only [List.any_cons, List.any_nil, Bool.or_false, Bool.or_eq_false_iff, beq_eq_false_iff_ne]
    exact ⟨fun e => h0 e.symm, fun e => h1 e.symm, fun e => h2 e.symm, fun e => h3 e.symm, fun e => h4 e.symm, fun e => h5 e.symm, fun e => h6 e.symm, fun e => h7 e.symm, fun e => h8 e.symm, fun e => h9 e.symm, fun e => h10 e.symm⟩
  rw [hb]
  exact ⟨_, fun W hW => do_none nm s v l W (hT W hW) (not_of nm _ h0) (not_of nm _ h1) (not_of nm _ h2) (not_of nm _ h3) (not_of nm _ h4) (not_of nm _ h5) (not_of nm _ h6) (not_of nm _ h7) (not_of nm _ h8) (not_of nm _ h9) (not_of nm _ h10), fun W hW => rdo_none nm s v l W (hT W hW) hn hz (not_of nm _ h0) (not_of nm _ h1) (not_of nm _ h2) (not_of nm _ h3) (not_of nm _ h4) (not_of nm _ h5) (not_of nm _ h6) (not_of nm _ h7) (not_of nm _ h8) (not_of nm _ h9) (not_of nm _ h10)⟩
theorem sum_take {l : List (List UInt8)} {k : Nat} {p : List UInt8} (hp : l[k]? = some p) : sumT (l.take (k + 1)) = sumT (l.take k) + p.length := by
  rw [List.take_add_one, hp]
  simp [sumT]
set_option maxRecDepth 100000 in
set_option maxHeartbeats 4000000 in
theorem does_any (nm s : ByteArray) (v : Value) (l : List (List UInt8)) (w : World) (h : Tx w v l) (hn : l.length < 140737488355328) (hz : ∀ s ∈ l, s.length ≤ 140737488355328) (hP : ∀ W, Below w.heap.size w W → Pow W) :
    Calls Tryd.prog 3 #[.string nm, .string s, v] w fun e w' => e = .returned (.bool true) ∧ Below w.heap.size w w' := by
  have HP : Hid (∀ W, Below w.heap.size w W → Pow W) := hP
  have HT : Hid (∀ W, Below w.heap.size w W → Tx W v l) := fun W hW => h.below hW (Nat.le_refl _)
  have HT0 : Hid (Tx w v l) := h
  have HZ : Hid (∀ s ∈ l, s.length ≤ 140737488355328) := hz
  clear hP hz
  obtain ⟨ad, cap, rfl⟩ := h.form
  clear h
  by_cases h8 : 20 < l.length
  · go_enter Tryd.func3, Tryd.ntmps3
    go_wp2_with fail
    refine (first_any w HP.out).mono ?_
    rintro e w1 ⟨rfl, HB⟩
    have HB : Hid (Below w.heap.size w w1) := HB
    go_wp2_with fail
    go_ret
    exact ⟨rfl, HB.out⟩
  by_cases h5 : 3000 < s.size
  · go_enter Tryd.func3, Tryd.ntmps3
    go_wp2_with fail
    refine (first_any w HP.out).mono ?_
    rintro e w1 ⟨rfl, HB⟩
    have HB : Hid (Below w.heap.size w w1) := HB
    go_wp2_with fail
    go_ret
    exact ⟨rfl, HB.out⟩
  by_cases h6 : 100 < nm.size
  · go_enter Tryd.func3, Tryd.ntmps3
    go_wp2_with fail
    refine (first_any w HP.out).mono ?_
    rintro e w1 ⟨rfl, HB⟩
    have HB : Hid (Below w.heap.size w w1) := HB
    go_wp2_with fail
    go_ret
    exact ⟨rfl, HB.out⟩
  go_enter Tryd.func3, Tryd.ntmps3
  go_wp2_with fail
  refine (first_any w HP.out).mono ?_
  rintro e w1 ⟨rfl, HB⟩
  have HB : Hid (Below w.heap.size w w1) := HB
  go_wp2_with fail
  go_loop [8, 9] (fun t i => ∃ (k n : Nat), k ≤ l.length ∧ i = .int .i64 k ∧ t = .int .i64 n ∧ n ≤ k * 140737488355328 ∧ Hid (n = sumT (l.take k))) (fun _ i => l.length - (intOf i).toNat)
  case atStart => exact ⟨0, 0, by omega, rfl, rfl, by omega, rfl⟩
  case round =>
    obtain ⟨k, n, hk, rfl, rfl, hnk, HS⟩ := hrel
    by_cases hlt : k < l.length
    · obtain ⟨p, hp⟩ : ∃ p, l[k]? = some p := ⟨_, List.getElem?_eq_getElem hlt⟩
      obtain ⟨g, o, cap', hv, hc, hg, hcell⟩ := (HT.out _ HB.out).inRow (fun e => by rw [e] at hlt; simp at hlt)
      cases hv
      have hpl := HZ.out p (List.mem_of_getElem? hp)
      have c := hcell k p hp
      have HPK : Hid (l[k]? = some p) := hp
      clear hcell hp
      go_wp2_with fail
      go_round
      case rel => exact ⟨k + 1, n + p.length, by omega, by go_num, by go_num, by omega, by rw [HS.out]; exact (sum_take HPK.out).symm⟩
      case measure => simp [intOf]; omega
    · have hk2 : k = l.length := by omega
      have HS : Hid (n = sumT l) := by
        have := HS.out
        rw [hk2, List.take_length] at this
        exact this
      clear hk2
      by_cases h3 : 3000 < n
      · go_wp2_with fail
        go_ret
        exact ⟨rfl, HB.out⟩
      by_cases hlk : (nm.toList == [108, 105, 107, 101]) = true ∧ 200 < n
      · obtain ⟨hk1, hk2⟩ := hlk
        go_wp2_with fail
        go_ret
        exact ⟨rfl, HB.out⟩
      obtain ⟨⟨o0, o1, o2, o3, o4, o5⟩, hB9, hB10⟩ := both_of nm s _ l w HT0.out (by omega) (by rw [← HS.out]; omega) (by omega) HP.out
      obtain ⟨b, hb⟩ : ∃ b, isB nm.data.toList = b := ⟨_, rfl⟩
      rw [hb] at hB9 hB10
      have HB9 : Hid (∀ W, Below w.heap.size w W → Calls Tryd.prog 9 #[.string nm, .string s, .slice ad l.length cap] W fun e w' => e = .returned (.tuple #[.agg #[str o0, str o1, .int .i64 o2, str o3, str o4, .bool o5], .bool b]) ∧ Below W.heap.size W w') := hB9
      have HB10 : Hid (∀ W, Below w.heap.size w W → Calls Tryd.prog 10 #[.string nm, .string s, .slice ad l.length cap] W fun e w' => e = .returned (.tuple #[.agg #[str o0, str o1, .int .i64 o2, str o3, str o4, .bool o5], .bool b]) ∧ Below W.heap.size W w') := hB10
      have HIS : Hid (∀ W, Calls Tryd.prog 11 #[.string nm] W fun e w' => e = .returned (.bool b) ∧ Below W.heap.size W w') := fun W => by
        have := is_any8 nm.data.toList W
        rw [hb] at this
        exact this
      clear hb hB9 hB10
      have hd : ((nm.toList == [108, 105, 107, 101]) && decide ((200 : Int) < n)) = false := by
        rw [Bool.eq_false_iff]
        intro e
        rw [Bool.and_eq_true] at e
        exact hlk ⟨e.1, by have := of_decide_eq_true e.2; omega⟩
      by_cases hlk2 : (nm.toList == [108, 105, 107, 101]) = true
      · have hd2 : ¬ 200 < n := fun e => hlk ⟨hlk2, e⟩
        clear hd hlk
        go_wp2_with fail
        refine (HB9.out _ HB.out).mono ?_
        rintro e w2 ⟨rfl, hw⟩
        have HB : Hid (Below w.heap.size w w2) := bstep5 HB.out hw (Nat.le_refl _)
        clear hw
        go_wp2_with fail
        refine (HB10.out _ (bstep5 HB.out (below_new _ _) (Nat.le_refl _))).mono ?_
        rintro e w3 ⟨rfl, hw⟩
        have KA : Hid (Cel w3 w2.heap.size 25 #[str o0, str o1, .int .i64 o2, str o3, str o4, .bool o5]) := (Cel.new w2 25 _).later hw
        have HB : Hid (Below w.heap.size w w3) := bstep5 (bstep5 HB.out (below_new _ _) (Nat.le_refl _)) hw (Nat.le_refl _)
        clear hw
        generalize w2.heap.size = ba at *
        have a0 : w3.cell? ⟨ba, 0, none⟩ = some (str o0) := KA.out.cell 0
        have a1 : w3.cell? ⟨ba, 1, none⟩ = some (str o1) := KA.out.cell 1
        have a2 : w3.cell? ⟨ba, 2, none⟩ = some (.int .i64 o2) := KA.out.cell 2
        have a3 : w3.cell? ⟨ba, 3, none⟩ = some (str o3) := KA.out.cell 3
        have a4 : w3.cell? ⟨ba, 4, none⟩ = some (str o4) := KA.out.cell 4
        have a5 : w3.cell? ⟨ba, 5, none⟩ = some (.bool o5) := KA.out.cell 5
        have la := KA.out.lt
        have HB2 : Hid (Below w.heap.size w (w3.alloc (.cells #[str o0, str o1, .int .i64 o2, str o3, str o4, .bool o5] 28))) := bstep5 HB.out (below_new _ _) (Nat.le_refl _)
        go_wp2_with fail
        refine (HIS.out _).mono ?_
        rintro e w4 ⟨rfl, hw4⟩
        have HB : Hid (Below w.heap.size w w4) := bstep5 HB2.out hw4 (Nat.le_refl _)
        clear hw4 HB2
        go_wp2_with fail
        refine (names_tx _).mono ?_
        rintro e w5 ⟨v5, rfl, ht5, hw5⟩
        have HB : Hid (Below w.heap.size w w5) := bstep5 HB.out hw5 (Nat.le_refl _)
        clear hw5
        have HT5 : Hid (Tx w5 v5 nms) := ht5
        obtain ⟨ad5, cap5, rfl⟩ := ht5.form
        clear ht5
        obtain ⟨L, hL⟩ : ∃ L, nms.length = L := ⟨_, rfl⟩
        rw [hL] at HT5 ⊢
        go_wp2_with fail
        refine (builtins_tx _).mono ?_
        rintro e w6 ⟨v6, rfl, ht6, hw6⟩
        have HB : Hid (Below w.heap.size w w6) := bstep5 HB.out hw6 (Nat.le_refl _)
        have HSM : Hid (Calls Tryd.prog 12 #[.slice ad5 L cap5, v6] w6 fun e w' => e = .returned (.bool true) ∧ Below w6.heap.size w6 w') := same_yes _ _ nms w6 (HT5.out.below hw6 (Nat.le_refl _)) ht6 (by decide) (by decide)
        clear hw6
        obtain ⟨ad6, cap6, rfl⟩ := ht6.form
        rw [hL] at HSM ⊢
        clear ht6 hL
        go_wp2_with fail
        refine HSM.out.mono ?_
        rintro e w7 ⟨rfl, hw7⟩
        have HB : Hid (Below w.heap.size w w7) := bstep5 HB.out hw7 (Nat.le_refl _)
        clear hw7
        go_wp2_with fail
        go_ret
        exact ⟨rfl, HB.out⟩
      · have hlk3 : (nm.toList == [108, 105, 107, 101]) = false := by simpa using hlk2
        clear hd hlk hlk2
        go_wp2_with fail
        refine (HB9.out _ HB.out).mono ?_
        rintro e w2 ⟨rfl, hw⟩
        have HB : Hid (Below w.heap.size w w2) := bstep5 HB.out hw (Nat.le_refl _)
        clear hw
        go_wp2_with fail
        refine (HB10.out _ (bstep5 HB.out (below_new _ _) (Nat.le_refl _))).mono ?_
        rintro e w3 ⟨rfl, hw⟩
        have KA : Hid (Cel w3 w2.heap.size 25 #[str o0, str o1, .int .i64 o2, str o3, str o4, .bool o5]) := (Cel.new w2 25 _).later hw
        have HB : Hid (Below w.heap.size w w3) := bstep5 (bstep5 HB.out (below_new _ _) (Nat.le_refl _)) hw (Nat.le_refl _)
        clear hw
        generalize w2.heap.size = ba at *
        have a0 : w3.cell? ⟨ba, 0, none⟩ = some (str o0) := KA.out.cell 0
        have a1 : w3.cell? ⟨ba, 1, none⟩ = some (str o1) := KA.out.cell 1
        have a2 : w3.cell? ⟨ba, 2, none⟩ = some (.int .i64 o2) := KA.out.cell 2
        have a3 : w3.cell? ⟨ba, 3, none⟩ = some (str o3) := KA.out.cell 3
        have a4 : w3.cell? ⟨ba, 4, none⟩ = some (str o4) := KA.out.cell 4
        have a5 : w3.cell? ⟨ba, 5, none⟩ = some (.bool o5) := KA.out.cell 5
        have la := KA.out.lt
        have HB2 : Hid (Below w.heap.size w (w3.alloc (.cells #[str o0, str o1, .int .i64 o2, str o3, str o4, .bool o5] 28))) := bstep5 HB.out (below_new _ _) (Nat.le_refl _)
        go_wp2_with fail
        refine (HIS.out _).mono ?_
        rintro e w4 ⟨rfl, hw4⟩
        have HB : Hid (Below w.heap.size w w4) := bstep5 HB2.out hw4 (Nat.le_refl _)
        clear hw4 HB2
        go_wp2_with fail
        refine (names_tx _).mono ?_
        rintro e w5 ⟨v5, rfl, ht5, hw5⟩
        have HB : Hid (Below w.heap.size w w5) := bstep5 HB.out hw5 (Nat.le_refl _)
        clear hw5
        have HT5 : Hid (Tx w5 v5 nms) := ht5
        obtain ⟨ad5, cap5, rfl⟩ := ht5.form
        clear ht5
        obtain ⟨L, hL⟩ : ∃ L, nms.length = L := ⟨_, rfl⟩
        rw [hL] at HT5 ⊢
        go_wp2_with fail
        refine (builtins_tx _).mono ?_
        rintro e w6 ⟨v6, rfl, ht6, hw6⟩
        have HB : Hid (Below w.heap.size w w6) := bstep5 HB.out hw6 (Nat.le_refl _)
        have HSM : Hid (Calls Tryd.prog 12 #[.slice ad5 L cap5, v6] w6 fun e w' => e = .returned (.bool true) ∧ Below w6.heap.size w6 w') := same_yes _ _ nms w6 (HT5.out.below hw6 (Nat.le_refl _)) ht6 (by decide) (by decide)
        clear hw6
        obtain ⟨ad6, cap6, rfl⟩ := ht6.form
        rw [hL] at HSM ⊢
        clear ht6 hL
        go_wp2_with fail
        refine HSM.out.mono ?_
        rintro e w7 ⟨rfl, hw7⟩
        have HB : Hid (Below w.heap.size w w7) := bstep5 HB.out hw7 (Nat.le_refl _)
        clear hw7
        go_wp2_with fail
        go_ret
        exact ⟨rfl, HB.out⟩
end Go.Proofs.YtiddlineklfhfaaDoor

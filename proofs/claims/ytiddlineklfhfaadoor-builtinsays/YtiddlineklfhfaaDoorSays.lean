/- What is echoed is the arguments with spaces between; what is catted is all that there is. -/
import Derived.Test.YtiddlineklfhfaaDoorFirst
namespace Go.Proofs.YtiddlineklfhfaaDoor
open Go.RowKit Go.Shelf
attribute [local go_sem] Oper.semAt_some

theorem bstep3 {B : Nat} {w W W' : World} (h : Below B w W) (k : Below W.heap.size W W') (hB : B ≤ w.heap.size) : Below B w W' := h.trans (k.mono (Nat.le_trans hB h.size))
theorem sumT_le (n : Nat) : ∀ l : List (List UInt8), (∀ s ∈ l, s.length ≤ n) → sumT l ≤ l.length * n
  | [], _ => by simp [sumT]
  | a :: l, h => by
    have ih := sumT_le n l (fun s hs => h s (by simp [hs]))
    have ha := h a (by simp)
    simp only [sumT, List.map_cons, List.sum_cons, List.length_cons] at ih ⊢
    rw [Nat.succ_mul]
    omega
theorem join_cons (a b : List UInt8) (r : List (List UInt8)) : Lib.join (a :: b :: r) [32] = a ++ [32] ++ Lib.join (b :: r) [32] := by simp [Lib.join]
theorem join_snoc (l : List (List UInt8)) (p : List UInt8) (h : l ≠ []) : Lib.join (l ++ [p]) [32] = Lib.join l [32] ++ [32] ++ p := by
  induction l with
  | nil => exact absurd rfl h
  | cons a l ih =>
    cases l with
    | nil => simp [Lib.join]
    | cons b r =>
      have := ih (by simp)
      rw [List.cons_append, List.cons_append, join_cons, ← List.cons_append, this, join_cons]
      simp
theorem take_all3 {l : List (List UInt8)} {k : Nat} {p : List UInt8} (hp : l[k]? = some p) (h : ∀ s ∈ l.take k, s.length ≤ 100) (hl : p.length ≤ 100) : ∀ s ∈ l.take (k + 1), s.length ≤ 100 := by
  rw [List.take_add_one, hp]
  intro s hs
  rcases List.mem_append.1 hs with h1 | h1
  · exact h s h1
  · simp at h1; rw [h1]; exact hl
theorem join_first {l : List (List UInt8)} {p : List UInt8} (hp : l[0]? = some p) : Lib.join (l.take (0 + 1)) [32] = p := by
  rw [List.take_add_one, hp]
  simp [Lib.join]
theorem join_next {l : List (List UInt8)} {k : Nat} {p : List UInt8} (hp : l[k]? = some p) (hk : 0 < k) : Lib.join (l.take (k + 1)) [32] = Lib.join (l.take k) [32] ++ [32] ++ p := by
  rw [List.take_add_one, hp]
  refine join_snoc _ _ (fun e => ?_)
  have hlt := (List.getElem?_eq_some_iff.1 hp).1
  have := congrArg List.length e
  simp at this
  rcases this with h | h
  · omega
  · rw [h] at hlt; simp at hlt
theorem join_small (l : List (List UInt8)) (k : Nat) (hk : k ≤ 10) (h : ∀ s ∈ l.take k, s.length ≤ 100) : (Lib.join (l.take k) [32]).length ≤ 1010 := by
  have h1 := join_len (l.take k)
  have h2 := sumT_le 100 (l.take k) h
  have h3 : (l.take k).length ≤ 10 := Nat.le_trans (List.length_take_le _ _) hk
  have h4 : (l.take k).length * 100 ≤ 10 * 100 := Nat.mul_le_mul_right _ h3
  omega
section
variable (v : Value) (l : List (List UInt8)) (s : ByteArray) (w : World) (h : Tx w v l)
include h
theorem do_echoS (hn : l.length ≤ 10) (hz : ∀ s ∈ l, s.length ≤ 100) : Calls Tryd.prog 9 #[.string ⟨#[101, 99, 104, 111]⟩, .string s, v] w fun e w' => e = .returned (.tuple #[.agg #[str (Lib.join l [32] ++ [10]), .string s, .int .i64 0, .string ⟨#[]⟩, .string ⟨#[]⟩, .bool false], .bool true]) ∧ Below w.heap.size w w' := do_echo s v l w h (by have := sumT_le 100 l hz; have : l.length * 100 ≤ 10 * 100 := Nat.mul_le_mul_right _ hn; omega) (by omega)
theorem do_putS (hn : l.length ≤ 10) (hz : ∀ s ∈ l, s.length ≤ 100) : Calls Tryd.prog 9 #[.string ⟨#[112, 117, 116]⟩, .string s, v] w fun e w' => e = .returned (.tuple #[.agg #[str (Lib.join l [32]), .string s, .int .i64 0, .string ⟨#[]⟩, .string ⟨#[]⟩, .bool false], .bool true]) ∧ Below w.heap.size w w' := do_put s v l w h (by have := sumT_le 100 l hz; have : l.length * 100 ≤ 10 * 100 := Nat.mul_le_mul_right _ hn; omega) (by omega)
theorem do_catS : Calls Tryd.prog 9 #[.string ⟨#[99, 97, 116]⟩, .string s, v] w fun e w' => e = .returned (.tuple #[.agg #[.string s, .string ⟨#[]⟩, .int .i64 0, .string ⟨#[]⟩, .string ⟨#[]⟩, .bool false], .bool true]) ∧ Below w.heap.size w w' := do_cat s v l w h
theorem do_trueS : Calls Tryd.prog 9 #[.string ⟨#[116, 114, 117, 101]⟩, .string s, v] w fun e w' => e = .returned (.tuple #[.agg #[.string ⟨#[]⟩, .string s, .int .i64 0, .string ⟨#[]⟩, .string ⟨#[]⟩, .bool false], .bool true]) ∧ Below w.heap.size w w' := do_true s v l w h
theorem do_falseS : Calls Tryd.prog 9 #[.string ⟨#[102, 97, 108, 115, 101]⟩, .string s, v] w fun e w' => e = .returned (.tuple #[.agg #[.string ⟨#[]⟩, .string s, .int .i64 1, .string ⟨#[]⟩, .string ⟨#[]⟩, .bool false], .bool true]) ∧ Below w.heap.size w w' := do_false s v l w h
end
set_option maxRecDepth 100000 in
set_option maxHeartbeats 4000000 in
theorem says_any (v : Value) (l : List (List UInt8)) (s : ByteArray) (w : World) (h : Tx w v l) (hn : l.length < 140737488355328) (hz : ∀ s ∈ l, s.length ≤ 140737488355328) (hP : ∀ W, Below w.heap.size w W → Pow W) :
    Calls Tryd.prog 6 #[v, .string s] w fun e w' => e = .returned (.bool true) ∧ Below w.heap.size w w' := by
  have HP : Hid (∀ W, Below w.heap.size w W → Pow W) := hP
  have HT : Hid (∀ W, Below w.heap.size w W → Tx W v l) := fun W hW => h.below hW (Nat.le_refl _)
  have HZ : Hid (∀ s ∈ l, s.length ≤ 140737488355328) := hz
  clear hP hz
  obtain ⟨ad, cap, rfl⟩ := h.form
  clear h
  by_cases h8 : 10 < l.length
  · go_enter Tryd.func6, Tryd.ntmps6
    go_wp2_with fail
    refine (first_any w HP.out).mono ?_
    rintro e w1 ⟨rfl, HB⟩
    have HB : Hid (Below w.heap.size w w1) := HB
    go_wp2_with fail
    go_ret
    exact ⟨rfl, HB.out⟩
  by_cases h5 : 500 < s.size
  · go_enter Tryd.func6, Tryd.ntmps6
    go_wp2_with fail
    refine (first_any w HP.out).mono ?_
    rintro e w1 ⟨rfl, HB⟩
    have HB : Hid (Below w.heap.size w w1) := HB
    go_wp2_with fail
    go_ret
    exact ⟨rfl, HB.out⟩
  go_enter Tryd.func6, Tryd.ntmps6
  go_wp2_with fail
  refine (first_any w HP.out).mono ?_
  rintro e w1 ⟨rfl, HB⟩
  have HB : Hid (Below w.heap.size w w1) := HB
  go_wp2_with fail
  go_loop [6, 7] (fun t i => ∃ (k : Nat) (J : List UInt8), k ≤ l.length ∧ i = .int .i64 k ∧ t = str J ∧ J.length ≤ 1010 ∧ Hid (J = Lib.join (l.take k) [32]) ∧ Hid (∀ s ∈ l.take k, s.length ≤ 100)) (fun _ i => l.length - (intOf i).toNat)
  case atStart => exact ⟨0, [], by omega, rfl, rfl, by simp, rfl, fun s hs => by simp at hs⟩
  case round =>
    obtain ⟨k, J, hk, rfl, rfl, hJ, HJ, hh⟩ := hrel
    by_cases hlt : k < l.length
    · obtain ⟨p, hp⟩ : ∃ p, l[k]? = some p := ⟨_, List.getElem?_eq_getElem hlt⟩
      obtain ⟨g, o, cap', hv, hc, hg, hcell⟩ := (HT.out _ HB.out).inRow (fun e => by rw [e] at hlt; simp at hlt)
      cases hv
      have hpl := HZ.out p (List.mem_of_getElem? hp)
      have c := hcell k p hp
      have HPK : Hid (l[k]? = some p) := hp
      clear hcell hp
      by_cases h40 : 100 < p.length
      · go_wp2_with fail
        go_ret
        exact ⟨rfl, HB.out⟩
      · by_cases hk0 : 0 < k
        · go_wp2_with fail
          go_round
          case rel =>
            have e1 := join_next HPK.out hk0
            have e2 := join_small l (k + 1) (by omega) (take_all3 HPK.out hh.out (by omega))
            exact ⟨k + 1, Lib.join (l.take (k + 1)) [32], by omega, by go_num, by rw [e1, ← HJ.out, str_add, str_add], e2, rfl, take_all3 HPK.out hh.out (by omega)⟩
          case measure => simp [intOf]; omega
        · obtain rfl : k = 0 := by omega
          have c : w1.cell? ⟨g, o, none⟩ = some (str p) := c
          go_wp2_with fail
          go_round
          case rel =>
            have e1 := join_first HPK.out
            have e2 := join_small l (0 + 1) (by omega) (take_all3 HPK.out hh.out (by omega))
            exact ⟨0 + 1, Lib.join (l.take (0 + 1)) [32], by omega, by go_num, by rw [e1, str_add, HJ.out]; simp [Lib.join], e2, rfl, take_all3 HPK.out hh.out (by omega)⟩
          case measure => simp [intOf]; omega
    · have hk2 : k = l.length := by omega
      have HL : Hid (∀ s ∈ l, s.length ≤ 100) := by
        have := hh.out
        rw [hk2, List.take_length] at this
        exact this
      have HJ : Hid (Lib.join l [32] = J) := by
        have := HJ.out
        rw [hk2, List.take_length] at this
        exact this.symm
      clear hh hk2
      go_wp2_with fail
      have HD := do_echoS _ l s _ (HT.out _ HB.out) (by omega) HL.out
      rw [HJ.out] at HD
      refine HD.mono ?_
      rintro e w2 ⟨rfl, hw⟩
      clear HD
      have HB : Hid (Below w.heap.size w w2) := bstep3 HB.out hw (Nat.le_refl _)
      clear hw
      go_wp2_with fail
      have HD := do_putS _ l s _ (HT.out _ (bstep3 HB.out (below_new _ (.cells #[str (J ++ [10]), .string s, .int .i64 0, .string ⟨#[]⟩, .string ⟨#[]⟩, .bool false] 25)) (Nat.le_refl _))) (by omega) HL.out
      rw [HJ.out] at HD
      refine HD.mono ?_
      rintro e w3 ⟨rfl, hw⟩
      clear HD
      have Kba : Hid (Cel w3 w2.heap.size 25 #[str (J ++ [10]), .string s, .int .i64 0, .string ⟨#[]⟩, .string ⟨#[]⟩, .bool false]) := (Cel.new w2 25 _).later hw
      have HB : Hid (Below w.heap.size w w3) := bstep3 (bstep3 HB.out (below_new _ _) (Nat.le_refl _)) hw (Nat.le_refl _)
      clear hw
      generalize w2.heap.size = ba at *
      go_wp2_with fail
      have HD := do_catS _ l s _ (HT.out _ (bstep3 HB.out (below_new _ (.cells #[str J, .string s, .int .i64 0, .string ⟨#[]⟩, .string ⟨#[]⟩, .bool false] 25)) (Nat.le_refl _)))
      refine HD.mono ?_
      rintro e w4 ⟨rfl, hw⟩
      clear HD
      have Kbb : Hid (Cel w4 w3.heap.size 25 #[str J, .string s, .int .i64 0, .string ⟨#[]⟩, .string ⟨#[]⟩, .bool false]) := (Cel.new w3 25 _).later hw
      have Kba : Hid (Cel w4 ba 25 #[str (J ++ [10]), .string s, .int .i64 0, .string ⟨#[]⟩, .string ⟨#[]⟩, .bool false]) := (Kba.out.alloc _).later hw
      have HB : Hid (Below w.heap.size w w4) := bstep3 (bstep3 HB.out (below_new _ _) (Nat.le_refl _)) hw (Nat.le_refl _)
      clear hw
      generalize w3.heap.size = bb at *
      go_wp2_with fail
      have HD := do_trueS _ l s _ (HT.out _ (bstep3 HB.out (below_new _ (.cells #[.string s, .string ⟨#[]⟩, .int .i64 0, .string ⟨#[]⟩, .string ⟨#[]⟩, .bool false] 25)) (Nat.le_refl _)))
      refine HD.mono ?_
      rintro e w5 ⟨rfl, hw⟩
      clear HD
      have Kbc : Hid (Cel w5 w4.heap.size 25 #[.string s, .string ⟨#[]⟩, .int .i64 0, .string ⟨#[]⟩, .string ⟨#[]⟩, .bool false]) := (Cel.new w4 25 _).later hw
      have Kba : Hid (Cel w5 ba 25 #[str (J ++ [10]), .string s, .int .i64 0, .string ⟨#[]⟩, .string ⟨#[]⟩, .bool false]) := (Kba.out.alloc _).later hw
      have Kbb : Hid (Cel w5 bb 25 #[str J, .string s, .int .i64 0, .string ⟨#[]⟩, .string ⟨#[]⟩, .bool false]) := (Kbb.out.alloc _).later hw
      have HB : Hid (Below w.heap.size w w5) := bstep3 (bstep3 HB.out (below_new _ _) (Nat.le_refl _)) hw (Nat.le_refl _)
      clear hw
      generalize w4.heap.size = bc at *
      go_wp2_with fail
      have HD := do_falseS _ l s _ (HT.out _ (bstep3 HB.out (below_new _ (.cells #[.string ⟨#[]⟩, .string s, .int .i64 0, .string ⟨#[]⟩, .string ⟨#[]⟩, .bool false] 25)) (Nat.le_refl _)))
      refine HD.mono ?_
      rintro e w6 ⟨rfl, hw⟩
      clear HD
      have Kbd : Hid (Cel w6 w5.heap.size 25 #[.string ⟨#[]⟩, .string s, .int .i64 0, .string ⟨#[]⟩, .string ⟨#[]⟩, .bool false]) := (Cel.new w5 25 _).later hw
      have Kba : Hid (Cel w6 ba 25 #[str (J ++ [10]), .string s, .int .i64 0, .string ⟨#[]⟩, .string ⟨#[]⟩, .bool false]) := (Kba.out.alloc _).later hw
      have Kbb : Hid (Cel w6 bb 25 #[str J, .string s, .int .i64 0, .string ⟨#[]⟩, .string ⟨#[]⟩, .bool false]) := (Kbb.out.alloc _).later hw
      have Kbc : Hid (Cel w6 bc 25 #[.string s, .string ⟨#[]⟩, .int .i64 0, .string ⟨#[]⟩, .string ⟨#[]⟩, .bool false]) := (Kbc.out.alloc _).later hw
      have HB : Hid (Below w.heap.size w w6) := bstep3 (bstep3 HB.out (below_new _ _) (Nat.le_refl _)) hw (Nat.le_refl _)
      clear hw
      generalize w5.heap.size = bd at *
      have lba := Kba.out.lt
      have lbb := Kbb.out.lt
      have lbc := Kbc.out.lt
      have lbd := Kbd.out.lt
      have cba1 : w6.cell? ⟨ba, 1, none⟩ = some (.string s) := Kba.out.cell 1
      have cbb1 : w6.cell? ⟨bb, 1, none⟩ = some (.string s) := Kbb.out.cell 1
      have cbc1 : w6.cell? ⟨bc, 1, none⟩ = some (.string ⟨#[]⟩) := Kbc.out.cell 1
      have cbd1 : w6.cell? ⟨bd, 1, none⟩ = some (.string s) := Kbd.out.cell 1
      have cba0 : w6.cell? ⟨ba, 0, none⟩ = some (.string (⟨J.toArray⟩ ++ ⟨#[10]⟩)) := by rw [show (⟨#[10]⟩ : ByteArray) = ⟨[10].toArray⟩ from rfl, str_add]; exact Kba.out.cell 0
      have cbb0 : w6.cell? ⟨bb, 0, none⟩ = some (str J) := Kbb.out.cell 0
      have cbc0 : w6.cell? ⟨bc, 0, none⟩ = some (.string s) := Kbc.out.cell 0
      have cbd0 : w6.cell? ⟨bd, 0, none⟩ = some (.string ⟨#[]⟩) := Kbd.out.cell 0
      have cba2 : w6.cell? ⟨ba, 2, none⟩ = some (.int .i64 0) := Kba.out.cell 2
      have cbb2 : w6.cell? ⟨bb, 2, none⟩ = some (.int .i64 0) := Kbb.out.cell 2
      have cbc2 : w6.cell? ⟨bc, 2, none⟩ = some (.int .i64 0) := Kbc.out.cell 2
      have cbd2 : w6.cell? ⟨bd, 2, none⟩ = some (.int .i64 0) := Kbd.out.cell 2
      have cba5 : w6.cell? ⟨ba, 5, none⟩ = some (.bool false) := Kba.out.cell 5
      have hemp : ((⟨#[]⟩ : ByteArray) ++ ⟨#[]⟩).toList = [] := by rw [ByteArray.toList_eq]; rfl
      go_wp2_with fail
      go_ret
      exact ⟨rfl, HB.out.alloc HB.out.size _⟩
end Go.Proofs.YtiddlineklfhfaaDoor

/- A part, a word, a token, as they are written. -/
import Derived.Test.YtnlbjgioleoihaaGreatDoorBp1
import Derived.Test.YtnlbjgioleoihaaGreatDoorBuildB
import Derived.Test.YtnlbjgioleoihaaGreatDoorFirst
namespace Go.Proofs.YtnlbjgioleoihaaGreatDoor
open Go.RowKit
attribute [local go_sem] Oper.semAt_some

/-- The library's own variable holds some number. -/
def MLx (W : World) : Prop := ∃ m : Int, W.cell? ⟨18, 0, none⟩ = some (.int .i64 m)
theorem MLx.below {W W' : World} {B : Nat} (h : MLx W) (hb : Below B W W') (hB : 18 < B) : MLx W' := by
  obtain ⟨m, hc⟩ := h
  exact ⟨m, (hb.cell (p := ⟨18, 0, none⟩) hB).trans hc⟩
theorem MLx.lt {W : World} (h : MLx W) : 18 < W.heap.size := by
  obtain ⟨m, hc⟩ := h
  exact World.block_lt_of_cell? W _ hc
theorem MLx.up {W W' : World} (h : MLx W) (hb : Below W.heap.size W W') : MLx W' := h.below hb h.lt
theorem prDol_ne {p : Pt} (h : GP p) (h3 : 3 ≤ p.kind) : prDol p ≠ [] := by
  obtain ⟨a, t, e1, _⟩ := dollar_back h h3 0 []
  intro e
  rw [e] at e1
  cases e1
theorem prPt_any {p : Pt} (h : GP p) (h3 : 3 ≤ p.kind) : prPt p = if p.quoted then 34 :: (prDol p ++ [34]) else prDol p := by
  have hne : (prDol p).isEmpty = false := by
    cases hx : prDol p with
    | nil => exact absurd hx (prDol_ne h h3)
    | cons c t => rfl
  unfold prPt
  rw [if_neg (by omega), if_neg (by omega), hne]
  cases p.quoted <;> rfl
theorem prDol_len {p : Pt} : (prDol p).length ≤ p.s.length + 3 := by
  unfold prDol
  split
  · split
    · simp
    · simp
  · split
    · simp
    · split
      · simp
      · split
        · simp
        · simp
/-- What a part is printed as. -/
def PartC (p : Pt) : Prop := ∀ W : World, MLx W → Calls Tryz.prog 34 #[.agg (ptC p).toArray] W fun e w' => e = .returned (str (prPt p)) ∧ Below W.heap.size W w'
theorem part_txt (a : Nat) (s : List UInt8) : PartC ⟨1, a, 0, false, s⟩ := by
  intro W _
  go_enter Tryz.func34, Tryz.ntmps34
  go_wp2_with fail
  go_ret
  exact ⟨rfl, below_new _ _⟩
theorem part_dead (a : Nat) (s : List UInt8) (hs : s.length ≤ 8192) : PartC ⟨2, a, 0, false, s⟩ := by
  intro W hM
  rw [prPt_dead]
  have HR : Hid (Calls Tryz.prog 48 #[str s, .string ⟨#[39]⟩, .string ⟨#[39, 92, 39, 39]⟩] (W.alloc (.cells #[.int .i64 ((2 : Nat) : Int), .int .i64 (a : Nat), .int .i64 ((0 : Nat) : Int), .bool false, str s] 36)) fun e w' => e = .returned (str (escS s)) ∧ Below W.heap.size W w') := by
    obtain ⟨ml, hml⟩ := hM.up (below_new W (.cells #[.int .i64 ((2 : Nat) : Int), .int .i64 (a : Nat), .int .i64 ((0 : Nat) : Int), .bool false, str s] 36))
    have hcl : Lib.countB ⟨s.toArray⟩ ⟨#[39]⟩ ≤ s.length + 1 := count_le s [39]
    have hz : (⟨s.toArray⟩ : ByteArray).size = s.length := rfl
    refine (Tryz.strings_ReplaceAll ⟨s.toArray⟩ ⟨#[39]⟩ ⟨#[39, 92, 39, 39]⟩ ml _ (by omega) hml (by show 1 ≤ 1; omega) (by show (⟨s.toArray⟩ : ByteArray).size + Lib.countB ⟨s.toArray⟩ ⟨#[39]⟩ * 4 ≤ _; omega)).mono ?_
    rintro e w' ⟨rfl, hb'⟩
    refine ⟨?_, (below_new W _).trans (hb'.mono (by simp))⟩
    show Ending.returned (.string ⟨(Lib.replaceAll s [39] [39, 92, 39, 39]).toArray⟩) = _
    rw [rep_quotes]
  clear hM
  have e1 := str_add1 39 (escS s)
  have e2 := str_end (39 :: escS s) 39
  have hq := escS_len s
  have hb1 : ¬ 9223372036854775807 < 1 + (escS s).length := by omega
  have hb2 : ¬ 9223372036854775807 < (escS s).length + 1 + 1 := by omega
  clear hq
  generalize escS s = q at *
  go_enter Tryz.func34, Tryz.ntmps34
  go_wp2_with fail
  refine Calls.mono HR.out ?_
  rintro e w1 ⟨rfl, hb1⟩
  have HB1 : Hid (Below W.heap.size W w1) := hb1
  clear hb1 HR
  go_wp2_with fail
  go_ret
  exact ⟨rfl, HB1.out⟩
theorem part_dol {p : Pt} (h : GP p) (h3 : 3 ≤ p.kind) (hs : p.s.length ≤ 8192) : PartC p := by
  intro W _
  have HD : Hid (∀ W : World, Calls Tryz.prog 49 #[.agg (ptC p).toArray] W fun e w' => e = .returned (str (prDol p)) ∧ Below W.heap.size W w') := dol_any h h3 hs
  rw [prPt_any h h3]
  have hne := prDol_ne h h3
  have hl := @prDol_len p
  obtain ⟨k, a, n, q, s⟩ := p
  simp only at h3 hs hl ⊢
  have hk1 : ((k : Int) == 1) = false := by rw [beq_eq_false_iff_ne]; omega
  have hk2 : ((k : Int) == 2) = false := by rw [beq_eq_false_iff_ne]; omega
  have hj1 : (k == 1) = false := by rw [beq_eq_false_iff_ne]; omega
  have hj2 : (k == 2) = false := by rw [beq_eq_false_iff_ne]; omega
  clear h
  generalize prDol ⟨k, a, n, q, s⟩ = d at *
  have e1 := str_add1 34 d
  have e2 := str_end (34 :: d) 34
  have hb1 : ¬ 9223372036854775807 < 1 + d.length := by omega
  have hb2 : ¬ 9223372036854775807 < d.length + 1 + 1 := by omega
  have hd1 : (d == []) = false := by rw [beq_eq_false_iff_ne]; exact hne
  cases q with
  | true =>
    go_enter Tryz.func34, Tryz.ntmps34
    go_wp2_with fail
    refine Calls.mono (HD.out _) ?_
    rintro e w1 ⟨rfl, hb⟩
    have HB1 : Hid (Below W.heap.size W w1) := (below_new W _).trans (hb.mono (by simp))
    have hc := (Cel.new W 36 #[.int .i64 (k : Nat), .int .i64 (a : Nat), .int .i64 (n : Nat), .bool true, str s]).below hb (by simp)
    have c3 : w1.cell? ⟨W.heap.size, 3, none⟩ = some (.bool true) := hc.cell 3
    clear hb HD hc
    go_wp2_with fail
    go_ret
    exact ⟨rfl, HB1.out⟩
  | false =>
    go_enter Tryz.func34, Tryz.ntmps34
    go_wp2_with fail
    refine Calls.mono (HD.out _) ?_
    rintro e w1 ⟨rfl, hb⟩
    have HB1 : Hid (Below W.heap.size W w1) := (below_new W _).trans (hb.mono (by simp))
    have hc := (Cel.new W 36 #[.int .i64 (k : Nat), .int .i64 (a : Nat), .int .i64 (n : Nat), .bool false, str s]).below hb (by simp)
    have c3 : w1.cell? ⟨W.heap.size, 3, none⟩ = some (.bool false) := hc.cell 3
    clear hb HD hc
    go_wp2_with fail
    go_ret
    exact ⟨rfl, HB1.out⟩
theorem part_any {p : Pt} (h : GP p) (hs : p.s.length ≤ 8192) : PartC p := by
  by_cases h3 : 3 ≤ p.kind
  · exact part_dol h h3 hs
  · cases h with
    | txt a s h hl => exact part_txt a s
    | dead a s => exact part_dead a s hs
    | star a q => exact absurd (by simp) h3
    | var a q s h => exact absurd (by simp) h3
    | sub a q s h => exact absurd (by simp) h3
    | num a n q h1 h9 => exact absurd (by simp) h3
    | many a q => exact absurd (by simp) h3
end Go.Proofs.YtnlbjgioleoihaaGreatDoor

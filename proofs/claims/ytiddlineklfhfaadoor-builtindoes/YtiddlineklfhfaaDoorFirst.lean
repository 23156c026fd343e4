/- The chapter's examples, all of them. -/
import Derived.Test.YtiddlineklfhfaaDoorEx
namespace Go.Proofs.YtiddlineklfhfaaDoor
open Go.RowKit Go.Shelf
attribute [local go_sem] Oper.semAt_some

theorem Cel.later {W w1 : World} {b : Nat} {t : TypeId} {cs : Array Value} (h : Cel W b t cs) (hb : Below W.heap.size W w1) : Cel w1 b t cs := Cel.below h hb h.lt
set_option maxRecDepth 100000 in
set_option maxHeartbeats 800000 in
theorem first_any (w : World) (hP : ∀ W, Below w.heap.size w W → Pow W) : Calls Tryd.prog 8 #[] w fun e w' => e = .returned (.bool true) ∧ Below w.heap.size w w' := by
  have HP : Hid (∀ W, Below w.heap.size w W → Pow W) := hP
  clear hP
  go_enter Tryd.func8, Tryd.ntmps8
  go_wp2_with fail
  refine (ex_echo _ _ rfl).mono ?_
  rintro e w1 ⟨rfl, hw1⟩
  have HB1 : Hid (Below w.heap.size w w1) := (below_new w _).trans (hw1.mono (by simp))
  clear hw1
  go_wp2_with fail
  have ka := Cel.new w1 25 #[.string ⟨#[97, 32, 98, 10]⟩, .string ⟨#[104, 105]⟩, .int .i64 0, .string ⟨#[]⟩, .string ⟨#[]⟩, .bool false]
  refine (ex_read _ _ (by simp)).mono ?_
  rintro e w2 ⟨rfl, hw2⟩
  have KA : Hid (Cel w2 w1.heap.size 25 #[.string ⟨#[97, 32, 98, 10]⟩, .string ⟨#[104, 105]⟩, .int .i64 0, .string ⟨#[]⟩, .string ⟨#[]⟩, .bool false]) := (ka.alloc _).later hw2
  have HB2 : Hid (Below w.heap.size w w2) := HB1.out.trans (((below_new w1 _).trans (((below_new _ _).trans (hw2.mono (by simp))).mono (by simp))).mono HB1.out.size)
  clear hw2 ka HB1
  generalize w1.heap.size = ba at KA ⊢
  go_wp2_with fail
  have kb := Cel.new w2 25 #[.string ⟨#[]⟩, .string ⟨#[121]⟩, .int .i64 0, .string ⟨#[118]⟩, .string ⟨#[120]⟩, .bool false]
  refine (ex_add _ _ (by simp) ?_).mono ?_
  · intro W hW
    exact HP.out W (HB2.out.trans (((below_new w2 _).trans (hW.mono (by simp))).mono HB2.out.size))
  rintro e w3 ⟨rfl, hw3⟩
  have KB : Hid (Cel w3 w2.heap.size 25 #[.string ⟨#[]⟩, .string ⟨#[121]⟩, .int .i64 0, .string ⟨#[118]⟩, .string ⟨#[120]⟩, .bool false]) := (kb.alloc _).later hw3
  have KA : Hid (Cel w3 ba 25 #[.string ⟨#[97, 32, 98, 10]⟩, .string ⟨#[104, 105]⟩, .int .i64 0, .string ⟨#[]⟩, .string ⟨#[]⟩, .bool false]) := ((KA.out.alloc _).alloc _).later hw3
  have HB3 : Hid (Below w.heap.size w w3) := HB2.out.trans (((below_new w2 _).trans (((below_new _ _).trans (hw3.mono (by simp))).mono (by simp))).mono HB2.out.size)
  clear hw3 kb HB2
  generalize w2.heap.size = bb at KB ⊢
  go_wp2_with fail
  have kc := Cel.new w3 25 #[.string ⟨#[53, 10]⟩, .string ⟨#[]⟩, .int .i64 0, .string ⟨#[]⟩, .string ⟨#[]⟩, .bool false]
  refine (ex_exit _ _ (by simp)).mono ?_
  rintro e w4 ⟨rfl, hw4⟩
  have KC : Hid (Cel w4 w3.heap.size 25 #[.string ⟨#[53, 10]⟩, .string ⟨#[]⟩, .int .i64 0, .string ⟨#[]⟩, .string ⟨#[]⟩, .bool false]) := (kc.alloc _).later hw4
  have KB : Hid (Cel w4 bb 25 #[.string ⟨#[]⟩, .string ⟨#[121]⟩, .int .i64 0, .string ⟨#[118]⟩, .string ⟨#[120]⟩, .bool false]) := ((KB.out.alloc _).alloc _).later hw4
  have KA : Hid (Cel w4 ba 25 #[.string ⟨#[97, 32, 98, 10]⟩, .string ⟨#[104, 105]⟩, .int .i64 0, .string ⟨#[]⟩, .string ⟨#[]⟩, .bool false]) := ((KA.out.alloc _).alloc _).later hw4
  have HB4 : Hid (Below w.heap.size w w4) := HB3.out.trans (((below_new w3 _).trans (((below_new _ _).trans (hw4.mono (by simp))).mono (by simp))).mono HB3.out.size)
  clear hw4 kc HB3
  generalize w3.heap.size = bc at KC ⊢
  go_wp2_with fail
  have kd := Cel.new w4 25 #[.string ⟨#[]⟩, .string ⟨#[]⟩, .int .i64 0, .string ⟨#[]⟩, .string ⟨#[]⟩, .bool true]
  refine (ex_ls _).mono ?_
  rintro e w5 ⟨rfl, hw5⟩
  have KD : Hid (Cel w5 w4.heap.size 25 #[.string ⟨#[]⟩, .string ⟨#[]⟩, .int .i64 0, .string ⟨#[]⟩, .string ⟨#[]⟩, .bool true]) := kd.later hw5
  have KC : Hid (Cel w5 bc 25 #[.string ⟨#[53, 10]⟩, .string ⟨#[]⟩, .int .i64 0, .string ⟨#[]⟩, .string ⟨#[]⟩, .bool false]) := (KC.out.alloc _).later hw5
  have KB : Hid (Cel w5 bb 25 #[.string ⟨#[]⟩, .string ⟨#[121]⟩, .int .i64 0, .string ⟨#[118]⟩, .string ⟨#[120]⟩, .bool false]) := (KB.out.alloc _).later hw5
  have KA : Hid (Cel w5 ba 25 #[.string ⟨#[97, 32, 98, 10]⟩, .string ⟨#[104, 105]⟩, .int .i64 0, .string ⟨#[]⟩, .string ⟨#[]⟩, .bool false]) := (KA.out.alloc _).later hw5
  have HB5 : Hid (Below w.heap.size w w5) := HB4.out.trans (((below_new w4 _).trans (hw5.mono (by simp))).mono HB4.out.size)
  clear hw5 kd HB4
  generalize w4.heap.size = bd at KD ⊢
  have a0 : w5.cell? ⟨ba, 0, none⟩ = some (.string ⟨#[97, 32, 98, 10]⟩) := KA.out.cell 0
  have a1 : w5.cell? ⟨ba, 1, none⟩ = some (.string ⟨#[104, 105]⟩) := KA.out.cell 1
  have b3 : w5.cell? ⟨bb, 3, none⟩ = some (.string ⟨#[118]⟩) := KB.out.cell 3
  have b4 : w5.cell? ⟨bb, 4, none⟩ = some (.string ⟨#[120]⟩) := KB.out.cell 4
  have b1 : w5.cell? ⟨bb, 1, none⟩ = some (.string ⟨#[121]⟩) := KB.out.cell 1
  have c0 : w5.cell? ⟨bc, 0, none⟩ = some (.string ⟨#[53, 10]⟩) := KC.out.cell 0
  have d5 : w5.cell? ⟨bd, 5, none⟩ = some (.bool true) := KD.out.cell 5
  have d2 : w5.cell? ⟨bd, 2, none⟩ = some (.int .i64 0) := KD.out.cell 2
  have la := KA.out.lt
  have lb := KB.out.lt
  have lc := KC.out.lt
  have ld := KD.out.lt
  go_wp2_with fail
  go_ret
  exact ⟨rfl, HB5.out.alloc HB5.out.size _⟩
end Go.Proofs.YtiddlineklfhfaaDoor

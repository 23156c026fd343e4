/- Numbers are added, and held against one another, as numbers are. -/
import Derived.Test.YtiddlineklfhfaaDoorFirst
import Derived.Test.YtiddlineklfhfaaDoorNumPlain
import Derived.Deep.RegionHeld
import Derived.OrdersHeld
namespace Go.Proofs.YtiddlineklfhfaaDoor
open Go.RowKit Go.Shelf
attribute [local go_sem] Oper.semAt_some

theorem parse_of (a : Int) (h0 : 0 ≤ a) (h1 : a < 1000000000) : T.parseV (Lib.itoa a) = some a.toNat := by
  rw [T.parse_itoa, if_pos ⟨h0, by omega⟩]
theorem nums_of (a b : Int) (h0 : 0 ≤ a) (h1 : a < 1000000000) (k0 : 0 ≤ b) (k1 : b < 1000000000) : numsR [Lib.itoa a, Lib.itoa b] = (a, b, true) := by
  simp only [numsR]
  rw [parse_of a h0 h1, parse_of b k0 k1]
  simp [Int.toNat_of_nonneg h0, Int.toNat_of_nonneg k0]
theorem add_of (a b : Int) (h0 : 0 ≤ a) (h1 : a < 1000000000) (k0 : 0 ≤ b) (k1 : b < 1000000000) : addR [Lib.itoa a, Lib.itoa b] = (sumL a b, 0) := by
  unfold addR
  rw [nums_of a b h0 h1 k0 k1]
  rfl
theorem less_of (a b : Int) (h0 : 0 ≤ a) (h1 : a < 1000000000) (k0 : 0 ≤ b) (k1 : b < 1000000000) : lessR [Lib.itoa a, Lib.itoa b] = decide (a < b) := by
  unfold lessR
  rw [nums_of a b h0 h1 k0 k1]
  simp
theorem eq_of (a b : Int) (h0 : 0 ≤ a) (h1 : a < 1000000000) (k0 : 0 ≤ b) (k1 : b < 1000000000) : eqR [Lib.itoa a, Lib.itoa b] = decide (a = b) := by
  show (Lib.itoa a == Lib.itoa b) = _
  rw [Bool.eq_iff_iff]
  constructor
  · intro h
    have h := eq_of_beq h
    have e1 := parse_of a h0 h1
    rw [h, parse_of b k0 k1] at e1
    have e2 := Option.some.inj e1
    exact decide_eq_true (by omega)
  · intro h
    rw [of_decide_eq_true h]
    exact beq_self_eq_true _
section
variable (a b : Int) (h0 : 0 ≤ a) (h1 : a < 1000000000) (k0 : 0 ≤ b) (k1 : b < 1000000000) (w : World) (g : Nat) (hg : g = w.heap.size)
include h0 h1 k0 k1 hg
theorem do_add2 (hP : ∀ W, Below w.heap.size w W → Pow W) : Calls Tryd.prog 9 #[.string ⟨#[97, 100, 100]⟩, .string ⟨#[]⟩, .slice (some ⟨g, 0, none⟩) 2 2] (w.alloc (.cells #[str (Lib.itoa a), str (Lib.itoa b)] 9)) fun e w' => e = .returned (.tuple #[.agg #[str (sumL a b), .string ⟨#[]⟩, .int .i64 0, .string ⟨#[]⟩, .string ⟨#[]⟩, .bool false], .bool true]) ∧ Below (w.alloc (.cells #[str (Lib.itoa a), str (Lib.itoa b)] 9)).heap.size (w.alloc (.cells #[str (Lib.itoa a), str (Lib.itoa b)] 9)) w' := by
  subst hg
  have := do_add ⟨#[]⟩ _ [Lib.itoa a, Lib.itoa b] _ (Tx.built (W := w) (ps := [Lib.itoa a, Lib.itoa b]) 9) (by simp) (fun W hW => hP W ((below_new w _).trans (hW.mono (by simp))))
  rw [add_of a b h0 h1 k0 k1] at this
  exact this
theorem do_less2 : Calls Tryd.prog 9 #[.string ⟨#[108, 101, 115, 115]⟩, .string ⟨#[]⟩, .slice (some ⟨g, 0, none⟩) 2 2] (w.alloc (.cells #[str (Lib.itoa a), str (Lib.itoa b)] 9)) fun e w' => e = .returned (.tuple #[.agg #[.string ⟨#[]⟩, .string ⟨#[]⟩, .int .i64 (stB (decide (a < b))), .string ⟨#[]⟩, .string ⟨#[]⟩, .bool false], .bool true]) ∧ Below (w.alloc (.cells #[str (Lib.itoa a), str (Lib.itoa b)] 9)).heap.size (w.alloc (.cells #[str (Lib.itoa a), str (Lib.itoa b)] 9)) w' := by
  subst hg
  have := do_less ⟨#[]⟩ _ [Lib.itoa a, Lib.itoa b] _ (Tx.built (W := w) (ps := [Lib.itoa a, Lib.itoa b]) 9) (by simp)
  rw [less_of a b h0 h1 k0 k1] at this
  exact this
theorem do_eq2 : Calls Tryd.prog 9 #[.string ⟨#[101, 113]⟩, .string ⟨#[]⟩, .slice (some ⟨g, 0, none⟩) 2 2] (w.alloc (.cells #[str (Lib.itoa a), str (Lib.itoa b)] 9)) fun e w' => e = .returned (.tuple #[.agg #[.string ⟨#[]⟩, .string ⟨#[]⟩, .int .i64 (stB (decide (a = b))), .string ⟨#[]⟩, .string ⟨#[]⟩, .bool false], .bool true]) ∧ Below (w.alloc (.cells #[str (Lib.itoa a), str (Lib.itoa b)] 9)).heap.size (w.alloc (.cells #[str (Lib.itoa a), str (Lib.itoa b)] 9)) w' := by
  subst hg
  have := do_eq ⟨#[]⟩ _ [Lib.itoa a, Lib.itoa b] _ (Tx.built (W := w) (ps := [Lib.itoa a, Lib.itoa b]) 9) (by simp)
  rw [eq_of a b h0 h1 k0 k1] at this
  exact this
end
theorem bstep {B : Nat} {w W W' : World} (h : Below B w W) (k : Below W.heap.size W W') (hB : B ≤ w.heap.size) : Below B w W' := h.trans (k.mono (Nat.le_trans hB h.size))
theorem wrap_ok (x : Int) (h0 : -9223372036854775808 ≤ x) (h1 : x ≤ 9223372036854775807) : IntKind.i64.wrap x = x := by rw [IntKind.wrap_i64]; omega
def ToldC (ba bb bc : Nat) (x : List UInt8) (p q : Int) (W : World) : Prop := W.cell? ⟨ba, 0, none⟩ = some (str x) ∧ W.cell? ⟨bb, 2, none⟩ = some (.int .i64 p) ∧ W.cell? ⟨bc, 2, none⟩ = some (.int .i64 q)
set_option maxRecDepth 100000 in
set_option maxHeartbeats 4000000 in
theorem counts_any (a0 b0 : Int) (w : World) (hP : ∀ W, Below w.heap.size w W → Pow W) :
    Calls Tryd.prog 5 #[.int .i64 a0, .int .i64 b0] w fun e w' => e = .returned (.bool true) ∧ Below w.heap.size w w' := by
  have HP : Hid (∀ W, Below w.heap.size w W → Pow W) := hP
  clear hP
  have hx0 : -1000000000 < a0.tmod 1000000000 := Int.lt_tmod_of_pos _ (by omega)
  have hx1 : a0.tmod 1000000000 < 1000000000 := Int.tmod_lt_of_pos _ (by omega)
  have hy0 : -1000000000 < b0.tmod 1000000000 := Int.lt_tmod_of_pos _ (by omega)
  have hy1 : b0.tmod 1000000000 < 1000000000 := Int.tmod_lt_of_pos _ (by omega)
  go_enter Tryd.func5, Tryd.ntmps5
  go_wp2_with fail
  refine (first_any w HP.out).mono ?_
  rintro e w1 ⟨rfl, HB⟩
  have HB : Hid (Below w.heap.size w w1) := HB
  go_upto_region 4 with fail
  have h0 : 0 ≤ (a0.tmod 1000000000 + 1000000000) % 1000000000 := Int.emod_nonneg _ (by omega)
  have h1 : (a0.tmod 1000000000 + 1000000000) % 1000000000 < 1000000000 := Int.emod_lt_of_pos _ (by omega)
  have k0 : 0 ≤ (b0.tmod 1000000000 + 1000000000) % 1000000000 := Int.emod_nonneg _ (by omega)
  have k1 : (b0.tmod 1000000000 + 1000000000) % 1000000000 < 1000000000 := Int.emod_lt_of_pos _ (by omega)
  generalize (a0.tmod 1000000000 + 1000000000) % 1000000000 = a at *
  generalize (b0.tmod 1000000000 + 1000000000) % 1000000000 = b at *
  generalize a0.tmod 1000000000 = ra at *
  generalize b0.tmod 1000000000 = rb at *
  go_wp2_with fail
  refine (number_any a _ (by omega) (by omega) (HP.out _ HB.out)).mono ?_
  rintro e w2 ⟨rfl, hw⟩
  have HB : Hid (Below w.heap.size w w2) := bstep HB.out hw (Nat.le_refl _)
  clear hw
  go_wp2_with fail
  refine (number_any b _ (by omega) (by omega) (HP.out _ HB.out)).mono ?_
  rintro e w3 ⟨rfl, hw⟩
  have HB : Hid (Below w.heap.size w w3) := bstep HB.out hw (Nat.le_refl _)
  clear hw
  go_wp2_with fail
  refine (do_add2 a b h0 h1 k0 k1 _ _ rfl ?_).mono ?_
  · intro W hW
    exact HP.out W (bstep HB.out hW (Nat.le_refl _))
  rintro e w4 ⟨rfl, hw⟩
  have HB : Hid (Below w.heap.size w w4) := bstep (bstep HB.out (below_new _ _) (Nat.le_refl _)) hw (Nat.le_refl _)
  clear hw
  go_wp2_with fail
  refine (number_any a _ (by omega) (by omega) (HP.out _ (HB.out.alloc HB.out.size _))).mono ?_
  rintro e w5 ⟨rfl, hw⟩
  have Kba : Hid (Cel w5 w4.heap.size 25 #[str (sumL a b), .string ⟨#[]⟩, .int .i64 0, .string ⟨#[]⟩, .string ⟨#[]⟩, .bool false]) := (Cel.new w4 25 _).later hw
  have HB : Hid (Below w.heap.size w w5) := bstep (bstep HB.out (below_new _ _) (Nat.le_refl _)) hw (Nat.le_refl _)
  clear hw
  generalize w4.heap.size = ba at *
  go_wp2_with fail
  refine (number_any b _ (by omega) (by omega) (HP.out _ HB.out)).mono ?_
  rintro e w6 ⟨rfl, hw⟩
  have Kba : Hid (Cel w6 ba 25 #[str (sumL a b), .string ⟨#[]⟩, .int .i64 0, .string ⟨#[]⟩, .string ⟨#[]⟩, .bool false]) := Kba.out.later hw
  have HB : Hid (Below w.heap.size w w6) := bstep HB.out hw (Nat.le_refl _)
  clear hw
  go_wp2_with fail
  refine (do_less2 a b h0 h1 k0 k1 _ _ rfl).mono ?_
  rintro e w7 ⟨rfl, hw⟩
  have Kba : Hid (Cel w7 ba 25 #[str (sumL a b), .string ⟨#[]⟩, .int .i64 0, .string ⟨#[]⟩, .string ⟨#[]⟩, .bool false]) := (Kba.out.alloc _).later hw
  have HB : Hid (Below w.heap.size w w7) := bstep (bstep HB.out (below_new _ _) (Nat.le_refl _)) hw (Nat.le_refl _)
  clear hw
  go_wp2_with fail
  refine (number_any a _ (by omega) (by omega) (HP.out _ (HB.out.alloc HB.out.size _))).mono ?_
  rintro e w8 ⟨rfl, hw⟩
  have Kbb : Hid (Cel w8 w7.heap.size 25 #[.string ⟨#[]⟩, .string ⟨#[]⟩, .int .i64 (stB (decide (a < b))), .string ⟨#[]⟩, .string ⟨#[]⟩, .bool false]) := (Cel.new w7 25 _).later hw
  have Kba : Hid (Cel w8 ba 25 #[str (sumL a b), .string ⟨#[]⟩, .int .i64 0, .string ⟨#[]⟩, .string ⟨#[]⟩, .bool false]) := (Kba.out.alloc _).later hw
  have HB : Hid (Below w.heap.size w w8) := bstep (bstep HB.out (below_new _ _) (Nat.le_refl _)) hw (Nat.le_refl _)
  clear hw
  generalize w7.heap.size = bb at *
  go_wp2_with fail
  refine (number_any b _ (by omega) (by omega) (HP.out _ HB.out)).mono ?_
  rintro e w9 ⟨rfl, hw⟩
  have Kba : Hid (Cel w9 ba 25 #[str (sumL a b), .string ⟨#[]⟩, .int .i64 0, .string ⟨#[]⟩, .string ⟨#[]⟩, .bool false]) := Kba.out.later hw
  have Kbb : Hid (Cel w9 bb 25 #[.string ⟨#[]⟩, .string ⟨#[]⟩, .int .i64 (stB (decide (a < b))), .string ⟨#[]⟩, .string ⟨#[]⟩, .bool false]) := Kbb.out.later hw
  have HB : Hid (Below w.heap.size w w9) := bstep HB.out hw (Nat.le_refl _)
  clear hw
  go_wp2_with fail
  refine (do_eq2 a b h0 h1 k0 k1 _ _ rfl).mono ?_
  rintro e w10 ⟨rfl, hw⟩
  have Kba : Hid (Cel w10 ba 25 #[str (sumL a b), .string ⟨#[]⟩, .int .i64 0, .string ⟨#[]⟩, .string ⟨#[]⟩, .bool false]) := (Kba.out.alloc _).later hw
  have Kbb : Hid (Cel w10 bb 25 #[.string ⟨#[]⟩, .string ⟨#[]⟩, .int .i64 (stB (decide (a < b))), .string ⟨#[]⟩, .string ⟨#[]⟩, .bool false]) := (Kbb.out.alloc _).later hw
  have HB : Hid (Below w.heap.size w w10) := bstep (bstep HB.out (below_new _ _) (Nat.le_refl _)) hw (Nat.le_refl _)
  clear hw
  go_wp2_with fail
  have c0 : w10.cell? ⟨ba, 0, none⟩ = some (str (sumL a b)) := Kba.out.cell 0
  have c1 : w10.cell? ⟨bb, 2, none⟩ = some (.int .i64 (stB (decide (a < b)))) := Kbb.out.cell 2
  have la := Kba.out.lt
  have lb := Kbb.out.lt
  have hil := Lib.itoa_length_le ((a + b) % 1000000000) (by omega) (by omega)
  have hp : (stB (decide (a < b)) == 0) = decide (a < b) := by cases decide (a < b) <;> rfl
  have hq : (stB (decide (a = b)) == 0) = (a == b) := by
    rw [show (a == b) = decide (a = b) from rfl]
    cases decide (a = b) <;> rfl
  have HS : Hid (∀ W, Below (w10.alloc (.cells #[.string ⟨#[]⟩, .string ⟨#[]⟩, .int .i64 (stB (decide (a = b))), .string ⟨#[]⟩, .string ⟨#[]⟩, .bool false] 25)).heap.size (w10.alloc (.cells #[.string ⟨#[]⟩, .string ⟨#[]⟩, .int .i64 (stB (decide (a = b))), .string ⟨#[]⟩, .string ⟨#[]⟩, .bool false] 25)) W → ToldC ba bb w10.heap.size (sumL a b) (stB (decide (a < b))) (stB (decide (a = b))) W) := fun W hW =>
    ⟨((Kba.out.alloc _).later hW).cell 0, ((Kbb.out.alloc _).later hW).cell 2, ((Cel.new _ 25 _).later hW).cell 2⟩
  have HB2 : Hid (Below w.heap.size w (w10.alloc (.cells #[.string ⟨#[]⟩, .string ⟨#[]⟩, .int .i64 (stB (decide (a = b))), .string ⟨#[]⟩, .string ⟨#[]⟩, .bool false] 25))) := bstep HB.out (below_new _ _) (Nat.le_refl _)
  generalize stB (decide (a < b)) = p at *
  generalize stB (decide (a = b)) = q at *
  obtain ⟨W0, hW0⟩ : ∃ W0, w10.alloc (.cells #[.string ⟨#[]⟩, .string ⟨#[]⟩, .int .i64 (q), .string ⟨#[]⟩, .string ⟨#[]⟩, .bool false] 25) = W0 := ⟨_, rfl⟩
  rw [hW0] at HS HB2 ⊢
  obtain ⟨bc, hbc⟩ : ∃ bc, w10.heap.size = bc := ⟨_, rfl⟩
  rw [hbc] at HS ⊢
  clear hbc hW0 c0 c1 la lb Kba Kbb
  refine wp_region_held (S := ToldC ba bb bc (sumL a b) p q) (by kernel_rfl) ?_
  try (change wpAnyH _ _ _ _ _ _ _ _ (World.drew _))
  have hd0 : Below W0.heap.size W0 (World.drew W0) := below_drew W0
  have hS0 := HS.out _ hd0
  refine wpAnyH_take (i := 0) (v := .bool true) rfl (by kernel_rfl) (by kernel_rfl) (by kernel_rfl) (fun _ _ _ h => h) (Yields.yieldsIf (Or.inl ⟨by rfl, by intro wz; go_simp⟩)) hS0 ?_
  try simp only [Act.put, List.getElem_toArray, List.getElem_cons_zero, List.setIfInBounds_toArray, List.set_cons_zero, List.set_cons_succ]
  refine wpAnyH_take (i := 1) (v := .bool true) rfl (by kernel_rfl) (by kernel_rfl) (by kernel_rfl) (fun _ _ _ h => h) (Yields.yieldsIf (Or.inl ⟨by rfl, by intro wz; go_simp⟩)) hS0 ?_
  try simp only [Act.put, List.getElem_toArray, List.getElem_cons_succ, List.getElem_cons_zero, List.setIfInBounds_toArray, List.set_cons_zero, List.set_cons_succ]
  refine wpAnyH_take (i := 2) (v := .pointer (some ⟨ba, 0, none⟩)) rfl (by kernel_rfl) (by kernel_rfl) (by kernel_rfl) (fun _ _ _ h => h) (Yields.yieldsIf (Or.inl ⟨by rfl, by intro wz; go_simp⟩)) hS0 ?_
  try simp only [Act.put, List.getElem_toArray, List.getElem_cons_succ, List.getElem_cons_zero, List.setIfInBounds_toArray, List.set_cons_zero, List.set_cons_succ]
  refine wpAnyH_take (i := 3) (v := str (sumL a b)) rfl (by kernel_rfl) (by kernel_rfl) (by kernel_rfl) (fun _ _ _ h => h) (Or.inl ⟨by rfl, fun wz hS => by obtain ⟨s1, s2, s3⟩ := hS; go_simp⟩) hS0 ?_
  try simp only [Act.put, List.getElem_toArray, List.getElem_cons_succ, List.getElem_cons_zero, List.setIfInBounds_toArray, List.set_cons_zero, List.set_cons_succ]
  refine wpAnyH_take (i := 4) (v := .int .i64 a) rfl (by kernel_rfl) (by kernel_rfl) (by kernel_rfl) (fun _ _ _ h => h) (Yields.yieldsIf (Or.inl ⟨by rfl, by intro wz; go_simp⟩)) hS0 ?_
  try simp only [Act.put, List.getElem_toArray, List.getElem_cons_succ, List.getElem_cons_zero, List.setIfInBounds_toArray, List.set_cons_zero, List.set_cons_succ]
  refine wpAnyH_take (i := 5) (v := .int .i64 b) rfl (by kernel_rfl) (by kernel_rfl) (by kernel_rfl) (fun _ _ _ h => h) (Yields.yieldsIf (Or.inl ⟨by rfl, by intro wz; go_simp⟩)) hS0 ?_
  try simp only [Act.put, List.getElem_toArray, List.getElem_cons_succ, List.getElem_cons_zero, List.setIfInBounds_toArray, List.set_cons_zero, List.set_cons_succ]
  refine wpAnyH_take (i := 6) (v := .int .i64 (a + b)) rfl (by kernel_rfl) (by kernel_rfl) (by kernel_rfl) (fun _ _ _ h => h) (Yields.yieldsIf (Or.inl ⟨by rfl, by intro wz; go_simp; exact wrap_ok _ (by omega) (by omega)⟩)) hS0 ?_
  try simp only [Act.put, List.getElem_toArray, List.getElem_cons_succ, List.getElem_cons_zero, List.setIfInBounds_toArray, List.set_cons_zero, List.set_cons_succ]
  refine wpAnyH_take (i := 7) (v := .int .i64 ((a + b) % 1000000000)) rfl (by kernel_rfl) (by kernel_rfl) (by kernel_rfl) (fun _ _ _ h => h) (Yields.yieldsIf (Or.inl ⟨by rfl, by intro wz; go_simp; exact Int.tmod_eq_emod_of_nonneg (by omega)⟩)) hS0 ?_
  try simp only [Act.put, List.getElem_toArray, List.getElem_cons_succ, List.getElem_cons_zero, List.setIfInBounds_toArray, List.set_cons_zero, List.set_cons_succ]
  refine wpAnyH_ready (rs := [8]) (by kernel_rfl) (by simp) ?_
  refine AllReadyH.cons rfl (fun K' hK => ?_) AllReadyH.nil
  go_simp
  refine (number_any ((a + b) % 1000000000) _ (by omega) (by omega) (HP.out _ (bstep HB2.out hd0 (Nat.le_refl _)))).mono ?_
  rintro e w11 ⟨rfl, hw⟩
  have hd1 := hd0.trans hw
  have hSn := HS.out _ hd1
  refine hK.out _ _ hSn (fun _ => ?_)
  clear hK K' hS0
  have hS0 := hSn
  clear hSn
  try simp only [Act.put, List.getElem_toArray, List.getElem_cons_succ, List.getElem_cons_zero, List.setIfInBounds_toArray, List.set_cons_zero, List.set_cons_succ]
  refine wpAnyH_take (i := 9) (v := str (sumL a b)) rfl (by kernel_rfl) (by kernel_rfl) (by kernel_rfl) (fun _ _ _ h => h) (Yields.yieldsIf (Or.inl ⟨by rfl, by intro wz; go_simp; rw [if_neg (by omega), str_add]; rfl⟩)) hS0 ?_
  try simp only [Act.put, List.getElem_toArray, List.getElem_cons_succ, List.getElem_cons_zero, List.setIfInBounds_toArray, List.set_cons_zero, List.set_cons_succ]
  refine wpAnyH_take (i := 10) (v := .bool true) rfl (by kernel_rfl) (by kernel_rfl) (by kernel_rfl) (fun _ _ _ h => h) (Yields.yieldsIf (Or.inl ⟨by rfl, by intro wz; go_simp⟩)) hS0 ?_
  try simp only [Act.put, List.getElem_toArray, List.getElem_cons_succ, List.getElem_cons_zero, List.setIfInBounds_toArray, List.set_cons_zero, List.set_cons_succ]
  refine wpAnyH_take (i := 11) (v := .bool true) rfl (by kernel_rfl) (by kernel_rfl) (by kernel_rfl) (fun _ _ _ h => h) (Yields.yieldsIf (Or.inl ⟨by rfl, by intro wz; go_simp⟩)) hS0 ?_
  try simp only [Act.put, List.getElem_toArray, List.getElem_cons_succ, List.getElem_cons_zero, List.setIfInBounds_toArray, List.set_cons_zero, List.set_cons_succ]
  refine wpAnyH_take (i := 12) (v := .bool true) rfl (by kernel_rfl) (by kernel_rfl) (by kernel_rfl) (fun _ _ _ h => h) (Yields.yieldsIf (Or.inl ⟨by rfl, by intro wz; go_simp⟩)) hS0 ?_
  try simp only [Act.put, List.getElem_toArray, List.getElem_cons_succ, List.getElem_cons_zero, List.setIfInBounds_toArray, List.set_cons_zero, List.set_cons_succ]
  refine wpAnyH_take (i := 13) (v := .pointer (some ⟨bb, 2, none⟩)) rfl (by kernel_rfl) (by kernel_rfl) (by kernel_rfl) (fun _ _ _ h => h) (Yields.yieldsIf (Or.inl ⟨by rfl, by intro wz; go_simp⟩)) hS0 ?_
  try simp only [Act.put, List.getElem_toArray, List.getElem_cons_succ, List.getElem_cons_zero, List.setIfInBounds_toArray, List.set_cons_zero, List.set_cons_succ]
  refine wpAnyH_take (i := 14) (v := .int .i64 p) rfl (by kernel_rfl) (by kernel_rfl) (by kernel_rfl) (fun _ _ _ h => h) (Or.inl ⟨by rfl, fun wz hS => by obtain ⟨s1, s2, s3⟩ := hS; go_simp⟩) hS0 ?_
  try simp only [Act.put, List.getElem_toArray, List.getElem_cons_succ, List.getElem_cons_zero, List.setIfInBounds_toArray, List.set_cons_zero, List.set_cons_succ]
  refine wpAnyH_take (i := 15) (v := .bool (decide (a < b))) rfl (by kernel_rfl) (by kernel_rfl) (by kernel_rfl) (fun _ _ _ h => h) (Yields.yieldsIf (Or.inl ⟨by rfl, by intro wz; go_simp⟩)) hS0 ?_
  try simp only [Act.put, List.getElem_toArray, List.getElem_cons_succ, List.getElem_cons_zero, List.setIfInBounds_toArray, List.set_cons_zero, List.set_cons_succ]
  refine wpAnyH_take (i := 16) (v := .int .i64 a) rfl (by kernel_rfl) (by kernel_rfl) (by kernel_rfl) (fun _ _ _ h => h) (Yields.yieldsIf (Or.inl ⟨by rfl, by intro wz; go_simp⟩)) hS0 ?_
  try simp only [Act.put, List.getElem_toArray, List.getElem_cons_succ, List.getElem_cons_zero, List.setIfInBounds_toArray, List.set_cons_zero, List.set_cons_succ]
  refine wpAnyH_take (i := 17) (v := .int .i64 b) rfl (by kernel_rfl) (by kernel_rfl) (by kernel_rfl) (fun _ _ _ h => h) (Yields.yieldsIf (Or.inl ⟨by rfl, by intro wz; go_simp⟩)) hS0 ?_
  try simp only [Act.put, List.getElem_toArray, List.getElem_cons_succ, List.getElem_cons_zero, List.setIfInBounds_toArray, List.set_cons_zero, List.set_cons_succ]
  refine wpAnyH_take (i := 18) (v := .bool (decide (a < b))) rfl (by kernel_rfl) (by kernel_rfl) (by kernel_rfl) (fun _ _ _ h => h) (Yields.yieldsIf (Or.inl ⟨by rfl, by intro wz; go_simp⟩)) hS0 ?_
  try simp only [Act.put, List.getElem_toArray, List.getElem_cons_succ, List.getElem_cons_zero, List.setIfInBounds_toArray, List.set_cons_zero, List.set_cons_succ]
  refine wpAnyH_take (i := 19) (v := .bool true) rfl (by kernel_rfl) (by kernel_rfl) (by kernel_rfl) (fun _ _ _ h => h) (Yields.yieldsIf (Or.inl ⟨by rfl, by intro wz; go_simp⟩)) hS0 ?_
  try simp only [Act.put, List.getElem_toArray, List.getElem_cons_succ, List.getElem_cons_zero, List.setIfInBounds_toArray, List.set_cons_zero, List.set_cons_succ]
  refine wpAnyH_take (i := 20) (v := .bool true) rfl (by kernel_rfl) (by kernel_rfl) (by kernel_rfl) (fun _ _ _ h => h) (Yields.yieldsIf (Or.inl ⟨by rfl, by intro wz; go_simp⟩)) hS0 ?_
  try simp only [Act.put, List.getElem_toArray, List.getElem_cons_succ, List.getElem_cons_zero, List.setIfInBounds_toArray, List.set_cons_zero, List.set_cons_succ]
  refine wpAnyH_take (i := 21) (v := .bool true) rfl (by kernel_rfl) (by kernel_rfl) (by kernel_rfl) (fun _ _ _ h => h) (Yields.yieldsIf (Or.inl ⟨by rfl, by intro wz; go_simp⟩)) hS0 ?_
  try simp only [Act.put, List.getElem_toArray, List.getElem_cons_succ, List.getElem_cons_zero, List.setIfInBounds_toArray, List.set_cons_zero, List.set_cons_succ]
  refine wpAnyH_take (i := 22) (v := .pointer (some ⟨bc, 2, none⟩)) rfl (by kernel_rfl) (by kernel_rfl) (by kernel_rfl) (fun _ _ _ h => h) (Yields.yieldsIf (Or.inl ⟨by rfl, by intro wz; go_simp⟩)) hS0 ?_
  try simp only [Act.put, List.getElem_toArray, List.getElem_cons_succ, List.getElem_cons_zero, List.setIfInBounds_toArray, List.set_cons_zero, List.set_cons_succ]
  refine wpAnyH_take (i := 23) (v := .int .i64 q) rfl (by kernel_rfl) (by kernel_rfl) (by kernel_rfl) (fun _ _ _ h => h) (Or.inl ⟨by rfl, fun wz hS => by obtain ⟨s1, s2, s3⟩ := hS; go_simp⟩) hS0 ?_
  try simp only [Act.put, List.getElem_toArray, List.getElem_cons_succ, List.getElem_cons_zero, List.setIfInBounds_toArray, List.set_cons_zero, List.set_cons_succ]
  refine wpAnyH_take (i := 24) (v := .bool (a == b)) rfl (by kernel_rfl) (by kernel_rfl) (by kernel_rfl) (fun _ _ _ h => h) (Yields.yieldsIf (Or.inl ⟨by rfl, by intro wz; go_simp⟩)) hS0 ?_
  try simp only [Act.put, List.getElem_toArray, List.getElem_cons_succ, List.getElem_cons_zero, List.setIfInBounds_toArray, List.set_cons_zero, List.set_cons_succ]
  refine wpAnyH_take (i := 25) (v := .int .i64 a) rfl (by kernel_rfl) (by kernel_rfl) (by kernel_rfl) (fun _ _ _ h => h) (Yields.yieldsIf (Or.inl ⟨by rfl, by intro wz; go_simp⟩)) hS0 ?_
  try simp only [Act.put, List.getElem_toArray, List.getElem_cons_succ, List.getElem_cons_zero, List.setIfInBounds_toArray, List.set_cons_zero, List.set_cons_succ]
  refine wpAnyH_take (i := 26) (v := .int .i64 b) rfl (by kernel_rfl) (by kernel_rfl) (by kernel_rfl) (fun _ _ _ h => h) (Yields.yieldsIf (Or.inl ⟨by rfl, by intro wz; go_simp⟩)) hS0 ?_
  try simp only [Act.put, List.getElem_toArray, List.getElem_cons_succ, List.getElem_cons_zero, List.setIfInBounds_toArray, List.set_cons_zero, List.set_cons_succ]
  refine wpAnyH_take (i := 27) (v := .bool (a == b)) rfl (by kernel_rfl) (by kernel_rfl) (by kernel_rfl) (fun _ _ _ h => h) (Yields.yieldsIf (Or.inl ⟨by rfl, by intro wz; go_simp⟩)) hS0 ?_
  try simp only [Act.put, List.getElem_toArray, List.getElem_cons_succ, List.getElem_cons_zero, List.setIfInBounds_toArray, List.set_cons_zero, List.set_cons_succ]
  refine wpAnyH_take (i := 28) (v := .bool true) rfl (by kernel_rfl) (by kernel_rfl) (by kernel_rfl) (fun _ _ _ h => h) (Yields.yieldsIf (Or.inl ⟨by rfl, by intro wz; go_simp⟩)) hS0 ?_
  try simp only [Act.put, List.getElem_toArray, List.getElem_cons_succ, List.getElem_cons_zero, List.setIfInBounds_toArray, List.set_cons_zero, List.set_cons_succ]
  refine wpAnyH_take (i := 29) (v := .bool true) rfl (by kernel_rfl) (by kernel_rfl) (by kernel_rfl) (fun _ _ _ h => h) (Yields.yieldsIf (Or.inl ⟨by rfl, by intro wz; go_simp⟩)) hS0 ?_
  try simp only [Act.put, List.getElem_toArray, List.getElem_cons_succ, List.getElem_cons_zero, List.setIfInBounds_toArray, List.set_cons_zero, List.set_cons_succ]
  refine wpAnyH_take (i := 30) (v := .bool true) rfl (by kernel_rfl) (by kernel_rfl) (by kernel_rfl) (fun _ _ _ h => h) (Yields.yieldsIf (Or.inl ⟨by rfl, by intro wz; go_simp⟩)) hS0 ?_
  try simp only [Act.put, List.getElem_toArray, List.getElem_cons_succ, List.getElem_cons_zero, List.setIfInBounds_toArray, List.set_cons_zero, List.set_cons_succ]
  refine wpAnyH_done (by kernel_rfl) ?_ _
  clear hS0
  go_wp2_with fail
  go_ret
  exact ⟨rfl, bstep HB2.out hd1 (Nat.le_refl _)⟩
end Go.Proofs.YtiddlineklfhfaaDoor

/- Sets of bytes: has, add, turn. -/
import Derived.Test.YtdajacodfnidfaaGreatDoorSplit
import Derived.Laws.BitsAllLaws
namespace Go.Proofs.YtdajacodfnidfaaGreatDoor
open Go.RowKit Go.Shelf

/-- Word j of a set, as the program has it. -/
def wV (f : Nat → Bool) (j : Nat) : Value := .int .u64 (wordOf f j)
/-- Cells ahead, and the four words of a set behind. -/
def setV (pre : List Value) (f : Nat → Bool) : Array Value := (pre ++ [wV f 0, wV f 1, wV f 2, wV f 3]).toArray
theorem setV_get (pre : List Value) (f : Nat → Bool) (j : Nat) (h : j < 4) : (setV pre f)[pre.length + j]? = some (wV f j) := by
  unfold setV
  rw [List.getElem?_toArray, List.getElem?_append_right (by omega), Nat.add_sub_cancel_left]
  match j, h with
  | 0, _ => rfl
  | 1, _ => rfl
  | 2, _ => rfl
  | 3, _ => rfl

set_option maxRecDepth 100000 in
set_option maxHeartbeats 1000000 in
theorem has_any (b o : Nat) (f : Nat → Bool) (c : UInt8) (w : World) (h : ∀ j, j < 4 → w.cell? ⟨b, o + j, none⟩ = some (wV f j)) :
    Calls Tryz.prog 114 #[.pointer (some ⟨b, o, none⟩), .int .u8 c.toNat] w fun e w' => e = .returned (.bool (f c.toNat)) ∧ w' = w := by
  have hc : c.toNat < 256 := c.toNat_lt
  obtain ⟨q, hq⟩ : ∃ q, c.toNat / 64 = q := ⟨_, rfl⟩
  obtain ⟨m, hm⟩ : ∃ m, c.toNat % 64 = m := ⟨_, rfl⟩
  have hq4 : q < 4 := by omega
  have hm64 : m < 64 := by omega
  have hcell : w.cell? ⟨b, o + q, none⟩ = some (.int .u64 (wordOf f q)) := h q hq4
  have hq' : (c.toNat : Int) / 64 = (q : Int) := by omega
  have hm' : (c.toNat : Int) % 64 = (m : Int) := by omega
  have key : (bits BinOp.and IntKind.u64 ((wordOf f q : Int) / 2 ^ m) 1 == 1) = f c.toNat := by
    have h1 : (wordOf f q : Int) / 2 ^ m = ((wordOf f q / 2 ^ m : Nat) : Int) := by simp
    have hl := wordOf_lt f q
    have h2 : wordOf f q / 2 ^ m < 18446744073709551616 := Nat.lt_of_le_of_lt (Nat.div_le_self _ _) (by simpa using hl)
    have h3 := u64_and_nat (wordOf f q / 2 ^ m) 1 h2 (by decide)
    have h4 := wordOf_has f c.toNat
    rw [hq, hm, Nat.shiftRight_eq_div_pow] at h4
    rw [h1, show (1 : Int) = ((1 : Nat) : Int) from rfl, h3, Nat.and_one_is_mod, h4]
    cases f c.toNat <;> rfl
  have KEY : Hid _ := key
  clear key h
  go_enter Tryz.func114, Tryz.ntmps114
  go_wp2
  go_ret
  exact ⟨ret_bool KEY.out, rfl⟩

def setLt (f : Nat → Bool) (a c : Nat) : Nat → Bool := fun x => f x || (decide (a ≤ x) && decide (x < c))
theorem setLt_start (f : Nat → Bool) (a : Nat) : setLt f a a = f := by
  funext x
  simp only [setLt]
  cases f x <;> simp
theorem setLt_step (f : Nat → Bool) (a c : Nat) (h : a ≤ c) : setAdd (setLt f a c) c c = setLt f a (c + 1) := by
  funext x
  simp only [setLt, setAdd]
  cases f x <;> simp
  rw [Bool.eq_iff_iff]
  simp
  omega
theorem setLt_end (f : Nat → Bool) (a b c : Nat) (_h1 : a ≤ c) (h2 : b < c) (h3 : c = a ∨ c = b + 1) : setLt f a c = setAdd f a b := by
  funext x
  simp only [setLt, setAdd]
  cases f x <;> simp
  rcases h3 with h3 | h3
  · by_cases h4 : a ≤ x <;> simp [h4] <;> omega
  · by_cases h4 : a ≤ x <;> simp [h4] <;> omega
theorem setV_put (pre : List Value) (f : Nat → Bool) (c : Nat) (hc : c < 256) : (setV pre f).setIfInBounds (pre.length + c / 64) (.int .u64 ((wordOf f (c / 64) ||| 2 ^ (c % 64) : Nat) : Int)) = setV pre (setAdd f c c) := by
  have hq : c / 64 < 4 := by omega
  have e := fun j => wordOf_add1 f c j
  unfold setV wV
  rw [e 0, e 1, e 2, e 3]
  generalize c / 64 = q at *
  rw [List.setIfInBounds_toArray, List.set_append_right _ _ (by omega), Nat.add_sub_cancel_left]
  match q, hq with
  | 0, _ => simp
  | 1, _ => simp
  | 2, _ => simp
  | 3, _ => simp

theorem mod_small (P : Nat) (h : P < 18446744073709551616) : (P : Int) % 18446744073709551616 = P := by omega
theorem xor_all (x : Nat) (h : x < 18446744073709551616) : 18446744073709551615 ^^^ x = 18446744073709551615 - x := by
  have e1 : (18446744073709551615 : Nat) = 2 ^ 64 - (0 + 1) := by decide
  apply Nat.eq_of_testBit_eq
  intro i
  rw [Nat.testBit_xor, show 18446744073709551615 - x = 2 ^ 64 - (x + 1) by omega, Nat.testBit_two_pow_sub_succ (by simpa using h)]
  conv => lhs; rw [e1, Nat.testBit_two_pow_sub_succ (by decide)]
  simp
  by_cases hi : i < 64
  · simp [hi]
  · have : x.testBit i = false := Nat.testBit_lt_two_pow (Nat.lt_of_lt_of_le (by simpa using h) (Nat.pow_le_pow_right (by decide) (by omega : 64 ≤ i)))
    simp [hi, this]
theorem key_not (f : Nat → Bool) (c : Nat) : bits BinOp.xor IntKind.u64 (if IntKind.u64.signed = true then -1 else IntKind.u64.max) (wordOf f c : Int) = ((18446744073709551615 - wordOf f c : Nat) : Int) := by
  have h1 : (if IntKind.u64.signed = true then -1 else IntKind.u64.max) = ((18446744073709551615 : Nat) : Int) := by decide
  have hl : wordOf f c < 18446744073709551616 := by have := wordOf_lt f c; simpa using this
  rw [h1, u64_xor_nat _ _ (by decide) hl, xor_all _ hl]
theorem drew_grown (W : World) (r : Option Nat) : W.grownBy W.drew r := ⟨rfl, rfl, rfl, Nat.le_refl _, fun _ _ _ => rfl⟩
theorem set_grown (W : World) (b j : Nat) (v : Value) : W.grownBy (W.setCell ⟨b, j, none⟩ v) (some b) := ⟨rfl, rfl, rfl, (KeepsWalks.setCell W _ v).size, fun q _ hq => Below.heap_setCell _ _ _ q (fun e => hq (by rw [e]))⟩
theorem grown_trans {A B C : World} {r : Option Nat} (h : A.grownBy B r) (k : B.grownBy C r) : A.grownBy C r :=
  ⟨k.os.trans h.os, k.tape.trans h.tape, k.output.trans h.output, Nat.le_trans h.size k.size, fun q hq hr => (k.block q (Nat.lt_of_lt_of_le hq h.size) hr).trans (h.block q hq hr)⟩
theorem grown_refl (A : World) (r : Option Nat) : A.grownBy A r := ⟨rfl, rfl, rfl, Nat.le_refl _, fun _ _ _ => rfl⟩

set_option maxRecDepth 100000 in
set_option maxHeartbeats 2000000 in
theorem add_any (b : Nat) (t : TypeId) (pre : List Value) (f : Nat → Bool) (x y : UInt8) (w : World) (h : Cel w b t (setV pre f)) :
    Calls Tryz.prog 112 #[.pointer (some ⟨b, pre.length, none⟩), .int .u8 x.toNat, .int .u8 y.toNat] w fun e w' => e = .returned (.tuple #[]) ∧ Cel w' b t (setV pre (setAdd f x.toNat y.toNat)) ∧ w.grownBy w' (some b) := by
  have hx : x.toNat < 256 := x.toNat_lt
  have hy : y.toNat < 256 := y.toNat_lt
  generalize x.toNat = X at hx ⊢
  generalize y.toNat = Y at hy ⊢
  go_enter Tryz.func112, Tryz.ntmps112
  go_wp2
  go_loopw [6] (fun vc wr => ∃ c : Nat, vc = .int .i64 c ∧ X ≤ c ∧ (c = X ∨ c ≤ Y + 1) ∧ c ≤ 256 ∧ Cel wr b t (setV pre (setLt f X c)) ∧ w.grownBy wr (some b)) (fun vc _ => 256 - (intOf vc).toNat)
  case atStart => exact ⟨X, rfl, Nat.le_refl _, .inl rfl, by omega, by rw [setLt_start]; exact h, grown_refl _ _⟩
  case round =>
    obtain ⟨c, rfl, h1, h2, h3, hc, hg⟩ := hrel
    by_cases hle : c ≤ Y
    · obtain ⟨q, hq⟩ : ∃ q, c / 64 = q := ⟨_, rfl⟩
      obtain ⟨m, hm⟩ : ∃ m, c % 64 = m := ⟨_, rfl⟩
      have hq4 : q < 4 := by omega
      have hm64 : m < 64 := by omega
      have hq' : (c : Int).tdiv 64 = (q : Int) := by rw [← hq]; rfl
      have hm' : (c : Int).tmod 64 = (m : Int) := by rw [← hm]; rfl
      have hcell : wr.cell? ⟨b, pre.length + q, none⟩ = some (.int .u64 (wordOf (setLt f X c) q)) := (hc.cell _).trans (setV_get pre _ q hq4)
      have hfz := hc.frozen (pre.length + q)
      have key : bits BinOp.or IntKind.u64 (wordOf (setLt f X c) q : Int) (IntKind.u64.wrap (2 ^ m)) = ((wordOf (setLt f X c) (c / 64) ||| 2 ^ (c % 64) : Nat) : Int) := by
        have hp : 2 ^ m < 18446744073709551616 := by
          have : 2 ^ m < 2 ^ 64 := Nat.pow_lt_pow_right (by decide) hm64
          simpa using this
        have h4 : IntKind.u64.wrap (2 ^ m) = ((2 ^ m : Nat) : Int) := by
          rw [IntKind.wrap_u64, show ((2 : Int) ^ m) = ((2 ^ m : Nat) : Int) by simp]
          exact mod_small _ hp
        rw [h4, u64_or_nat _ _ (by have := wordOf_lt (setLt f X c) q; simpa using this) hp, hq, hm]
      have KEY : Hid _ := key
      clear key
      go_wp2
      go_region
      all_goals go_wp2
      go_roundw
      case rel =>
        rw [KEY.out]
        refine ⟨c + 1, by simp, by omega, .inr (by omega), by omega, ?_, ?_⟩
        · rw [← setLt_step f X c h1, ← setV_put pre _ c (by omega)]
          have := hc.set (j := pre.length + q) (.int .u64 ((wordOf (setLt f X c) (c / 64) ||| 2 ^ (c % 64) : Nat) : Int))
          rw [← hq] at this ⊢
          exact this
        · exact grown_trans hg (grown_trans (set_grown wr b _ _) (drew_grown _ _))
      case measure => simp [intOf]; omega
    · go_wp2
      go_end0
      exact ⟨rfl, by rw [← setLt_end f X Y c h1 (by omega) (by omega)]; exact hc, hg⟩

theorem setV_not (pre : List Value) (f : Nat → Bool) : setV pre (setNot f) = (pre ++ [Value.int .u64 ((18446744073709551615 - wordOf f 0 : Nat) : Int), Value.int .u64 ((18446744073709551615 - wordOf f 1 : Nat) : Int), Value.int .u64 ((18446744073709551615 - wordOf f 2 : Nat) : Int), Value.int .u64 ((18446744073709551615 - wordOf f 3 : Nat) : Int)]).toArray := by
  unfold setV wV
  rw [wordOf_not, wordOf_not, wordOf_not, wordOf_not]

set_option maxRecDepth 100000 in
set_option maxHeartbeats 2000000 in
theorem turn_any (b : Nat) (t : TypeId) (pre : List Value) (f : Nat → Bool) (w : World) (h : Cel w b t (setV pre f)) :
    Calls Tryz.prog 109 #[.pointer (some ⟨b, pre.length, none⟩)] w fun e w' => e = .returned (.tuple #[]) ∧ Cel w' b t (setV pre (setNot f)) ∧ w.grownBy w' (some b) := by
  go_enter Tryz.func109, Tryz.ntmps109
  go_wp2
  go_loopw [2, 3] (fun _ vc wr => ∃ c : Nat, vc = .int .i64 c ∧ c ≤ 4 ∧ Cel wr b t (pre ++ (List.range 4).map (fun j => if j < c then .int .u64 ((18446744073709551615 - wordOf f j : Nat) : Int) else wV f j)).toArray ∧ w.grownBy wr (some b)) (fun _ vc _ => 4 - (intOf vc).toNat)
  case atStart => exact ⟨0, rfl, by omega, h, grown_refl _ _⟩
  case round =>
    obtain ⟨c, rfl, h3, hc, hg⟩ := hrel
    by_cases hlt : c < 4
    · have hcell : wr.cell? ⟨b, pre.length + c, none⟩ = some (.int .u64 (wordOf f c)) := by
        rw [hc.cell, List.getElem?_toArray, List.getElem?_append_right (by omega), Nat.add_sub_cancel_left, List.getElem?_map, List.getElem?_range hlt]
        simp [wV]
      have hfz := hc.frozen (pre.length + c)
      go_wp2
      go_region
      all_goals go_wp2
      rw [key_not]
      refine ⟨⟨c + 1, by simp, by omega, ?_, grown_trans hg (grown_trans (set_grown wr b _ _) (drew_grown _ _))⟩, by simp [intOf]; omega⟩
      have h6 := hc.set (j := pre.length + c) (.int .u64 ((18446744073709551615 - wordOf f c : Nat) : Int))
      rw [List.setIfInBounds_toArray, List.set_append_right _ _ (by omega), Nat.add_sub_cancel_left] at h6
      match c, hlt with
      | 0, _ => exact h6
      | 1, _ => exact h6
      | 2, _ => exact h6
      | 3, _ => exact h6
    · go_wp2
      go_end0
      refine ⟨rfl, ?_, hg⟩
      have hc4 : c = 4 := by omega
      subst hc4
      rw [setV_not]
      exact hc
end Go.Proofs.YtdajacodfnidfaaGreatDoor

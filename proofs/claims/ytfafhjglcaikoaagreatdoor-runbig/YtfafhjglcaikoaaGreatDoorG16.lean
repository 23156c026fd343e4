/- Brackets: opens, closing. -/
import Derived.Test.YtfafhjglcaikoaaGreatDoorLSplit
import Derived.Laws.BitsAllLaws
/-! Sets of bytes: has, add, turn. -/
namespace Go.Proofs.YtfafhjglcaikoaaGreatDoor
open Go.RowKit Go.Shelf

/-- Word j of a set, as the program has it. -/
def wVL (f : Nat → Bool) (j : Nat) : Value := .int .u64 (wordOf f j)
/-- Cells ahead, and the four words of a set behind. -/
def setV (pre : List Value) (f : Nat → Bool) : Array Value := (pre ++ [wVL f 0, wVL f 1, wVL f 2, wVL f 3]).toArray
theorem setV_get (pre : List Value) (f : Nat → Bool) (j : Nat) (h : j < 4) : (setV pre f)[pre.length + j]? = some (wVL f j) := by
  unfold setV
  rw [List.getElem?_toArray, List.getElem?_append_right (by omega), Nat.add_sub_cancel_left]
  match j, h with
  | 0, _ => rfl
  | 1, _ => rfl
  | 2, _ => rfl
  | 3, _ => rfl

set_option maxRecDepth 100000 in
set_option maxHeartbeats 1000000 in
theorem has_any (b o : Nat) (f : Nat → Bool) (c : UInt8) (w : World) (h : ∀ j, j < 4 → w.cell? ⟨b, o + j, none⟩ = some (wVL f j)) :
    Calls Tryz.prog 250 #[.pointer (some ⟨b, o, none⟩), .int .u8 c.toNat] w fun e w' => e = .returned (.bool (f c.toNat)) ∧ w' = w := by
  have hc : c.toNat < 256 := c.toNat_lt
  obtain ⟨q, hq⟩ : ∃ q, c.toNat / 64 = q := ⟨_, rfl⟩
  obtain ⟨m, hm⟩ : ∃ m, c.toNat % 64 = m := ⟨_, rfl⟩
  have hq4 : q < 4 := by omega
  have hm64 : m < 64 := by omega
  have hcell : w.cell? ⟨b, o + q, none⟩ = some (.int .u64 (wordOf f q)) := h q hq4
  have hq' : (c.toNat : Int) / 64 = (q : Int) := by omega
  have hm' : (c.toNat : Int) % 64 = (m : Int) := by omega
  have key : (bits BinOp.and IntKind.u64 ((wordOf f q : Int) / 2 ^ m) 1 == 1) = f c.toNat := by
    have h1 : (wordOf f q : Int) / 2 ^ m = ((wordOf f q / 2 ^ m : Nat) : Int) := by simp
    have hl := wordOf_lt f q
    have h2 : wordOf f q / 2 ^ m < 18446744073709551616 := Nat.lt_of_le_of_lt (Nat.div_le_self _ _) (by simpa using hl)
    have h3 := u64_and_nat (wordOf f q / 2 ^ m) 1 h2 (by decide)
    have h4 := wordOf_has f c.toNat
    rw [hq, hm, Nat.shiftRight_eq_div_pow] at h4
    rw [h1, show (1 : Int) = ((1 : Nat) : Int) from rfl, h3, Nat.and_one_is_mod, h4]
    cases f c.toNat <;> rfl
  have KEY : Hid _ := key
  clear key h
  go_enter Tryz.func250, Tryz.ntmps250
  go_wp2
  go_ret
  exact ⟨ret_bool KEY.out, rfl⟩

def setLt (f : Nat → Bool) (a c : Nat) : Nat → Bool := fun x => f x || (decide (a ≤ x) && decide (x < c))
theorem setLt_start (f : Nat → Bool) (a : Nat) : setLt f a a = f := by
  funext x
  simp only [setLt]
  cases f x <;> simp
theorem setLt_step (f : Nat → Bool) (a c : Nat) (h : a ≤ c) : setAdd (setLt f a c) c c = setLt f a (c + 1) := by
  funext x
  simp only [setLt, setAdd]
  cases f x <;> simp
  rw [Bool.eq_iff_iff]
  simp
  omega
theorem setLt_end (f : Nat → Bool) (a b c : Nat) (_h1 : a ≤ c) (h2 : b < c) (h3 : c = a ∨ c = b + 1) : setLt f a c = setAdd f a b := by
  funext x
  simp only [setLt, setAdd]
  cases f x <;> simp
  rcases h3 with h3 | h3
  · by_cases h4 : a ≤ x <;> simp [h4] <;> omega
  · by_cases h4 : a ≤ x <;> simp [h4] <;> omega
theorem setV_put (pre : List Value) (f : Nat → Bool) (c : Nat) (hc : c < 256) : (setV pre f).setIfInBounds (pre.length + c / 64) (.int .u64 ((wordOf f (c / 64) ||| 2 ^ (c % 64) : Nat) : Int)) = setV pre (setAdd f c c) := by
  have hq : c / 64 < 4 := by omega
  have e := fun j => wordOf_add1 f c j
  unfold setV wVL
  rw [e 0, e 1, e 2, e 3]
  generalize c / 64 = q at *
  rw [List.setIfInBounds_toArray, List.set_append_right _ _ (by omega), Nat.add_sub_cancel_left]
  match q, hq with
  | 0, _ => simp
  | 1, _ => simp
  | 2, _ => simp
  | 3, _ => simp

theorem mod_small (P : Nat) (h : P < 18446744073709551616) : (P : Int) % 18446744073709551616 = P := by omega
theorem xor_all (x : Nat) (h : x < 18446744073709551616) : 18446744073709551615 ^^^ x = 18446744073709551615 - x := by
  have e1 : (18446744073709551615 : Nat) = 2 ^ 64 - (0 + 1) := by decide
  apply Nat.eq_of_testBit_eq
  intro i
  rw [Nat.testBit_xor, show 18446744073709551615 - x = 2 ^ 64 - (x + 1) by omega, Nat.testBit_two_pow_sub_succ (by simpa using h)]
  conv => lhs; rw [e1, Nat.testBit_two_pow_sub_succ (by decide)]
  simp
  by_cases hi : i < 64
  · simp [hi]
  · have : x.testBit i = false := Nat.testBit_lt_two_pow (Nat.lt_of_lt_of_le (by simpa using h) (Nat.pow_le_pow_right (by decide) (by omega : 64 ≤ i)))
    simp [hi, this]
theorem key_not (f : Nat → Bool) (c : Nat) : bits BinOp.xor IntKind.u64 (if IntKind.u64.signed = true then -1 else IntKind.u64.max) (wordOf f c : Int) = ((18446744073709551615 - wordOf f c : Nat) : Int) := by
  have h1 : (if IntKind.u64.signed = true then -1 else IntKind.u64.max) = ((18446744073709551615 : Nat) : Int) := by decide
  have hl : wordOf f c < 18446744073709551616 := by have := wordOf_lt f c; simpa using this
  rw [h1, u64_xor_nat _ _ (by decide) hl, xor_all _ hl]
theorem drew_grown (W : World) (r : Option Nat) : W.grownBy W.drew r := ⟨rfl, rfl, rfl, Nat.le_refl _, fun _ _ _ => rfl⟩
theorem set_grown (W : World) (b j : Nat) (v : Value) : W.grownBy (W.setCell ⟨b, j, none⟩ v) (some b) := ⟨rfl, rfl, rfl, (KeepsWalks.setCell W _ v).size, fun q _ hq => Below.heap_setCell _ _ _ q (fun e => hq (by rw [e]))⟩
theorem grown_trans {A B C : World} {r : Option Nat} (h : A.grownBy B r) (k : B.grownBy C r) : A.grownBy C r :=
  ⟨k.os.trans h.os, k.tape.trans h.tape, k.output.trans h.output, Nat.le_trans h.size k.size, fun q hq hr => (k.block q (Nat.lt_of_lt_of_le hq h.size) hr).trans (h.block q hq hr)⟩
theorem grown_refl (A : World) (r : Option Nat) : A.grownBy A r := ⟨rfl, rfl, rfl, Nat.le_refl _, fun _ _ _ => rfl⟩

set_option maxRecDepth 100000 in
set_option maxHeartbeats 2000000 in
theorem add_any (b : Nat) (t : TypeId) (pre : List Value) (f : Nat → Bool) (x y : UInt8) (w : World) (h : Cel w b t (setV pre f)) :
    Calls Tryz.prog 257 #[.pointer (some ⟨b, pre.length, none⟩), .int .u8 x.toNat, .int .u8 y.toNat] w fun e w' => e = .returned (.tuple #[]) ∧ Cel w' b t (setV pre (setAdd f x.toNat y.toNat)) ∧ w.grownBy w' (some b) := by
  have hx : x.toNat < 256 := x.toNat_lt
  have hy : y.toNat < 256 := y.toNat_lt
  generalize x.toNat = X at hx ⊢
  generalize y.toNat = Y at hy ⊢
  go_enter Tryz.func257, Tryz.ntmps257
  go_wp2
  go_loopw [6] (fun vc wr => ∃ c : Nat, vc = .int .i64 c ∧ X ≤ c ∧ (c = X ∨ c ≤ Y + 1) ∧ c ≤ 256 ∧ Cel wr b t (setV pre (setLt f X c)) ∧ w.grownBy wr (some b)) (fun vc _ => 256 - (intOf vc).toNat)
  case atStart => exact ⟨X, rfl, Nat.le_refl _, .inl rfl, by omega, by rw [setLt_start]; exact h, grown_refl _ _⟩
  case round =>
    obtain ⟨c, rfl, h1, h2, h3, hc, hg⟩ := hrel
    by_cases hle : c ≤ Y
    · obtain ⟨q, hq⟩ : ∃ q, c / 64 = q := ⟨_, rfl⟩
      obtain ⟨m, hm⟩ : ∃ m, c % 64 = m := ⟨_, rfl⟩
      have hq4 : q < 4 := by omega
      have hm64 : m < 64 := by omega
      have hq' : (c : Int).tdiv 64 = (q : Int) := by rw [← hq]; rfl
      have hm' : (c : Int).tmod 64 = (m : Int) := by rw [← hm]; rfl
      have hcell : wr.cell? ⟨b, pre.length + q, none⟩ = some (.int .u64 (wordOf (setLt f X c) q)) := (hc.cell _).trans (setV_get pre _ q hq4)
      have hfz := hc.frozen (pre.length + q)
      have key : bits BinOp.or IntKind.u64 (wordOf (setLt f X c) q : Int) (IntKind.u64.wrap (2 ^ m)) = ((wordOf (setLt f X c) (c / 64) ||| 2 ^ (c % 64) : Nat) : Int) := by
        have hp : 2 ^ m < 18446744073709551616 := by
          have : 2 ^ m < 2 ^ 64 := Nat.pow_lt_pow_right (by decide) hm64
          simpa using this
        have h4 : IntKind.u64.wrap (2 ^ m) = ((2 ^ m : Nat) : Int) := by
          rw [IntKind.wrap_u64, show ((2 : Int) ^ m) = ((2 ^ m : Nat) : Int) by simp]
          exact mod_small _ hp
        rw [h4, u64_or_nat _ _ (by have := wordOf_lt (setLt f X c) q; simpa using this) hp, hq, hm]
      have KEY : Hid _ := key
      clear key
      go_wp2
      go_region
      all_goals go_wp2
      go_roundw
      case rel =>
        rw [KEY.out]
        refine ⟨c + 1, by simp, by omega, .inr (by omega), by omega, ?_, ?_⟩
        · rw [← setLt_step f X c h1, ← setV_put pre _ c (by omega)]
          have := hc.set (j := pre.length + q) (.int .u64 ((wordOf (setLt f X c) (c / 64) ||| 2 ^ (c % 64) : Nat) : Int))
          rw [← hq] at this ⊢
          exact this
        · exact grown_trans hg (grown_trans (set_grown wr b _ _) (drew_grown _ _))
      case measure => simp [intOf]; omega
    · go_wp2
      go_end0
      exact ⟨rfl, by rw [← setLt_end f X Y c h1 (by omega) (by omega)]; exact hc, hg⟩

theorem setV_not (pre : List Value) (f : Nat → Bool) : setV pre (setNot f) = (pre ++ [Value.int .u64 ((18446744073709551615 - wordOf f 0 : Nat) : Int), Value.int .u64 ((18446744073709551615 - wordOf f 1 : Nat) : Int), Value.int .u64 ((18446744073709551615 - wordOf f 2 : Nat) : Int), Value.int .u64 ((18446744073709551615 - wordOf f 3 : Nat) : Int)]).toArray := by
  unfold setV wVL
  rw [wordOf_not, wordOf_not, wordOf_not, wordOf_not]

set_option maxRecDepth 100000 in
set_option maxHeartbeats 2000000 in
theorem turn_any (b : Nat) (t : TypeId) (pre : List Value) (f : Nat → Bool) (w : World) (h : Cel w b t (setV pre f)) :
    Calls Tryz.prog 253 #[.pointer (some ⟨b, pre.length, none⟩)] w fun e w' => e = .returned (.tuple #[]) ∧ Cel w' b t (setV pre (setNot f)) ∧ w.grownBy w' (some b) := by
  go_enter Tryz.func253, Tryz.ntmps253
  go_wp2
  go_loopw [2, 3] (fun _ vc wr => ∃ c : Nat, vc = .int .i64 c ∧ c ≤ 4 ∧ Cel wr b t (pre ++ (List.range 4).map (fun j => if j < c then .int .u64 ((18446744073709551615 - wordOf f j : Nat) : Int) else wVL f j)).toArray ∧ w.grownBy wr (some b)) (fun _ vc _ => 4 - (intOf vc).toNat)
  case atStart => exact ⟨0, rfl, by omega, h, grown_refl _ _⟩
  case round =>
    obtain ⟨c, rfl, h3, hc, hg⟩ := hrel
    by_cases hlt : c < 4
    · have hcell : wr.cell? ⟨b, pre.length + c, none⟩ = some (.int .u64 (wordOf f c)) := by
        rw [hc.cell, List.getElem?_toArray, List.getElem?_append_right (by omega), Nat.add_sub_cancel_left, List.getElem?_map, List.getElem?_range hlt]
        simp [wVL]
      have hfz := hc.frozen (pre.length + c)
      go_wp2
      go_region
      all_goals go_wp2
      rw [key_not]
      refine ⟨⟨c + 1, by simp, by omega, ?_, grown_trans hg (grown_trans (set_grown wr b _ _) (drew_grown _ _))⟩, by simp [intOf]; omega⟩
      have h6 := hc.set (j := pre.length + c) (.int .u64 ((18446744073709551615 - wordOf f c : Nat) : Int))
      rw [List.setIfInBounds_toArray, List.set_append_right _ _ (by omega), Nat.add_sub_cancel_left] at h6
      match c, hlt with
      | 0, _ => exact h6
      | 1, _ => exact h6
      | 2, _ => exact h6
      | 3, _ => exact h6
    · go_wp2
      go_end0
      refine ⟨rfl, ?_, hg⟩
      have hc4 : c = 4 := by omega
      subst hc4
      rw [setV_not]
      exact hc
end Go.Proofs.YtfafhjglcaikoaaGreatDoor
namespace Go.Proofs.YtfafhjglcaikoaaGreatDoor
open Go.RowKit Go.Shelf

/-- From cell o of block g on lie these letters. -/
def LtAt (W : World) (g o : Nat) (l : List Lt) : Prop := ∀ k x, l[k]? = some x → W.cell? ⟨g, o + k * 2, none⟩ = some (.int .u8 x.1.toNat) ∧ W.cell? ⟨g, o + k * 2 + 1, none⟩ = some (.bool x.2)
theorem LtAt.below {W W' : World} {g o B : Nat} {l : List Lt} (h : LtAt W g o l) (hb : Below B W W') (hg : g < B) : LtAt W' g o l := fun k x hx =>
  ⟨(hb.cell (p := ⟨g, o + k * 2, none⟩) hg).trans (h k x hx).1, (hb.cell (p := ⟨g, o + k * 2 + 1, none⟩) hg).trans (h k x hx).2⟩
/-- What is owned reads so. -/
theorem LtAt.owned {W : World} {B : Nat} {v : Value} {l : List Lt} (h : W.ownsRow B 319 2 v l.length (ltCells l)) : ∃ g cap, (l ≠ [] → v = .slice (some ⟨g, 0, none⟩) l.length cap ∧ l.length ≤ cap) ∧ (l = [] → ∃ ad cap, v = .slice ad 0 cap) ∧ LtAt W g 0 l ∧ (l ≠ [] → g < W.heap.size ∧ B ≤ g) := by
  rcases h.2 with ⟨hv, h0⟩ | ⟨g, cap, cur, hv, hb, hc, h1, _, h2, h3⟩
  · have hl : l = [] := List.eq_nil_of_length_eq_zero h0
    subst hl
    exact ⟨0, 0, fun e => absurd rfl e, fun _ => ⟨none, 0, hv⟩, fun k x hx => by simp at hx, fun e => absurd rfl e⟩
  · refine ⟨g, cap, fun _ => ⟨hv, h1⟩, fun e => ⟨_, cap, by rw [hv, e]; rfl⟩, fun k x hx => ?_, fun _ => ⟨(Array.getElem?_eq_some_iff.1 hc).1, hb⟩⟩
    have hk := (List.getElem?_eq_some_iff.1 hx).1
    have key : ∀ j, j < 2 → W.cell? ⟨g, 0 + k * 2 + j, none⟩ = (ltCells l)[k * 2 + j]? := by
      intro j hj
      have e1 : W.cell? ⟨g, 0 + k * 2 + j, none⟩ = cur[k * 2 + j]? := by simp [World.cell?, hc]
      rw [e1, ← h3, List.getElem?_take_of_lt (by omega), Array.getElem?_toList]
    have hg : ∀ (l : List Lt) k x, l[k]? = some x → (ltCells l)[k * 2]? = some (.int .u8 x.1.toNat) ∧ (ltCells l)[k * 2 + 1]? = some (.bool x.2) := by
      intro l
      induction l with
      | nil => intro k x h; simp at h
      | cons y l ih =>
        intro k x h
        cases k with
        | zero => simp at h; subst h; exact ⟨rfl, rfl⟩
        | succ k =>
          have := ih k x (by simpa using h)
          rw [show (k + 1) * 2 = k * 2 + 2 by omega]
          exact this
    obtain ⟨g1, g2⟩ := hg l k x hx
    exact ⟨(key 0 (by omega)).trans g1, (key 1 (by omega)).trans g2⟩

theorem isl_at {l : List Lt} {i : Nat} {x : Lt} (hx : l[i]? = some x) : i < l.length := (List.getElem?_eq_some_iff.1 hx).1

set_option maxRecDepth 100000 in
set_option maxHeartbeats 1000000 in
theorem opens_any (g o cap : Nat) (last : Nat) (l : List Lt) (i : Nat) (x : Lt) (hx : l[i]? = some x) (w : World) (h : LtAt w g o l) (hi : i < 4294967296) (_hc : l.length ≤ cap) :
    Calls Tryz.prog 254 #[.agg #[.slice (some ⟨g, o, none⟩) l.length cap, .int .i64 last], .int .i64 i] w fun e w' => e = .returned (.bool (isL x 91 && decide (i + 1 < last))) ∧ Below w.heap.size w w' := by
  obtain ⟨h1, h2⟩ := h i x hx
  have hil := isl_at hx
  have hgl : g < w.heap.size := lt_of_cell h1
  have HX : Hid _ := hx
  clear hx h
  have hlast : ((last : Int) > (i : Int) + 1 ↔ i + 1 < last) := by omega
  cases hq : isL x 91
  all_goals
    go_enter Tryz.func254, Tryz.ntmps254
    go_wp2_with (go_at_call 252; refine (is_any x 91 91 rfl _).mono ?_; rintro e w1 ⟨rfl, hw1⟩; subst hw1; rw [hq])
    go_ret
    exact ⟨ret_bool (by first | rfl | (simp; omega) | (rw [Bool.true_and]; exact decide_eq_decide.2 (by omega))), ((Below.refl _ w).alloc (Nat.le_refl _) _).alloc (by simp) _⟩

set_option maxRecDepth 100000 in
set_option maxHeartbeats 2000000 in
theorem closing_any (g cap : Nat) (last : Nat) (l : List Lt) (i k : Nat) (hk : ((l.drop (i + 2)).findIdx? (isL · 93)) = some k) (w : World) (h : LtAt w g 0 l) (hi : i < 4294967296) (hl : l.length < 4294967296) (_hc : l.length ≤ cap) (hgw : g < w.heap.size) :
    Calls Tryz.prog 255 #[.agg #[.slice (some ⟨g, 0, none⟩) l.length cap, .int .i64 last], .int .i64 i] w fun e w' => e = .returned (.int .i64 ((i + 2 + k : Nat) : Int)) ∧ Below w.heap.size w w' := by
  have hf := List.findIdx?_eq_some_iff_getElem.1 hk
  obtain ⟨hkl, hk1, hk2⟩ := hf
  have HF : Hid (∀ j, j < k → ∃ x, l[i + 2 + j]? = some x ∧ isL x 93 = false) := by
    intro j hj
    have h3 := hk2 j hj
    have h4 : j < (l.drop (i + 2)).length := by omega
    refine ⟨(l.drop (i + 2))[j], ?_, by simpa using h3⟩
    rw [← List.getElem?_drop, List.getElem?_eq_getElem h4]
  have HK : Hid (∃ x, l[i + 2 + k]? = some x ∧ isL x 93 = true) := by
    refine ⟨(l.drop (i + 2))[k], ?_, by simpa using hk1⟩
    rw [← List.getElem?_drop, List.getElem?_eq_getElem hkl]
  have hkl' : i + 2 + k < l.length := by simp at hkl; omega
  have H : Hid (LtAt w g 0 l) := h
  clear h hk hk1 hk2 hkl
  go_enter Tryz.func255, Tryz.ntmps255
  go_wp2
  go_loopw [5] (fun ve wr => ∃ j : Nat, ve = .int .i64 ((i + 2 + j : Nat) : Int) ∧ j ≤ k ∧ Below w.heap.size w wr ∧ Cel wr w.heap.size 316 #[.slice (some ⟨g, 0, none⟩) l.length cap, .int .i64 last] ∧ Hid (LtAt wr g 0 l)) (fun ve _ => (i + 2 + k) - (intOf ve).toNat)
  case atStart => exact ⟨0, by simp, by omega, (Below.refl _ w).alloc (Nat.le_refl _) _, Cel.new w 316 _, LtAt.below H.out ((Below.refl _ w).alloc (Nat.le_refl _) _) hgw⟩
  case round =>
    obtain ⟨j, rfl, hj, hb, hcl, hlt⟩ := hrel
    have c1 : wr.cell? ⟨w.heap.size, 0, none⟩ = some (.slice (some ⟨g, 0, none⟩) l.length cap) := hcl.cell 0
    have hgr : g < wr.heap.size := Nat.lt_of_lt_of_le hgw hb.size
    have hbd : i + 2 + j < l.length := by omega
    by_cases hjk : j < k
    · obtain ⟨x, hx, hq⟩ := HF.out j hjk
      obtain ⟨q1, q2⟩ := hlt.out _ _ hx
      have HX : Hid _ := hx
      clear hx
      simp only [Nat.zero_add] at q1 q2
      go_wp2_with (go_at_call 252; refine (is_below x 93 93 rfl _).mono ?_; rintro e w1 ⟨rfl, hb1⟩; rw [hq])
      refine ⟨⟨j + 1, by congr 1, by omega, hb.trans (hb1.mono hb.size), hcl.below hb1 hcl.lt, LtAt.below hlt.out hb1 hgr⟩, by simp [intOf]; omega⟩
    · have hjk' : j = k := by omega
      subst hjk'
      obtain ⟨x, hx, hq⟩ := HK.out
      obtain ⟨q1, q2⟩ := hlt.out _ _ hx
      have HX : Hid _ := hx
      clear hx
      simp only [Nat.zero_add] at q1 q2
      go_wp2_with (go_at_call 252; refine (is_below x 93 93 rfl _).mono ?_; rintro e w1 ⟨rfl, hb1⟩; rw [hq])
      go_ret
      exact ⟨rfl, hb.trans (hb1.mono hb.size)⟩
end Go.Proofs.YtfafhjglcaikoaaGreatDoor

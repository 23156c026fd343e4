/- A number of one digit; a part as it is written. -/
import Derived.Test.YtnlbjgioleoihaaGreatDoorPureY
import Derived.Test.YtnlbjgioleoihaaGreatDoorPureZ
import Derived.Test.YtnlbjgioleoihaaGreatDoorShelf2
import Derived.Test.YtnlbjgioleoihaaGreatDoorRd19
namespace Go.Proofs.YtnlbjgioleoihaaGreatDoor
open Go.RowKit
attribute [local go_sem] Oper.semAt_some

def digT (n : Nat) : Value := str [UInt8.ofNat (48 + n)]
set_option maxRecDepth 100000 in
theorem small_any (n : Nat) (h0 : n < 10) (W : World) : Calls Tryz.prog 93 #[.int .i64 (n : Nat)] W fun e w' => e = .returned (digT n) ∧ w' = W := by
  rcases n with _ | _ | _ | _ | _ | _ | _ | _ | _ | _ | n
  all_goals first | omega | skip
  all_goals
    go_enter Tryz.func93, Tryz.ntmps93
    go_wp2_with fail
    go_ret
    exact ⟨rfl, rfl⟩
theorem formatInt_any (n : Nat) (h0 : n < 10) (W : World) : Calls Tryz.prog 91 #[.int .i64 (n : Nat), .int .i64 10] W fun e w' => e = .returned (digT n) ∧ w' = W := by
  have HS : Hid _ := small_any n h0 W
  have h1 : (0 : Int) ≤ (n : Int) := by omega
  have h2 : (n : Int) < 100 := by omega
  have h3 : decide ((0 : Int) ≤ (n : Int)) = true := decide_eq_true h1
  have h4 : decide ((n : Int) < 100) = true := decide_eq_true h2
  generalize digT n = d at *
  go_enter Tryz.func91, Tryz.ntmps91
  go_wp2_with fail
  refine Calls.mono HS.out ?_
  rintro e w1 ⟨rfl, rfl⟩
  go_wp2_with fail
  go_ret
  exact ⟨rfl, rfl⟩
theorem itoaI_any (n : Nat) (h0 : n < 10) (W : World) : Calls Tryz.prog 86 #[.int .i64 (n : Nat)] W fun e w' => e = .returned (digT n) ∧ w' = W := by
  have HS : Hid _ := formatInt_any n h0 W
  generalize digT n = d at *
  go_enter Tryz.func86, Tryz.ntmps86
  go_wp2_with fail
  refine Calls.mono HS.out ?_
  rintro e w1 ⟨rfl, rfl⟩
  go_wp2_with fail
  go_ret
  exact ⟨rfl, rfl⟩
theorem itoa_any (n : Nat) (h0 : n < 10) (W : World) : Calls Tryz.prog 77 #[.int .i64 (n : Nat)] W fun e w' => e = .returned (digT n) ∧ w' = W := by
  have HS : Hid _ := itoaI_any n h0 W
  generalize digT n = d at *
  go_enter Tryz.func77, Tryz.ntmps77
  go_wp2_with fail
  refine Calls.mono HS.out ?_
  rintro e w1 ⟨rfl, rfl⟩
  go_wp2_with fail
  go_ret
  exact ⟨rfl, rfl⟩
theorem number_any (n : Nat) (h0 : n < 10) (W : World) : Calls Tryz.prog 64 #[.int .i64 (n : Nat)] W fun e w' => e = .returned (digT n) ∧ w' = W := by
  have HS : Hid _ := itoa_any n h0 W
  generalize digT n = d at *
  go_enter Tryz.func64, Tryz.ntmps64
  go_wp2_with fail
  refine Calls.mono HS.out ?_
  rintro e w1 ⟨rfl, rfl⟩
  go_wp2_with fail
  go_ret
  exact ⟨rfl, rfl⟩
theorem str_add1 (c : UInt8) (l : List UInt8) : (⟨#[c]⟩ : ByteArray) ++ ⟨l.toArray⟩ = ⟨(c :: l).toArray⟩ := by
  apply ByteArray.ext
  simp
theorem str_add2 (c d : UInt8) (l : List UInt8) : (⟨#[c, d]⟩ : ByteArray) ++ ⟨l.toArray⟩ = ⟨(c :: d :: l).toArray⟩ := by
  apply ByteArray.ext
  simp
theorem str_end (l : List UInt8) (c : UInt8) : (⟨l.toArray⟩ : ByteArray) ++ ⟨#[c]⟩ = ⟨(l ++ [c]).toArray⟩ := by
  apply ByteArray.ext
  simp
/-- What a dollar's part is printed as. -/
def DolC (p : Pt) : Prop := ∀ W : World, Calls Tryz.prog 49 #[.agg (ptC p).toArray] W fun e w' => e = .returned (str (prDol p)) ∧ Below W.heap.size W w'
theorem dol_star (a : Nat) (q : Bool) : DolC ⟨3, a, 0, q, [42]⟩ := by
  intro W
  go_enter Tryz.func49, Tryz.ntmps49
  go_wp2_with fail
  go_ret
  exact ⟨rfl, below_new _ _⟩
theorem dol_var (a : Nat) (q : Bool) (s : List UInt8) (h : nameB s = true) (hs : s.length ≤ 8192) : DolC ⟨3, a, 0, q, s⟩ := by
  intro W
  rw [prDol_var h]
  have h1 : (s == [42]) = false := by rw [beq_eq_false_iff_ne]; exact (nameB_ne h).1
  have h2 : ¬ s = [42] := (nameB_ne h).1
  have e1 := str_add2 36 123 s
  have e2 := str_end (36 :: 123 :: s) 125
  have hb : ¬ 9223372036854775807 < 2 + s.length := by omega
  have hb2 : ¬ 9223372036854775807 < s.length + 1 + 1 + 1 := by omega
  clear h
  go_enter Tryz.func49, Tryz.ntmps49
  go_wp2_with fail
  go_ret
  exact ⟨rfl, below_new _ _⟩
theorem dol_sub' (a : Nat) (q : Bool) (s : List UInt8) (hs : s.length ≤ 8192) : DolC ⟨4, a, 0, q, s⟩ := by
  intro W
  rw [show prDol ⟨4, a, 0, q, s⟩ = 36 :: 40 :: (s ++ [41]) from rfl]
  have e1 := str_add2 36 40 s
  have e2 := str_end (36 :: 40 :: s) 41
  have hb : ¬ 9223372036854775807 < 2 + s.length := by omega
  have hb2 : ¬ 9223372036854775807 < s.length + 1 + 1 + 1 := by omega
  go_enter Tryz.func49, Tryz.ntmps49
  go_wp2_with fail
  go_ret
  exact ⟨rfl, below_new _ _⟩
theorem dol_num (a n : Nat) (q : Bool) (hn : n < 10) : DolC ⟨5, a, n, q, []⟩ := by
  intro W
  rw [show prDol ⟨5, a, n, q, []⟩ = [36, UInt8.ofNat (48 + n)] from rfl]
  have HN : Hid (∀ W, Calls Tryz.prog 64 #[.int .i64 (n : Nat)] W fun e w' => e = .returned (digT n) ∧ w' = W) := fun W => number_any n hn W
  unfold digT at HN
  have e1 := str_add1 36 [UInt8.ofNat (48 + n)]
  generalize UInt8.ofNat (48 + n) = d at *
  go_enter Tryz.func49, Tryz.ntmps49
  go_wp2_with fail
  refine Calls.mono (HN.out _) ?_
  rintro e w1 ⟨rfl, rfl⟩
  go_wp2_with fail
  go_ret
  exact ⟨rfl, below_new _ _⟩
theorem dol_many (a : Nat) (q : Bool) : DolC ⟨6, a, 0, q, []⟩ := by
  intro W
  go_enter Tryz.func49, Tryz.ntmps49
  go_wp2_with fail
  go_ret
  exact ⟨rfl, below_new _ _⟩
theorem dol_any {p : Pt} (h : GP p) (h3 : 3 ≤ p.kind) (hs : p.s.length ≤ 8192) : DolC p := by
  cases h with
  | txt a s => simp at h3
  | dead a s => simp at h3
  | star a q => exact dol_star a q
  | var a q s h => exact dol_var a q s h hs
  | sub a q s h => exact dol_sub' a q s hs
  | num a n q h1 h9 => exact dol_num a n q (by omega)
  | many a q => exact dol_many a q
end Go.Proofs.YtnlbjgioleoihaaGreatDoor

/- A number of one digit; a token as it is written. -/
import Derived.Test.YtddekcohfbnmbaaDoorPureK
import Derived.Test.YtddekcohfbnmbaaDoorPureL
import Derived.Test.YtddekcohfbnmbaaDoorShelf2
namespace Go.Proofs.YtddekcohfbnmbaaDoor
open Go.RowKit
attribute [local go_sem] Oper.semAt_some

def digT (n : Nat) : Value := str [UInt8.ofNat (48 + n)]
set_option maxRecDepth 100000 in
theorem small_any (n : Nat) (h0 : n < 10) (W : World) : Calls Tryd.prog 83 #[.int .i64 (n : Nat)] W fun e w' => e = .returned (digT n) ∧ w' = W := by
  rcases n with _ | _ | _ | _ | _ | _ | _ | _ | _ | _ | n
  all_goals first | omega | skip
  all_goals
    go_enter Tryd.func83, Tryd.ntmps83
    go_wp2_with fail
    go_ret
    exact ⟨rfl, rfl⟩
theorem formatInt_any (n : Nat) (h0 : n < 10) (W : World) : Calls Tryd.prog 75 #[.int .i64 (n : Nat), .int .i64 10] W fun e w' => e = .returned (digT n) ∧ w' = W := by
  have HS : Hid _ := small_any n h0 W
  have h1 : (0 : Int) ≤ (n : Int) := by omega
  have h2 : (n : Int) < 100 := by omega
  have h3 : decide ((0 : Int) ≤ (n : Int)) = true := decide_eq_true h1
  have h4 : decide ((n : Int) < 100) = true := decide_eq_true h2
  generalize digT n = d at *
  go_enter Tryd.func75, Tryd.ntmps75
  go_wp2_with fail
  refine Calls.mono HS.out ?_
  rintro e w1 ⟨rfl, rfl⟩
  go_wp2_with fail
  go_ret
  exact ⟨rfl, rfl⟩
theorem itoaI_any (n : Nat) (h0 : n < 10) (W : World) : Calls Tryd.prog 63 #[.int .i64 (n : Nat)] W fun e w' => e = .returned (digT n) ∧ w' = W := by
  have HS : Hid _ := formatInt_any n h0 W
  generalize digT n = d at *
  go_enter Tryd.func63, Tryd.ntmps63
  go_wp2_with fail
  refine Calls.mono HS.out ?_
  rintro e w1 ⟨rfl, rfl⟩
  go_wp2_with fail
  go_ret
  exact ⟨rfl, rfl⟩
theorem itoa_any (n : Nat) (h0 : n < 10) (W : World) : Calls Tryd.prog 50 #[.int .i64 (n : Nat)] W fun e w' => e = .returned (digT n) ∧ w' = W := by
  have HS : Hid _ := itoaI_any n h0 W
  generalize digT n = d at *
  go_enter Tryd.func50, Tryd.ntmps50
  go_wp2_with fail
  refine Calls.mono HS.out ?_
  rintro e w1 ⟨rfl, rfl⟩
  go_wp2_with fail
  go_ret
  exact ⟨rfl, rfl⟩
theorem number_any (n : Nat) (h0 : n < 10) (W : World) : Calls Tryd.prog 39 #[.int .i64 (n : Nat)] W fun e w' => e = .returned (digT n) ∧ w' = W := by
  have HS : Hid _ := itoa_any n h0 W
  generalize digT n = d at *
  go_enter Tryd.func39, Tryd.ntmps39
  go_wp2_with fail
  refine Calls.mono HS.out ?_
  rintro e w1 ⟨rfl, rfl⟩
  go_wp2_with fail
  go_ret
  exact ⟨rfl, rfl⟩
theorem str_add1 (c : UInt8) (l : List UInt8) : (⟨#[c]⟩ : ByteArray) ++ ⟨l.toArray⟩ = ⟨(c :: l).toArray⟩ := by
  apply ByteArray.ext
  simp
theorem str_add2 (c d : UInt8) (l : List UInt8) : (⟨#[c, d]⟩ : ByteArray) ++ ⟨l.toArray⟩ = ⟨(c :: d :: l).toArray⟩ := by
  apply ByteArray.ext
  simp
theorem str_end (l : List UInt8) (c : UInt8) : (⟨l.toArray⟩ : ByteArray) ++ ⟨#[c]⟩ = ⟨(l ++ [c]).toArray⟩ := by
  apply ByteArray.ext
  simp
/-- A token of a fixed sign. -/
theorem printed_sign (k p n : Nat) (s : List UInt8) (g : Bool) (hk : k < 18) (W : World) (ea : Nat → Addr) (hE : Env W ea) :
    Calls Tryd.prog 26 #[.agg #[.int .i64 (k : Nat), .int .i64 (p : Nat), .int .i64 (n : Nat), str s, .bool g]] W fun e w' => e = .returned (str (sgn k)) ∧ Below W.heap.size W w' := by
  have c1 := (hE.below (below_new W (.cells #[.int .i64 (k : Nat), .int .i64 (p : Nat), .int .i64 (n : Nat), str s, .bool g] 40))).sign k hk
  have n18 : ((k : Int) == 18) = false := by rw [beq_eq_false_iff_ne]; omega
  have n19 : ((k : Int) == 19) = false := by rw [beq_eq_false_iff_ne]; omega
  have n20 : ((k : Int) == 20) = false := by rw [beq_eq_false_iff_ne]; omega
  have n21 : ((k : Int) == 21) = false := by rw [beq_eq_false_iff_ne]; omega
  have n22 : ((k : Int) == 22) = false := by rw [beq_eq_false_iff_ne]; omega
  have n23 : ((k : Int) == 23) = false := by rw [beq_eq_false_iff_ne]; omega
  have l0 : ¬ (k : Int) < 0 := by omega
  have l1 : decide ((k : Int) < 0) = false := decide_eq_false l0
  have g0 : ¬ (18 : Int) ≤ (k : Int) := by omega
  have g1 : decide ((18 : Int) ≤ (k : Int)) = false := decide_eq_false g0
  have k1 : (k : Int) < 18 := by omega
  clear hE
  generalize sgn k = sk at *
  go_enter Tryd.func26, Tryd.ntmps26
  go_wp2_with fail
  go_ret
  exact ⟨rfl, below_new _ _⟩
theorem printed_word (p n : Nat) (s : List UInt8) (g : Bool) (W : World) :
    Calls Tryd.prog 26 #[.agg #[.int .i64 (18 : Nat), .int .i64 (p : Nat), .int .i64 (n : Nat), str s, .bool g]] W fun e w' => e = .returned (str s) ∧ Below W.heap.size W w' := by
  go_enter Tryd.func26, Tryd.ntmps26
  go_wp2_with fail
  go_ret
  exact ⟨rfl, below_new _ _⟩
theorem printed_dead (p n : Nat) (s : List UInt8) (g : Bool) (W : World) (ea : Nat → Addr) (hE : Env W ea) (hs : s.length ≤ 8192) :
    Calls Tryd.prog 26 #[.agg #[.int .i64 (19 : Nat), .int .i64 (p : Nat), .int .i64 (n : Nat), str s, .bool g]] W fun e w' => e = .returned (str (39 :: (quo s ++ [39]))) ∧ Below W.heap.size W w' := by
  have HR : Hid (Calls Tryd.prog 38 #[str s, .string ⟨#[39]⟩, .string ⟨#[39, 39]⟩] (W.alloc (.cells #[.int .i64 ((19 : Nat) : Int), .int .i64 (p : Nat), .int .i64 (n : Nat), str s, .bool g] 40)) fun e w' => e = .returned (str (quo s)) ∧ Below W.heap.size W w') := by
    obtain ⟨ml, hml⟩ := (hE.below (below_new W (.cells #[.int .i64 ((19 : Nat) : Int), .int .i64 (p : Nat), .int .i64 (n : Nat), str s, .bool g] 40))).ml
    have hcl : Lib.countB ⟨s.toArray⟩ ⟨#[39]⟩ ≤ s.length + 1 := count_le s [39]
    have hz : (⟨s.toArray⟩ : ByteArray).size = s.length := rfl
    refine (Tryd.strings_ReplaceAll ⟨s.toArray⟩ ⟨#[39]⟩ ⟨#[39, 39]⟩ ml _ (by omega) hml (by show 1 ≤ 1; omega) (by show (⟨s.toArray⟩ : ByteArray).size + Lib.countB ⟨s.toArray⟩ ⟨#[39]⟩ * 2 ≤ _; omega)).mono ?_
    rintro e w' ⟨rfl, hb'⟩
    refine ⟨?_, (below_new W _).trans (hb'.mono (by simp))⟩
    show Ending.returned (.string ⟨(Lib.replaceAll s [39] [39, 39]).toArray⟩) = _
    rw [rep_quotes]
  clear hE
  have e1 := str_add1 39 (quo s)
  have e2 := str_end (39 :: quo s) 39
  have hq := quo_len s
  have hb1 : ¬ 9223372036854775807 < 1 + (quo s).length := by omega
  have hb2 : ¬ 9223372036854775807 < (quo s).length + 1 + 1 := by omega
  clear hq
  generalize quo s = q at *
  go_enter Tryd.func26, Tryd.ntmps26
  go_wp2_with fail
  refine Calls.mono HR.out ?_
  rintro e w1 ⟨rfl, hb1⟩
  have HB1 : Hid (Below W.heap.size W w1) := hb1
  clear hb1 HR
  go_wp2_with fail
  go_ret
  exact ⟨rfl, HB1.out⟩
theorem printed_var (p n : Nat) (s : List UInt8) (g : Bool) (W : World) (hs : s.length ≤ 8192) :
    Calls Tryd.prog 26 #[.agg #[.int .i64 (20 : Nat), .int .i64 (p : Nat), .int .i64 (n : Nat), str s, .bool g]] W fun e w' => e = .returned (str (36 :: s)) ∧ Below W.heap.size W w' := by
  have e1 := str_add1 36 s
  have hb : ¬ 9223372036854775807 < 1 + s.length := by omega
  go_enter Tryd.func26, Tryd.ntmps26
  go_wp2_with fail
  go_ret
  exact ⟨rfl, below_new _ _⟩
theorem printed_count (p n : Nat) (s : List UInt8) (g : Bool) (W : World) (hs : s.length ≤ 8192) :
    Calls Tryd.prog 26 #[.agg #[.int .i64 (21 : Nat), .int .i64 (p : Nat), .int .i64 (n : Nat), str s, .bool g]] W fun e w' => e = .returned (str (36 :: 35 :: s)) ∧ Below W.heap.size W w' := by
  have e1 := str_add2 36 35 s
  have hb : ¬ 9223372036854775807 < 2 + s.length := by omega
  go_enter Tryd.func26, Tryd.ntmps26
  go_wp2_with fail
  go_ret
  exact ⟨rfl, below_new _ _⟩
theorem printed_flat (p n : Nat) (s : List UInt8) (g : Bool) (W : World) (hs : s.length ≤ 8192) :
    Calls Tryd.prog 26 #[.agg #[.int .i64 (22 : Nat), .int .i64 (p : Nat), .int .i64 (n : Nat), str s, .bool g]] W fun e w' => e = .returned (str (36 :: 34 :: s)) ∧ Below W.heap.size W w' := by
  have e1 := str_add2 36 34 s
  have hb : ¬ 9223372036854775807 < 2 + s.length := by omega
  go_enter Tryd.func26, Tryd.ntmps26
  go_wp2_with fail
  go_ret
  exact ⟨rfl, below_new _ _⟩
theorem printed_num (p n : Nat) (s : List UInt8) (g : Bool) (W : World) (hn : n < 10) :
    Calls Tryd.prog 26 #[.agg #[.int .i64 (23 : Nat), .int .i64 (p : Nat), .int .i64 (n : Nat), str s, .bool g]] W fun e w' => e = .returned (str [36, UInt8.ofNat (48 + n)]) ∧ Below W.heap.size W w' := by
  have HN : Hid (∀ W, Calls Tryd.prog 39 #[.int .i64 (n : Nat)] W fun e w' => e = .returned (digT n) ∧ w' = W) := fun W => number_any n hn W
  unfold digT at HN
  have e1 := str_add1 36 [UInt8.ofNat (48 + n)]
  generalize UInt8.ofNat (48 + n) = d at *
  go_enter Tryd.func26, Tryd.ntmps26
  go_wp2_with fail
  refine Calls.mono (HN.out _) ?_
  rintro e w1 ⟨rfl, rfl⟩
  go_wp2_with fail
  go_ret
  exact ⟨rfl, below_new _ _⟩
theorem printed_any (t : Tb) {M : Nat} (hT : Tok M t) (hM : M ≤ 8192) (W : World) (ea : Nat → Addr) (hE : Env W ea) :
    Calls Tryd.prog 26 #[.agg (tbC t).toArray] W fun e w' => e = .returned (str (prB t)) ∧ Below W.heap.size W w' := by
  obtain ⟨k, p, n, s, g⟩ := t
  have hk : k < 24 := hT.kind
  by_cases h18 : k < 18
  · have e : prB ⟨k, p, n, s, g⟩ = sgn k := by
      unfold prB
      simp only
      rw [if_neg (by omega), if_neg (by omega), if_neg (by omega), if_neg (by omega), if_neg (by omega), if_neg (by omega)]
    rw [e]
    exact printed_sign k p n s g h18 W ea hE
  · obtain rfl | rfl | rfl | rfl | rfl | rfl : k = 18 ∨ k = 19 ∨ k = 20 ∨ k = 21 ∨ k = 22 ∨ k = 23 := by omega
    · exact printed_word p n s g W
    · exact printed_dead p n s g W ea hE (Nat.le_trans hT.len hM)
    · exact printed_var p n s g W (Nat.le_trans hT.len hM)
    · exact printed_count p n s g W (Nat.le_trans hT.len hM)
    · exact printed_flat p n s g W (Nat.le_trans hT.len hM)
    · exact printed_num p n s g W (by have := (hT.num rfl).2; simp only at this; omega)
end Go.Proofs.YtddekcohfbnmbaaDoor

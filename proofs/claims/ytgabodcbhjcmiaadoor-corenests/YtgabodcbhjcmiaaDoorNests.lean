/- The statement on nested programs, walked. -/
import Derived.Test.YtgabodcbhjcmiaaDoorDepth
import Derived.Laws.BitsLemmas
namespace Go.Proofs.YtgabodcbhjcmiaaDoor
open Go.RowKit
attribute [local go_sem] Oper.semAt_some

theorem i64_and63 (n : Int) : bits .and .i64 n 63 = n % 64 := by
  have h7 : (BitVec.ofInt 64 63).toNat = 2 ^ 6 - 1 := by decide
  have key : (BitVec.ofInt 64 n &&& BitVec.ofInt 64 63).toNat = (n % ((2 ^ 64 : Nat) : Int)).toNat % 2 ^ 6 := by
    rw [BitVec.toNat_and, BitVec.toNat_ofInt, h7, Nat.and_two_pow_sub_one_eq_mod]
  show IntKind.i64.wrap ((BitVec.ofInt 64 n &&& BitVec.ofInt 64 63).toNat : Nat) = n % 64
  rw [key, IntKind.wrap_i64]
  omega
theorem and63 (n : Int) : ∃ j : Nat, j ≤ 63 ∧ bits .and .i64 n 63 = (j : Int) := by
  refine ⟨(n % 64).toNat, by omega, ?_⟩
  rw [i64_and63]
  omega
theorem chain_len (c : Nat) : ∀ n, (chain c n).length ≤ 2 * n + 1
  | 0 => by simp [chain]
  | n + 1 => by
    have ih := chain_len c n
    match c with
    | 0 => simp only [chain, newN, List.flatten_cons, List.flatten_nil, List.append_nil, List.length_cons]; omega
    | 1 => simp only [chain, newN, List.flatten_cons, List.flatten_nil, List.append_nil, List.length_cons, List.length_append, List.length_nil]; omega
    | c + 2 => simp only [chain, newN, List.flatten_cons, List.flatten_nil, List.append_nil, List.length_cons]; omega
theorem chain_nodes (c : Nat) : ∀ n, ∀ x ∈ chain c n, x.s.length ≤ 1 ∧ x.k ≤ 2 ∧ 0 ≤ x.size
  | 0, x, h => by simp only [chain, List.mem_singleton] at h; subst h; exact ⟨by decide, by decide, by decide⟩
  | n + 1, x, h => by
    have ih := chain_nodes c n
    match c with
    | 0 =>
      simp only [chain, newN, List.flatten_cons, List.flatten_nil, List.append_nil, List.mem_cons] at h
      rcases h with rfl | h
      · exact ⟨by simp, by simp, by simp; omega⟩
      · exact ih x h
    | 1 =>
      simp only [chain, newN, List.flatten_cons, List.flatten_nil, List.append_nil, List.cons_append, List.nil_append, List.mem_cons] at h
      rcases h with rfl | rfl | h
      · exact ⟨by simp, by simp, by simp; omega⟩
      · exact ⟨by decide, by decide, by decide⟩
      · exact ih x h
    | c + 2 =>
      simp only [chain, newN, List.flatten_cons, List.flatten_nil, List.append_nil, List.mem_cons] at h
      rcases h with rfl | h
      · exact ⟨by simp, by simp, by simp; omega⟩
      · exact ih x h
theorem chain_ok2 (c n : Nat) (x : Nd) (h : x ∈ chain c n) : NdOk x := by
  have := chain_nodes c n x h
  exact ok_small x (by omega) (by omega)
/-- One child. -/
theorem new_over (kind : Int) (s : Txt) (v : Value) (X : List Nd) (W : World) (B : Nat) (h : NdOwn W B v X) (hl : X.length < 1000) :
    Calls Tryd.prog 11 #[.int .i64 kind, .int .i64 0, str s, .slice (some ⟨W.heap.size, 0, none⟩) 1 1] (W.alloc (.cells #[v] 25)) fun e w' => ∃ v', e = .returned v' ∧ NdOwn w' W.heap.size v' (newN kind 0 s [X]) ∧ Below W.heap.size W w' := by
  have hK : KdAt (W.alloc (.cells #[v] 25)) (.slice (some ⟨W.heap.size, 0, none⟩) 1 1) [(v, X)] := by
    refine KdAt.of_cells (t := 25) rfl (Cel.new _ _ _) ?_ (by decide)
    intro p hp
    simp only [List.mem_cons, List.not_mem_nil, or_false] at hp
    subst hp
    exact (h.below (below_new _ _)).at
  refine (new_own kind 0 s _ _ _ hK (by show 1 < 4294967296; decide) (by simp [kidL]; omega)).mono ?_
  rintro e w' ⟨v', rfl, ho, hb⟩
  refine ⟨v', rfl, owns_lower ho (below_new _ _).size, (below_new _ _).trans (hb.mono (below_new _ _).size)⟩
/-- Two children. -/
theorem new_over2 (kind : Int) (s : Txt) (v u : Value) (X Y : List Nd) (W : World) (B B' : Nat) (h : NdOwn W B v X) (h' : NdOwn W B' u Y) (hl : X.length < 1000) (hl' : Y.length < 1000) :
    Calls Tryd.prog 11 #[.int .i64 kind, .int .i64 0, str s, .slice (some ⟨W.heap.size, 0, none⟩) 2 2] (W.alloc (.cells #[v, u] 25)) fun e w' => ∃ v', e = .returned v' ∧ NdOwn w' W.heap.size v' (newN kind 0 s [X, Y]) ∧ Below W.heap.size W w' := by
  have hK : KdAt (W.alloc (.cells #[v, u] 25)) (.slice (some ⟨W.heap.size, 0, none⟩) 2 2) [(v, X), (u, Y)] := by
    refine KdAt.of_cells (t := 25) rfl (Cel.new _ _ _) ?_ (by decide)
    intro p hp
    simp only [List.mem_cons, List.not_mem_nil, or_false] at hp
    rcases hp with rfl | rfl
    · exact (h.below (below_new _ _)).at
    · exact (h'.below (below_new _ _)).at
  refine (new_own kind 0 s _ _ _ hK (by show 2 < 4294967296; decide) (by simp [kidL]; omega)).mono ?_
  rintro e w' ⟨v', rfl, ho, hb⟩
  refine ⟨v', rfl, owns_lower ho (below_new _ _).size, (below_new _ _).trans (hb.mono (below_new _ _).size)⟩

set_option maxRecDepth 100000 in
set_option maxHeartbeats 4000000 in
theorem nests_any (n kind : Int) (W : World) (ea : Nat → Addr) (hE : Ers W ea) : Calls Tryd.prog 4 #[.int .i64 n, .int .i64 kind] W fun e w' => e = .returned (.bool true) ∧ Below W.heap.size W w' := by
  have HE : Hid (∀ W', Below W.heap.size W W' → Ers W' ea) := fun W' hb => hE.below hb
  clear hE
  obtain ⟨N, hN, hNn⟩ := and63 n
  obtain ⟨r, hr⟩ : ∃ r, kind.tmod 3 = r := ⟨_, rfl⟩
  have hr1 : -3 < r := by rw [← hr]; exact Int.lt_tmod_of_pos _ (by decide)
  have hr2 : r < 3 := by rw [← hr]; exact Int.tmod_lt_of_pos _ (by decide)
  obtain ⟨q, hq, hq2⟩ : ∃ q : Nat, (r + 3).tmod 3 = (q : Int) ∧ q < 3 := by
    have h1 := Int.tmod_nonneg (a := r + 3) 3 (by omega)
    have h2 := Int.tmod_lt_of_pos (r + 3) (b := 3) (by decide)
    exact ⟨((r + 3).tmod 3).toNat, by omega, by omega⟩
  go_enter Tryd.func4, Tryd.ntmps4
  go_wp2_with fail
  refine (first_any W ea (HE.out _ (Below.refl _ _))).mono ?_
  rintro e w1 ⟨rfl, hb1⟩
  go_wp2_with fail
  refine (new_leaf 20 0 [] _).mono ?_
  rintro e w2 ⟨v2, rfl, ho2, hb2⟩
  clear hNn
  go_wp2_with fail
  have HO2 : Hid (NdOwn w2 w1.heap.size v2 (chain q 0)) := ho2
  clear ho2
  go_loopw [6, 7] (fun v6 v7 wr => ∃ i : Nat, v7 = .int .i64 i ∧ i ≤ N ∧ Hid (NdOwn wr w1.heap.size v6 (chain q i)) ∧ Below w1.heap.size w1 wr) (fun _ v7 _ => N - (intOf v7).toNat)
  case atStart => exact ⟨0, rfl, by omega, HO2.out, hb2⟩
  case round =>
    obtain ⟨i, rfl, hi, HO, hbr⟩ := hrel
    have hcl := chain_len q i
    obtain ⟨adk, capk, rfl⟩ := owns_slice HO.out
    by_cases hlt : i < N
    · have hlt' : (i : Int) < (N : Int) := by omega
      have hcl2 : (chain q i).length < 1000 := by omega
      obtain ⟨L, hL⟩ : ∃ L, (chain q i).length = L := ⟨_, rfl⟩
      rw [hL] at HO hcl2 ⊢
      have HL : Hid ((chain q i).length = L) := hL
      clear hL hcl
      match q, hq2 with
      | 0, _ =>
        go_wp2_with fail
        refine Calls.mono (new_over 27 [] _ (chain 0 i) wr w1.heap.size HO.out (by rw [HL.out]; exact hcl2)) ?_
        rintro e w3 ⟨v3, rfl, ho3, hb3⟩
        have HO3 : Hid (NdOwn w3 w1.heap.size v3 (chain 0 (i + 1))) := owns_lower ho3 hbr.size
        clear ho3
        go_wp2_with fail
        exact ⟨⟨i + 1, by simp, by omega, HO3.out, hbr.trans (hb3.mono hbr.size)⟩, by simp [intOf]; omega⟩
      | 1, _ =>
        go_wp2_with fail
        refine (new_leaf 20 0 [] _).mono ?_
        rintro e w3 ⟨v3, rfl, ho3, hb3⟩
        obtain ⟨ad3, cap3, rfl⟩ := owns_slice ho3
        have HN3 : Hid (NdOwn w3 wr.heap.size (.slice ad3 1 cap3) [nopN]) := ho3
        have HO3 : Hid (NdOwn w3 w1.heap.size (.slice adk L capk) (chain 1 i)) := HO.out.below hb3
        have hbr3 := hbr.trans (hb3.mono hbr.size)
        clear ho3
        go_wp2_with fail
        refine Calls.mono (new_over2 25 [] _ _ [nopN] (chain 1 i) w3 _ _ HN3.out HO3.out (by decide) (by rw [HL.out]; exact hcl2)) ?_
        rintro e w4 ⟨v4, rfl, ho4, hb4⟩
        have HO4 : Hid (NdOwn w4 w1.heap.size v4 (chain 1 (i + 1))) := owns_lower ho4 hbr3.size
        clear ho4
        go_wp2_with fail
        exact ⟨⟨i + 1, by simp, by omega, HO4.out, hbr3.trans (hb4.mono hbr3.size)⟩, by simp [intOf]; omega⟩
      | 2, _ =>
        go_wp2_with fail
        refine Calls.mono (new_over 31 [102] _ (chain 2 i) wr w1.heap.size HO.out (by rw [HL.out]; exact hcl2)) ?_
        rintro e w3 ⟨v3, rfl, ho3, hb3⟩
        have HO3 : Hid (NdOwn w3 w1.heap.size v3 (chain 2 (i + 1))) := owns_lower ho3 hbr.size
        clear ho3
        go_wp2_with fail
        exact ⟨⟨i + 1, by simp, by omega, HO3.out, hbr.trans (hb3.mono hbr.size)⟩, by simp [intOf]; omega⟩
    · have hie : i = N := by omega
      subst hie
      have hbw := hb1.trans (hbr.mono hb1.size)
      have HC : Hid (Calls Tryd.prog 17 #[.slice adk (chain q i).length capk] wr fun e w' => ∃ u, e = .returned u ∧ ErrIs w' ea u (checkL (chain q i)) ∧ Below wr.heap.size wr w') := check_any _ (chain q i) _ ea (HE.out _ hbw) (NdOwn.at HO.out) (by omega) (chain_ok2 q i)
      have HDP : Hid (∀ W', Below wr.heap.size wr W' → Calls Tryd.prog 18 #[.slice adk (chain q i).length capk] W' fun e w' => e = .returned (.int .i64 (depthL (chain q i))) ∧ Below W'.heap.size W' w') := fun W' hb => depth_any _ (chain q i) W' (NdOwn.at (HO.out.below hb)) (by omega) (fun x hx => by have := chain_nodes q i x hx; omega)
      obtain ⟨L, hL⟩ : ∃ L, (chain q i).length = L := ⟨_, rfl⟩
      rw [hL] at HC HDP ⊢
      clear hL hcl HO
      go_wp2_with fail
      refine Calls.mono HC.out ?_
      rintro e w3 ⟨u3, rfl, hu3, hb3⟩
      have hbw3 := hbw.trans (hb3.mono hbw.size)
      clear HC
      by_cases h30 : i + 1 ≤ 30
      · have h30' : (i : Int) + 1 ≤ 30 := by omega
        rw [chain_fine q i hq2 h30] at hu3
        obtain rfl := hu3
        have HD := HDP.out w3 hb3
        rw [chain_deep q i hq2 h30] at HD
        have HD3 : Hid (Calls Tryd.prog 18 #[.slice adk L capk] w3 fun e w' => e = .returned (.int .i64 ((i : Int) + 1)) ∧ Below w3.heap.size w3 w') := HD
        clear HD HDP
        go_wp2_with fail
        refine Calls.mono HD3.out ?_
        rintro e w4 ⟨rfl, hb4⟩
        go_wp2_with fail
        go_ret
        exact ⟨rfl, hbw3.trans (hb4.mono hbw3.size)⟩
      · have h30' : ¬ (i : Int) + 1 ≤ 30 := by omega
        rw [chain_nest q i hq2 h30 (by omega)] at hu3
        obtain ⟨b, rfl, hcb⟩ := hu3
        have HB : Hid (Cel w3 b 62 #[.int .i64 ((if q = 1 then 59 else 30 : Nat) : Int), errV (ea 2)]) := hcb
        clear hcb HDP
        by_cases hq1 : q = 1
        · subst hq1
          go_wp2_with fail
          refine (placed_any 102 59 (by decide) _).mono ?_
          rintro e w4 ⟨fb, rfl, hfb, _, hb4⟩
          have hbw4 := hbw3.trans (hb4.mono hbw3.size)
          have HS : Hid (Calls Tryd.prog 19 #[.iface 60 (.pointer (some ⟨b, 0, none⟩)), .agg #[.int .i64 102, .slice (some ⟨fb, 0, none⟩) 1 1]] w4 fun e w' => e = .returned (.bool true) ∧ Below w4.heap.size w4 w') :=
            same_any w4 ea (HE.out _ hbw4) 1 (by decide) (ea 2) rfl b 59 (Cel.below HB.out hb4 HB.out.lt) fb hfb 102 (by decide)
          clear hfb
          go_wp2_with fail
          refine Calls.mono HS.out ?_
          rintro e w5 ⟨rfl, hb5⟩
          go_wp2_with fail
          go_ret
          exact ⟨rfl, hbw4.trans (hb5.mono hbw4.size)⟩
        · have hq1' : ¬ (q : Int) = 1 := by omega
          rw [if_neg hq1] at HB
          go_wp2_with fail
          refine (placed_any 102 30 (by decide) _).mono ?_
          rintro e w4 ⟨fb, rfl, hfb, _, hb4⟩
          have hbw4 := hbw3.trans (hb4.mono hbw3.size)
          have HS : Hid (Calls Tryd.prog 19 #[.iface 60 (.pointer (some ⟨b, 0, none⟩)), .agg #[.int .i64 102, .slice (some ⟨fb, 0, none⟩) 1 1]] w4 fun e w' => e = .returned (.bool true) ∧ Below w4.heap.size w4 w') :=
            same_any w4 ea (HE.out _ hbw4) 1 (by decide) (ea 2) rfl b 30 (Cel.below HB.out hb4 HB.out.lt) fb hfb 102 (by decide)
          clear hfb
          go_wp2_with fail
          refine Calls.mono HS.out ?_
          rintro e w5 ⟨rfl, hb5⟩
          go_wp2_with fail
          go_ret
          exact ⟨rfl, hbw4.trans (hb5.mono hbw4.size)⟩
end Go.Proofs.YtgabodcbhjcmiaaDoor

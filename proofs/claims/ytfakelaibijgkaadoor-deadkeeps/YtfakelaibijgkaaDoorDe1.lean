/- The kind of a tree's first node; whether a word runs a command. -/
import Derived.Test.YtfakelaibijgkaaDoorPassP
import Derived.Test.YtfakelaibijgkaaDoorKidsOf
namespace Go.Proofs.YtfakelaibijgkaaDoor
open Go.RowKit
attribute [local go_sem] Oper.semAt_some

theorem is_any (v : Value) (X : List Nd) (W : World) (k : Int) (h : NdAt W v X) (h0 : 0 < X.length) :
    Calls Tryd.prog 63 #[v, .int .i64 k] W fun e w' => e = .returned (.bool (kindOf X == k)) ∧ w' = W := by
  obtain ⟨x, hx⟩ : ∃ x, X[0]? = some x := ⟨_, List.getElem?_eq_getElem h0⟩
  have hk : kindOf X = x.kind := by
    cases X with
    | nil => cases hx
    | cons a r => rw [List.getElem?_cons_zero] at hx; obtain rfl := Option.some.inj hx; rfl
  obtain ⟨g, o, cap, rfl, hg, c0, _⟩ := h.at hx
  simp only [Nat.zero_mul, Nat.add_zero] at c0
  rw [hk]
  have h1 : (0 : Int) < (X.length : Int) := by omega
  clear h hx hk
  go_enter Tryd.func63, Tryd.ntmps63
  go_wp2_with fail
  go_ret
  exact ⟨rfl, rfl⟩
theorem index_any (b : Nat) (c k : Int) (W : World) (h : W.cell? ⟨b, 0, none⟩ = some (.int .i64 c)) :
    Calls Tryd.prog 48 #[.slice (some ⟨b, 0, none⟩) 1 1, .int .i64 k] W fun e w' => e = .returned (.int .i64 (if k = c then 0 else -1)) ∧ w' = W := by
  go_enter Tryd.func48, Tryd.ntmps48
  go_wp2_with fail
  go_loopw [8] (fun v8 wr => ∃ i : Nat, v8 = .int .i64 i ∧ i ≤ 1 ∧ (i = 1 → k ≠ c) ∧ W = wr) (fun v8 _ => 1 - (intOf v8).toNat)
  case atStart => exact ⟨0, rfl, by omega, by omega, rfl⟩
  case round =>
    obtain ⟨i, rfl, hi, hn, rfl⟩ := hrel
    by_cases h0 : i = 0
    · subst h0
      by_cases hk : k = c
      · subst hk
        go_wp2_with fail
        go_ret
        exact ⟨by simp, rfl⟩
      · have hk' : (k == c) = false := beq_eq_false_iff_ne.2 hk
        go_wp2_with fail
        exact ⟨⟨1, rfl, by omega, fun _ => hk, trivial⟩, by simp [intOf]⟩
    · obtain rfl : i = 1 := by omega
      have hk := hn rfl
      go_wp2_with fail
      go_ret
      exact ⟨rfl, rfl⟩
theorem contains_any (b : Nat) (c k : Int) (W : World) (h : W.cell? ⟨b, 0, none⟩ = some (.int .i64 c)) :
    Calls Tryd.prog 31 #[.slice (some ⟨b, 0, none⟩) 1 1, .int .i64 k] W fun e w' => e = .returned (.bool (k == c)) ∧ w' = W := by
  have HI : Hid _ := index_any b c k W h
  clear h
  by_cases hk : k = c
  · subst hk
    rw [if_pos rfl] at HI
    go_enter Tryd.func31, Tryd.ntmps31
    go_wp2_with fail
    refine Calls.mono HI.out ?_
    rintro e w1 ⟨rfl, rfl⟩
    go_wp2_with fail
    go_ret
    exact ⟨by simp, rfl⟩
  · rw [if_neg hk] at HI
    have hk' : (k == c) = false := beq_eq_false_iff_ne.2 hk
    rw [hk']
    go_enter Tryd.func31, Tryd.ntmps31
    go_wp2_with fail
    refine Calls.mono HI.out ?_
    rintro e w1 ⟨rfl, rfl⟩
    go_wp2_with fail
    go_ret
    exact ⟨rfl, rfl⟩
theorem hasOne_any (b q : Nat) (c : Int) (x : Nd) (W : World) (h : W.cell? ⟨b, 0, none⟩ = some (.int .i64 c)) (hb : b < W.heap.size) (hq : W.cell? ⟨q, 0, none⟩ = some (.slice (some ⟨b, 0, none⟩) 1 1)) (hq' : q < W.heap.size) :
    Calls Tryd.prog 30 #[ndV x, .pointer (some ⟨q, 0, none⟩)] W fun e w' => e = .returned (.bool (x.kind == c)) ∧ Below W.heap.size W w' := by
  obtain ⟨xk, xn, xc, xz, xs⟩ := x
  obtain ⟨W1, hW1⟩ : ∃ W1, W1 = W.alloc (.cells #[.int .i64 xk, .int .i64 xn, .int .i64 xc, .int .i64 xz, str xs] 26) := ⟨_, rfl⟩
  have hb1 := below_new W (.cells #[.int .i64 xk, .int .i64 xn, .int .i64 xc, .int .i64 xz, str xs] 26)
  have HC : Hid _ := contains_any b c xk (W.alloc (.cells #[.int .i64 xk, .int .i64 xn, .int .i64 xc, .int .i64 xz, str xs] 26)) ((hb1.cell hb).trans h)
  have q0 : ∀ o, (W.alloc o).cell? ⟨q, 0, none⟩ = some (.slice (some ⟨b, 0, none⟩) 1 1) := fun o => ((below_new W o).cell hq').trans hq
  have hqn : ¬ W.heap.size = q := by omega
  have hqn' : ¬ q = W.heap.size := by omega
  unfold ndV
  simp only
  clear hW1
  go_enter Tryd.func30, Tryd.ntmps30
  go_wp2_with fail
  refine Calls.mono HC.out ?_
  rintro e w1 ⟨rfl, rfl⟩
  go_wp2_with fail
  go_ret
  exact ⟨rfl, hb1⟩
set_option maxRecDepth 100000 in
set_option maxHeartbeats 1000000 in
theorem indexFunc_any (b q : Nat) (c : Int) (v : Value) (X : List Nd) (W : World) (hN : NdAt W v X) (h : W.cell? ⟨b, 0, none⟩ = some (.int .i64 c)) (hb : b < W.heap.size) (hq : W.cell? ⟨q, 0, none⟩ = some (.slice (some ⟨b, 0, none⟩) 1 1)) (hq' : q < W.heap.size) (hl : X.length < 4294967296) :
    Calls Tryd.prog 47 #[v, .func (.func 30) #[] #[.pointer (some ⟨q, 0, none⟩)]] W fun e w' => (∃ r : Int, e = .returned (.int .i64 r) ∧ (0 ≤ r ↔ (X.any fun x => x.kind == c) = true)) ∧ Below W.heap.size W w' := by
  have HH : Hid (∀ w, Below W.heap.size W w → ∀ x, Calls Tryd.prog 30 #[ndV x, .pointer (some ⟨q, 0, none⟩)] w fun e w' => e = .returned (.bool (x.kind == c)) ∧ Below w.heap.size w w') := fun w hw x => hasOne_any b q c x w ((hw.cell (p := ⟨b, 0, none⟩) hb).trans h) (Nat.lt_of_lt_of_le hb hw.size) ((hw.cell (p := ⟨q, 0, none⟩) hq').trans hq) (Nat.lt_of_lt_of_le hq' hw.size)
  have HN : Hid (∀ w, Below W.heap.size W w → NdAt w v X) := fun w hw => hN.below hw (Nat.le_refl _)
  obtain ⟨ad, cap, rfl⟩ := hN.form
  obtain ⟨R, HR⟩ : ∃ R, Hid (R = (X.any fun x => x.kind == c)) := ⟨_, rfl⟩
  rw [← HR.out]
  clear hN h hb hq hq'
  go_enter Tryd.func47, Tryd.ntmps47
  go_wp2_with fail
  go_loopw [8] (fun v8 wr => ∃ i : Nat, v8 = .int .i64 i ∧ i ≤ X.length ∧ Hid (((X.take i).any fun x => x.kind == c) = false) ∧ Hid (Below W.heap.size W wr)) (fun v8 _ => X.length - (intOf v8).toNat)
  case atStart => exact ⟨0, rfl, by omega, by simp [Hid], Below.refl _ _⟩
  case round =>
    obtain ⟨i, rfl, hi, HA, HB⟩ := hrel
    by_cases hlt : i < X.length
    · have hlt' : (i : Int) < (X.length : Int) := by omega
      obtain ⟨x, hx⟩ : ∃ x, X[i]? = some x := ⟨_, List.getElem?_eq_getElem hlt⟩
      obtain ⟨g, o, cp, hv, hg, c0, c1, c2, c3, c4⟩ := (HN.out wr HB.out).at hx
      injection hv with e1 _ e3
      subst e1
      subst e3
      have HX : Hid _ := HH.out wr HB.out x
      have HT : Hid (X.take (i + 1) = X.take i ++ [x]) := take_one hx
      have HXM : Hid (x ∈ X) := List.mem_of_getElem? hx
      obtain ⟨xk, xn, xc, xz, xs⟩ := x
      simp only [ndV] at HX c0 c1 c2 c3 c4
      clear hx
      go_wp2_with fail
      refine Calls.mono HX.out ?_
      rintro e w1 ⟨rfl, hb1⟩
      have HB1 : Hid (Below W.heap.size W w1) := HB.out.trans (hb1.mono HB.out.size)
      clear hb1 HX c0 c1 c2 c3 c4
      cases hk : (xk == c) with
      | true =>
        have HK : Hid ((xk == c) = true) := hk
        clear hk
        go_wp2_with fail
        go_ret
        refine ⟨⟨_, rfl, ?_⟩, HB1.out⟩
        exact ⟨fun _ => by rw [HR.out]; exact List.any_eq_true.2 ⟨_, HXM.out, HK.out⟩, fun _ => by omega⟩
      | false =>
        have HK : Hid ((xk == c) = false) := hk
        clear hk
        go_wp2_with fail
        refine ⟨⟨i + 1, by simp, by omega, ?_, HB1.out⟩, by simp [intOf]; omega⟩
        unfold Hid
        rw [HT.out, List.any_append, HA.out]
        simp [HK.out]
    · have hlt' : ¬ (i : Int) < (X.length : Int) := by omega
      go_wp2_with fail
      go_ret
      refine ⟨⟨_, rfl, ?_⟩, HB.out⟩
      have : ((X.take i).any fun x => x.kind == c) = false := HA.out
      rw [List.take_of_length_le (by omega), ← HR.out] at this
      constructor
      · intro h; omega
      · intro h; rw [this] at h; cases h
set_option maxRecDepth 100000 in
set_option maxHeartbeats 1000000 in
theorem has_any (b : Nat) (c : Int) (v : Value) (X : List Nd) (W : World) (hN : NdAt W v X) (h : W.cell? ⟨b, 0, none⟩ = some (.int .i64 c)) (hb : b < W.heap.size) (hl : X.length < 4294967296) :
    Calls Tryd.prog 19 #[v, .slice (some ⟨b, 0, none⟩) 1 1] W fun e w' => e = .returned (.bool (X.any fun x => x.kind == c)) ∧ Below W.heap.size W w' := by
  obtain ⟨r, hr⟩ : ∃ r, r = (X.any fun x => x.kind == c) := ⟨_, rfl⟩
  have hb1 := below_new W (.cells #[.slice (some ⟨b, 0, none⟩) 1 1] 32)
  have HI := indexFunc_any b W.heap.size c v X (W.alloc (.cells #[.slice (some ⟨b, 0, none⟩) 1 1] 32)) (hN.below hb1 (Nat.le_refl _)) ((hb1.cell (p := ⟨b, 0, none⟩) hb).trans h) (by simp; omega) ((Cel.new W _ _).cell 0) (by simp) hl
  rw [← hr] at HI ⊢
  have HC : Hid (Calls Tryd.prog 29 #[v, .func (.func 30) #[] #[.pointer (some ⟨W.heap.size, 0, none⟩)]] (W.alloc (.cells #[.slice (some ⟨b, 0, none⟩) 1 1] 32)) fun e w' => e = .returned (.bool r) ∧ Below W.heap.size W w') := by
    have HI' : Hid _ := HI
    clear HI h hr hN
    go_enter Tryd.func29, Tryd.ntmps29
    go_wp2_with fail
    refine Calls.mono HI'.out ?_
    rintro e w1 ⟨⟨z, rfl, hz⟩, hb2⟩
    have hb3 : Below W.heap.size W w1 := hb1.trans (hb2.mono hb1.size)
    have hd : decide (0 ≤ z) = r := by
      cases r with
      | true => exact decide_eq_true (hz.2 rfl)
      | false => exact decide_eq_false (fun e => by have := hz.1 e; cases this)
    go_wp2_with fail
    go_ret
    exact ⟨by simp, hb3⟩
  clear HI hr hN h hb1
  go_enter Tryd.func19, Tryd.ntmps19
  go_wp2_with fail
  refine Calls.mono HC.out ?_
  rintro e w1 ⟨rfl, hb2⟩
  go_wp2_with fail
  go_ret
  exact ⟨rfl, hb2⟩
theorem silent_any (v : Value) (X : List Nd) (W : World) (hN : NdAt W v X) (hl : X.length < 4294967296) :
    Calls Tryd.prog 18 #[v] W fun e w' => e = .returned (.bool (!hasSub X)) ∧ Below W.heap.size W w' := by
  have hb1 := below_new W (.cells #[.int .i64 12] 3)
  have HC : Hid _ := has_any W.heap.size 12 v X (W.alloc (.cells #[.int .i64 12] 3)) (hN.below hb1 (Nat.le_refl _)) ((Cel.new W _ _).cell 0) (by simp) hl
  unfold hasSub
  obtain ⟨r, hr⟩ : ∃ r, r = (X.any fun x => x.kind == 12) := ⟨_, rfl⟩
  rw [← hr] at HC ⊢
  clear hr hN
  go_enter Tryd.func18, Tryd.ntmps18
  go_wp2_with fail
  refine Calls.mono HC.out ?_
  rintro e w1 ⟨rfl, hb2⟩
  go_wp2_with fail
  go_ret
  exact ⟨rfl, hb1.trans (hb2.mono hb1.size)⟩
end Go.Proofs.YtfakelaibijgkaaDoor

/- gather over texts, files, Glob, Pick. -/
import Derived.Test.YtfafhjglcaikoaaGreatDoorG23
import Derived.Test.YtfafhjglcaikoaaGreatDoorG20
/-! oneAtLeast, joined, at, joinTwo. -/
namespace Go.Proofs.YtfafhjglcaikoaaGreatDoor
open Go.RowKit Go.Shelf

set_option maxHeartbeats 1000000 in
theorem one_any (v : Value) (ns : List (List UInt8)) (w : World) (h : Tx w v ns) :
    Calls Tryz.prog 241 #[v] w fun e w' => ∃ v', e = .returned v' ∧ Tx w' v' (oneB ns) ∧ Below w.heap.size w w' := by
  have HT : Hid (Tx w v ns) := h
  obtain ⟨ad, cap, rfl⟩ := h.form
  clear h
  by_cases h0 : ns.length = 0
  · have e0 : ns = [] := List.eq_nil_of_length_eq_zero h0
    subst e0
    clear h0
    go_enter Tryz.func241, Tryz.ntmps241
    go_wp2_with fail
    go_ret
    exact ⟨_, rfl, Tx.one w [], (Below.refl _ w).alloc (Nat.le_refl _) _⟩
  · have e1 : oneB ns = ns := by unfold oneB; rw [if_neg h0]
    rw [e1]
    have h1 : ¬ (ns.length : Int) = 0 := by omega
    have h2 : ((ns.length : Int) == 0) = false := beq_eq_false_iff_ne.2 h1
    go_enter Tryz.func241, Tryz.ntmps241
    go_wp2_with fail
    go_ret
    exact ⟨_, rfl, HT.out, Below.refl _ _⟩

theorem ret_int {a b : Int} (h : a = b) : Ending.returned (.int .i64 a) = .returned (.int .i64 b) := by rw [h]
set_option maxHeartbeats 1000000 in
theorem joined_any (a b : Nat) (w : World) (ha : a < 4294967296) (hb : b < 4294967296) :
    Calls Tryz.prog 277 #[.int .i64 a, .int .i64 b] w fun e w' => e = .returned (.int .i64 (joinedN a b : Nat)) ∧ w' = w := by
  by_cases h1 : a = 1
  · subst h1
    go_enter Tryz.func277, Tryz.ntmps277
    go_wp2_with fail
    go_ret
    exact ⟨ret_int (by unfold joinedN; rw [if_pos (Or.inl rfl)]; omega), rfl⟩
  · by_cases h2 : b = 1
    · subst h2
      have e1 : ((a : Int) == 1) = false := by simp; omega
      go_enter Tryz.func277, Tryz.ntmps277
      go_wp2_with fail
      go_ret
      exact ⟨ret_int (by unfold joinedN; rw [if_pos (Or.inr rfl)]; omega), rfl⟩
    · have e1 : ((a : Int) == 1) = false := by simp; omega
      have e2 : ((b : Int) == 1) = false := by simp; omega
      go_enter Tryz.func277, Tryz.ntmps277
      go_wp2_with fail
      go_ret
      exact ⟨ret_int (by unfold joinedN; rw [if_neg (by omega)]; omega), rfl⟩

set_option maxHeartbeats 1000000 in
theorem at_any (v : Value) (ns : List (List UInt8)) (i : Nat) (w : World) (h : Tx w v ns) (hl : ns.length < 4294967296) (hi : ns.length = 1 ∨ i < ns.length) :
    Calls Tryz.prog 278 #[v, .int .i64 i] w fun e w' => e = .returned (.string ⟨(atB ns i).toArray⟩) ∧ w' = w := by
  have hne : ns ≠ [] := fun e => by rw [e] at hi; simp at hi
  obtain ⟨g, o, cap, rfl, h1, h2, h3⟩ := h.inRow hne
  clear hne h
  · by_cases h0 : ns.length = 1
    · obtain ⟨n, rfl⟩ := List.length_eq_one_iff.1 h0
      have c0 := h3 0 n rfl
      have e1 : atB [n] i = n := rfl
      rw [e1]
      clear h0 h3 h2 hi
      simp only [Nat.add_zero] at c0
      go_enter Tryz.func278, Tryz.ntmps278
      go_wp2_with fail
      go_ret
      exact ⟨rfl, rfl⟩
    · have hil : i < ns.length := by omega
      have c0 := h3 i ns[i] (List.getElem?_eq_getElem hil)
      have e1 : atB ns i = ns[i] := by
        unfold atB
        rw [if_neg h0, List.getD_eq_getElem?_getD, List.getElem?_eq_getElem hil]
        rfl
      rw [e1]
      generalize ns[i] = x at c0
      have e2 : ((ns.length : Int) == 1) = false := by simp; omega
      clear h3 h2 hi e1
      go_enter Tryz.func278, Tryz.ntmps278
      go_wp2_with fail
      go_ret
      exact ⟨rfl, rfl⟩

theorem bytes_appL (x y : List UInt8) : (⟨x.toArray⟩ : ByteArray) ++ ⟨y.toArray⟩ = ⟨(x ++ y).toArray⟩ := by
  apply ByteArray.ext
  rw [ByteArray.data_append]
  simp
theorem atB_mem (l : List (List UInt8)) (i : Nat) (h : l.length = 1 ∨ i < l.length) : atB l i ∈ l := by
  unfold atB
  split
  · next h1 =>
    obtain ⟨n, rfl⟩ := List.length_eq_one_iff.1 h1
    simp
  · next h1 =>
    have hi : i < l.length := by omega
    rw [List.getD_eq_getElem?_getD, List.getElem?_eq_getElem hi]
    simp

set_option maxRecDepth 100000 in
set_option maxHeartbeats 4000000 in
theorem joinTwo_any (va vb : Value) (A C : List (List UInt8)) (w : World) (a : Addr) (ha : Tx w va A) (hc : Tx w vb C) (hA : 1 ≤ A.length) (hC : 1 ≤ C.length) (hAl : A.length < 4294967296) (hCl : C.length < 4294967296)
    (hAz : ∀ s ∈ A, s.length < 4294967296) (hCz : ∀ s ∈ C, s.length < 4294967296) (hE : Eb w a) :
    Calls Tryz.prog 242 #[va, vb] w fun e w' => GotL w.heap.size a (bound (jtB A C)) e w' ∧ Below w.heap.size w w' := by
  have HE : Hid (Eb w a) := hE
  have HA : Hid (Tx w va A) := ha
  have HC : Hid (Tx w vb C) := hc
  have HAZ : Hid (∀ s ∈ A, s.length < 4294967296) := hAz
  have HCZ : Hid (∀ s ∈ C, s.length < 4294967296) := hCz
  obtain ⟨ada, capa, rfl⟩ := ha.form
  obtain ⟨adc, capc, rfl⟩ := hc.form
  clear ha hc hE hAz hCz
  have hjl := joined_le A.length C.length
  have hJ : ∃ N, N = joinedN A.length C.length := ⟨_, rfl⟩
  obtain ⟨N, hN⟩ := hJ
  have HN : Hid (N = joinedN A.length C.length) := hN
  have hN32 : N < 4294967296 := by omega
  clear hN hjl
  go_enter Tryz.func242, Tryz.ntmps242
  go_wp2_with fail
  refine (joined_any A.length C.length _ hAl hCl).mono ?_
  rintro e w1 ⟨rfl, hw1⟩
  obtain rfl := hw1.symm
  rw [← HN.out]
  go_wp2_with fail
  go_loopw [6, 14] (fun v6 v14 wr => ∃ k : Nat, v14 = .int .i64 k ∧ k ≤ N ∧ Hid (fitsB ((jtB A C).take k) = true) ∧ Hid (wr.ownsRow w.heap.size 9 1 v6 ((jtB A C).take k).length (txV ((jtB A C).take k))) ∧ Below w.heap.size w wr) (fun _ v14 _ => N - (intOf v14).toNat)
  case atStart => exact ⟨0, rfl, by omega, fits_nil, ⟨rfl, .inl ⟨rfl, rfl⟩⟩, Below.refl _ _⟩
  case round =>
    obtain ⟨k, rfl, hk, HF, HO, hbr⟩ := hrel
    by_cases hkl : k < N
    · have hkj : k < joinedN A.length C.length := by rw [← HN.out]; exact hkl
      have HS : Hid ((jtB A C).take (k + 1) = (jtB A C).take k ++ [atB A k ++ atB C k]) := jt_take A C k hkj
      have ja := joined_at _ _ k hkj hA
      have jc := joined_at' _ _ k hkj hC
      have HMA : Hid _ := at_any _ A k wr (HA.out.below hbr (Nat.le_refl _)) hAl ja
      have HMC : Hid _ := at_any _ C k wr (HC.out.below hbr (Nat.le_refl _)) hCl jc
      have hsa := HAZ.out _ (atB_mem A k ja)
      have hsc := HCZ.out _ (atB_mem C k jc)
      clear hkj ja jc
      generalize atB A k = x at HS HMA hsa
      generalize atB C k = y at HS HMC hsc
      have hzx : (⟨x.toArray⟩ : ByteArray).size < 4294967296 := by rw [str_size']; exact hsa
      have hzy : (⟨y.toArray⟩ : ByteArray).size < 4294967296 := by rw [str_size']; exact hsc
      go_wp2_with fail
      refine Calls.mono HMA.out ?_
      rintro e w2 ⟨rfl, hw2⟩
      obtain rfl := hw2.symm
      go_wp2_with fail
      refine Calls.mono HMC.out ?_
      rintro e w3 ⟨rfl, hw3⟩
      obtain rfl := hw3.symm
      go_wp2_with fail
      rw [bytes_appL]
      have hba : Below w.heap.size w (wr.alloc (.cells #[.string ⟨(x ++ y).toArray⟩] 9)) := hbr.alloc hbr.size _
      cases hq : fitsB ((jtB A C).take k ++ [x ++ y])
      · refine (add_no _ _ ((jtB A C).take k) [x ++ y] _ a (own_form HO.out) (Tx.one wr (x ++ y)) (by simp) HF.out hq (Eb.below HE.out hba (Eb.pos HE.out))).mono ?_
        rintro e w4 ⟨rfl, hb4⟩
        go_wp2_with fail
        go_ret2
        have hno : bound (jtB A C) = none := by
          unfold bound
          rw [fits_take _ (k + 1) (by rw [HS.out]; exact hq)]
          rfl
        rw [hno]
        exact ⟨rfl, hba.trans (hb4.mono hba.size)⟩
      · refine (add_yes w.heap.size _ _ ((jtB A C).take k) [x ++ y] _ hba.size (HO.out.alloc _) (Tx.one wr (x ++ y)) HF.out hq).mono ?_
        rintro e w4 ⟨v4, rfl, ho4, hb4⟩
        have HO4 : Hid _ := ho4
        have HQ : Hid _ := hq
        clear ho4 hq
        go_wp2_with fail
        exact ⟨⟨k + 1, by simp, by omega, by rw [HS.out]; exact HQ.out, by rw [HS.out]; exact HO4.out, hba.trans hb4⟩, by simp [intOf]; omega⟩
    · have hkz : k = N := by omega
      subst hkz
      have hall : (jtB A C).take k = jtB A C := List.take_of_length_le (by rw [jt_length, ← HN.out]; exact Nat.le_refl _)
      rw [hall] at HF HO
      go_wp2_with fail
      go_ret2
      have hyes : bound (jtB A C) = some (jtB A C) := by
        unfold bound
        rw [HF.out]
        rfl
      rw [hyes]
      exact ⟨⟨_, rfl, HO.out⟩, hbr⟩
end Go.Proofs.YtfafhjglcaikoaaGreatDoor
/-! Join. -/
namespace Go.Proofs.YtfafhjglcaikoaaGreatDoor
open Go.RowKit Go.Shelf

theorem joined_pos (a b : Nat) (ha : 1 ≤ a) (hb : 1 ≤ b) : 1 ≤ joinedN a b := by
  unfold joinedN
  split <;> omega
theorem oneB_length (l : List (List UInt8)) (h : l.length < 4294967296) : (oneB l).length < 4294967296 := by
  unfold oneB
  split
  · simp
  · exact h
theorem oneB_mem (l : List (List UInt8)) (n : Nat) (h : ∀ s ∈ l, s.length < n + 1) : ∀ s ∈ oneB l, s.length < n + 1 := by
  unfold oneB
  split
  · intro s hs
    simp at hs
    subst hs
    simp
  · exact h
theorem bound_some {l m : List (List UInt8)} (h : bound l = some m) : m = l ∧ fitsB l = true := by
  unfold bound at h
  split at h
  · next hf => cases h; exact ⟨rfl, hf⟩
  · cases h
theorem bound_none {l : List (List UInt8)} (h : bound l = none) : fitsB l = false := by
  unfold bound at h
  split at h
  · cases h
  · next hf => simpa using hf
theorem owns_lowerL {W : World} {B B' : Nat} {v : Value} {n : Nat} {xs : List Value} (h : W.ownsRow B 9 1 v n xs) (hB : B' ≤ B) : W.ownsRow B' 9 1 v n xs := by
  refine ⟨h.1, ?_⟩
  rcases h.2 with h2 | ⟨g, cap, cur, hv, hb, rest⟩
  · exact .inl h2
  · exact .inr ⟨g, cap, cur, hv, Nat.le_trans hB hb, rest⟩
theorem GotL.lower {B B' : Nat} {a : Addr} {r : Option (List (List UInt8))} {e : Ending} {w : World} (h : GotL B a r e w) (hB : B' ≤ B) : GotL B' a r e w := by
  cases r with
  | none => exact h
  | some l =>
    obtain ⟨v, h1, h2⟩ := h
    exact ⟨v, h1, owns_lowerL h2 hB⟩
theorem owns_one (W : World) (s : List UInt8) : (W.alloc (.cells #[.string ⟨s.toArray⟩] 9)).ownsRow W.heap.size 9 1 (.slice (some ⟨W.heap.size, 0, none⟩) 1 1) 1 (txV [s]) := by
  refine ⟨rfl, .inr ⟨W.heap.size, 1, #[.string ⟨s.toArray⟩], rfl, Nat.le_refl _, Cel.new W 9 _, Nat.le_refl _, by have := maxLen_big; omega, rfl, rfl⟩⟩
/-- A list of one list, new. -/
theorem Tss.one (W : World) (v : Value) (m : List (List UInt8)) (h : Tx W v m) : Tss (W.alloc (.cells #[v] 23)) (.slice (some ⟨W.heap.size, 0, none⟩) 1 1) [m] := by
  have hb : Below W.heap.size W (W.alloc (.cells #[v] 23)) := (Below.refl _ W).alloc (Nat.le_refl _) _
  refine ⟨W.heap.size, 0, _, 1, rfl, Nat.le_refl _, fun _ => ⟨rfl, by simp⟩, fun k l hl => ?_⟩
  have hc := (Cel.new W 23 #[v]).cell k
  cases k with
  | zero =>
    simp at hl
    subst hl
    exact ⟨v, hc, h.below hb (Nat.le_refl _)⟩
  | succ k => simp at hl
theorem gatAll_one (m : List (List UInt8)) : gatAll id [m] = m := by simp [gatAll]

/-- What is held on the way: joined so far, and what is still to come. -/
def JoinInv (ls : List (List (List UInt8))) (rest : List (List (List UInt8))) (wr : World) (v : Value) (k : Nat) (m : List (List UInt8)) : Prop :=
  Tx wr v m ∧ joinB ls = joinFrom m (rest.drop k) ∧ 1 ≤ m.length ∧ m.length < 4294967296 ∧ ∀ s ∈ m, s.length < 4294967296

set_option maxRecDepth 100000 in
set_option maxHeartbeats 4000000 in
theorem join_none (v : Value) (w : World) (a : Addr) (h : Tss w v []) :
    Calls Tryz.prog 209 #[v] w fun e w' => GotL w.heap.size a (joinB []) e w' ∧ Below w.heap.size w w' := by
  obtain ⟨g, o, ad, cap, rfl, hcap, hne, hce⟩ := h
  clear hne hce
  go_enter Tryz.func209, Tryz.ntmps209
  go_wp2_with fail
  go_ret2
  exact ⟨⟨_, rfl, owns_one w []⟩, (Below.refl _ w).alloc (Nat.le_refl _) _⟩

set_option maxRecDepth 100000 in
set_option maxHeartbeats 8000000 in
theorem join_some (v : Value) (l0 : List (List UInt8)) (rest : List (List (List UInt8))) (w : World) (a : Addr) (h : Tss w v (l0 :: rest)) (hls : rest.length < 4294967295) (hz : ∀ l ∈ l0 :: rest, l.length < 4294967296) (hzz : ∀ l ∈ l0 :: rest, ∀ s ∈ l, s.length < 4294967296) (hE : Eb w a) :
    Calls Tryz.prog 209 #[v] w fun e w' => GotL w.heap.size a (joinB (l0 :: rest)) e w' ∧ Below w.heap.size w w' := by
  have HE : Hid (Eb w a) := hE
  have HZ : Hid (∀ l ∈ l0 :: rest, l.length < 4294967296) := hz
  have HZZ : Hid (∀ l ∈ l0 :: rest, ∀ s ∈ l, s.length < 4294967296) := hzz
  obtain ⟨g, o, ad, cap, rfl, hcap, hne, hce⟩ := h
  obtain ⟨rfl, hg⟩ := hne (by simp)
  have HC : Hid (∀ k l, (l0 :: rest)[k]? = some l → ∃ vl, w.cell? ⟨g, o + k, none⟩ = some vl ∧ Tx w vl l) := hce
  clear hne hce hz hE hzz
  obtain ⟨v0, c0, t0⟩ := HC.out 0 l0 rfl
  simp only [Nat.add_zero] at c0
  have HT0 : Hid (Tx w v0 l0) := t0
  obtain ⟨ad0, cap0, rfl⟩ := t0.form
  have hlen : (l0 :: rest).length = rest.length + 1 := rfl
  rw [hlen] at hcap ⊢
  clear t0 hlen
  have HJ : Hid (joinB (l0 :: rest) = joinFrom (oneB l0) rest) := rfl
  have HR : Hid (∀ k l, rest[k]? = some l → l ∈ l0 :: rest) := fun k l hl => List.mem_cons_of_mem _ (List.mem_of_getElem? hl)
  by_cases hcp : cap = 1
  · subst hcp
    have hr0 : rest = [] := List.eq_nil_of_length_eq_zero (by omega)
    subst hr0
    obtain ⟨RL, HRL⟩ : ∃ RL, Hid (RL = ([] : List (List (List UInt8))).length) := ⟨_, rfl⟩
    have hRL : RL = 0 := HRL.out
    go_enter Tryz.func209, Tryz.ntmps209
    go_wp2_with fail
    refine (one_any _ l0 _ HT0.out).mono ?_
    rintro e w1 ⟨v1, rfl, ht1, hb1⟩
    have HT1 : Hid (Tx w1 v1 (oneB l0)) := ht1
    clear ht1
    go_wp2_with fail
    go_loopw [4, 19] (fun v4 v19 wr => ∃ (k : Nat) (m : List (List UInt8)), v19 = .int .i64 k ∧ k ≤ RL ∧ JoinInv (l0 :: []) [] wr v4 k m ∧ Below w.heap.size w wr) (fun _ v19 _ => RL - (intOf v19).toNat)
    case atStart => exact ⟨0, oneB l0, rfl, by omega, ⟨HT1.out, HJ.out, oneB_pos _, oneB_length _ (HZ.out l0 (by simp)), oneB_mem _ _ (HZZ.out l0 (by simp))⟩, hb1⟩
    case round =>
      obtain ⟨k, m, rfl, hk, HI, hbr⟩ := hrel
      obtain ⟨htm, hjm, hm1, hm2, hm3⟩ := HI
      have HTM : Hid (Tx wr _ m) := htm
      have HJM : Hid (joinB (l0 :: []) = joinFrom m ([].drop k)) := hjm
      have HM3 : Hid (∀ s ∈ m, s.length < 4294967296) := hm3
      obtain ⟨adm, capm, rfl⟩ := htm.form
      clear htm hjm hm3
      · have hkz : k = RL := by omega
        subst hkz
        have hdr : [].drop k = [] := List.drop_eq_nil_of_le (by have := HRL.out; omega)
        have HJE : Hid (joinB (l0 :: []) = bound m) := by
          unfold Hid
          rw [HJM.out, hdr]
          rfl
        go_wp2_with fail
        have hba : Below wr.heap.size wr (wr.alloc (.cells #[.slice adm m.length capm] 23)) := (Below.refl _ wr).alloc (Nat.le_refl _) _
        have hbb := hbr.trans (hba.mono hbr.size)
        have HCA : Hid _ := cat_any _ [m] _ a (Tss.one wr _ m HTM.out) (by simp) (fun l hl => by simp at hl; subst hl; exact hm2) (Eb.below HE.out hbb (Eb.pos HE.out))
        rw [gatAll_one] at HCA
        cases hbm : bound m with
        | none =>
          rw [hbm] at HCA HJE
          refine Calls.mono HCA.out ?_
          rintro e w5 ⟨rfl, hb5⟩
          go_wp2_with fail
          go_ret2
          rw [HJE.out]
          exact ⟨rfl, hbb.trans (hb5.mono hbb.size)⟩
        | some l =>
          rw [hbm] at HCA HJE
          refine Calls.mono HCA.out ?_
          rintro e w5 ⟨⟨v5, rfl, ho5⟩, hb5⟩
          have HO5 : Hid _ := ho5
          clear ho5
          go_wp2_with fail
          go_ret2
          rw [HJE.out]
          exact ⟨⟨_, rfl, owns_lowerL HO5.out hbb.size⟩, hbb.trans (hb5.mono hbb.size)⟩
  · have hcp1 : 1 < cap := by omega
    clear hcp
    obtain ⟨RL, HRL⟩ : ∃ RL, Hid (RL = rest.length) := ⟨_, rfl⟩
    have hRL : RL < 4294967295 := by rw [HRL.out]; exact hls
    have hcap2 : RL + 1 ≤ cap := by rw [HRL.out]; exact hcap
    rw [← HRL.out]
    clear hls hcap
    go_enter Tryz.func209, Tryz.ntmps209
    go_wp2_with fail
    refine (one_any _ l0 _ HT0.out).mono ?_
    rintro e w1 ⟨v1, rfl, ht1, hb1⟩
    have HT1 : Hid (Tx w1 v1 (oneB l0)) := ht1
    clear ht1
    go_wp2_with fail
    go_loopw [4, 19] (fun v4 v19 wr => ∃ (k : Nat) (m : List (List UInt8)), v19 = .int .i64 k ∧ k ≤ RL ∧ JoinInv (l0 :: rest) rest wr v4 k m ∧ Below w.heap.size w wr) (fun _ v19 _ => RL - (intOf v19).toNat)
    case atStart => exact ⟨0, oneB l0, rfl, by omega, ⟨HT1.out, HJ.out, oneB_pos _, oneB_length _ (HZ.out l0 (by simp)), oneB_mem _ _ (HZZ.out l0 (by simp))⟩, hb1⟩
    case round =>
      obtain ⟨k, m, rfl, hk, HI, hbr⟩ := hrel
      obtain ⟨htm, hjm, hm1, hm2, hm3⟩ := HI
      have HTM : Hid (Tx wr _ m) := htm
      have HJM : Hid (joinB (l0 :: rest) = joinFrom m (rest.drop k)) := hjm
      have HM3 : Hid (∀ s ∈ m, s.length < 4294967296) := hm3
      obtain ⟨adm, capm, rfl⟩ := htm.form
      clear htm hjm hm3
      by_cases hkl : k < RL
      · obtain ⟨l, hl⟩ : ∃ l, rest[k]? = some l := ⟨_, List.getElem?_eq_getElem (by have := HRL.out; omega)⟩
        obtain ⟨vl, hc, htx⟩ := HC.out (k + 1) l (by simpa using hl)
        have c1 : wr.cell? ⟨g, o + 1 + k, none⟩ = some vl := by
          rw [show o + 1 + k = o + (k + 1) by omega]
          exact (hbr.cell (p := ⟨g, o + (k + 1), none⟩) hg).trans hc
        have HTX : Hid (Tx wr vl l) := htx.below hbr (Nat.le_refl _)
        have hlm := HR.out k l hl
        have hl2 := oneB_length l (HZ.out l hlm)
        have HL3 : Hid _ := oneB_mem l 4294967295 (HZZ.out l hlm)
        have HJS : Hid (joinB (l0 :: rest) = if fitsB (jtB m (oneB l)) then joinFrom (jtB m (oneB l)) (rest.drop (k + 1)) else none) := by
          unfold Hid
          rw [HJM.out, List.drop_eq_getElem_cons (List.getElem?_eq_some_iff.1 hl).1, (List.getElem?_eq_some_iff.1 hl).2]
          rfl
        obtain ⟨adl, capl, rfl⟩ := htx.form
        clear hc htx hl hlm
        go_wp2_with fail
        refine (one_any _ l _ HTX.out).mono ?_
        rintro e w2 ⟨v2, rfl, ht2, hb2⟩
        have HT2 : Hid (Tx w2 v2 (oneB l)) := ht2
        clear ht2
        go_wp2_with fail
        have hbb := hbr.trans (hb2.mono hbr.size)
        have HJT : Hid _ := joinTwo_any _ _ m (oneB l) w2 a (HTM.out.below hb2 (Nat.le_refl _)) HT2.out hm1 (oneB_pos l) hm2 hl2 HM3.out HL3.out (Eb.below HE.out hbb (Eb.pos HE.out))
        cases hbm : bound (jtB m (oneB l)) with
        | none =>
          rw [hbm] at HJT
          have hfn := bound_none hbm
          refine Calls.mono HJT.out ?_
          rintro e w5 ⟨rfl, hb5⟩
          go_wp2_with fail
          go_ret2
          rw [HJS.out, hfn]
          exact ⟨rfl, hbb.trans (hb5.mono hbb.size)⟩
        | some l' =>
          obtain ⟨rfl, hft⟩ := bound_some hbm
          rw [hbm] at HJT
          rw [hft] at HJS
          have h100 := fits_length _ hft
          have hpos : 1 ≤ (jtB m (oneB l)).length := by rw [jt_length]; exact joined_pos _ _ hm1 (oneB_pos l)
          have HF3 : Hid (∀ s ∈ jtB m (oneB l), s.length < 4294967296) := fun s hs => by have := fits_mem _ hft s hs; omega
          refine Calls.mono HJT.out ?_
          rintro e w5 ⟨⟨v5, rfl, ho5⟩, hb5⟩
          have HT5 : Hid (Tx w5 v5 (jtB m (oneB l))) := Tx.owned ho5
          clear ho5 hbm hft
          go_wp2_with fail
          exact ⟨⟨k + 1, jtB m (oneB l), by simp, by omega, ⟨HT5.out, by rw [HJS.out]; rfl, hpos, by omega, HF3.out⟩, hbb.trans (hb5.mono hbb.size)⟩, by simp [intOf]; omega⟩
      · have hkz : k = RL := by omega
        subst hkz
        have hdr : rest.drop k = [] := List.drop_eq_nil_of_le (by have := HRL.out; omega)
        have HJE : Hid (joinB (l0 :: rest) = bound m) := by
          unfold Hid
          rw [HJM.out, hdr]
          rfl
        go_wp2_with fail
        have hba : Below wr.heap.size wr (wr.alloc (.cells #[.slice adm m.length capm] 23)) := (Below.refl _ wr).alloc (Nat.le_refl _) _
        have hbb := hbr.trans (hba.mono hbr.size)
        have HCA : Hid _ := cat_any _ [m] _ a (Tss.one wr _ m HTM.out) (by simp) (fun l hl => by simp at hl; subst hl; exact hm2) (Eb.below HE.out hbb (Eb.pos HE.out))
        rw [gatAll_one] at HCA
        cases hbm : bound m with
        | none =>
          rw [hbm] at HCA HJE
          refine Calls.mono HCA.out ?_
          rintro e w5 ⟨rfl, hb5⟩
          go_wp2_with fail
          go_ret2
          rw [HJE.out]
          exact ⟨rfl, hbb.trans (hb5.mono hbb.size)⟩
        | some l =>
          rw [hbm] at HCA HJE
          refine Calls.mono HCA.out ?_
          rintro e w5 ⟨⟨v5, rfl, ho5⟩, hb5⟩
          have HO5 : Hid _ := ho5
          clear ho5
          go_wp2_with fail
          go_ret2
          rw [HJE.out]
          exact ⟨⟨_, rfl, owns_lowerL HO5.out hbb.size⟩, hbb.trans (hb5.mono hbb.size)⟩

theorem join_any (v : Value) (ls : List (List (List UInt8))) (w : World) (a : Addr) (h : Tss w v ls) (hls : ls.length < 4294967296) (hz : ∀ l ∈ ls, l.length < 4294967296) (hzz : ∀ l ∈ ls, ∀ s ∈ l, s.length < 4294967296) (hE : Eb w a) :
    Calls Tryz.prog 209 #[v] w fun e w' => GotL w.heap.size a (joinB ls) e w' ∧ Below w.heap.size w w' := by
  cases ls with
  | nil => exact join_none v w a h
  | cons l0 rest => exact join_some v l0 rest w a h (by simp at hls; omega) hz hzz hE
end Go.Proofs.YtfafhjglcaikoaaGreatDoor
/-! Plain facts on lists of names, sorted and each once. -/
namespace Go.Proofs.YtfafhjglcaikoaaGreatDoor

theorem bl_total (a b : List UInt8) : (decide (a ≤ b) || decide (b ≤ a)) = true := by
  rw [Bool.or_eq_true, decide_eq_true_eq, decide_eq_true_eq]
  exact List.le_total a b
theorem bl_trans (a b c : List UInt8) (h1 : decide (a ≤ b) = true) (h2 : decide (b ≤ c) = true) : decide (a ≤ c) = true := by
  rw [decide_eq_true_eq] at *
  exact List.le_trans h1 h2
theorem sortB_sorted (zs : List (List UInt8)) : (sortB zs).Pairwise fun x y => x ≤ y := by
  have := List.pairwise_mergeSort (le := fun x y : List UInt8 => decide (x ≤ y)) bl_trans bl_total zs
  unfold sortB
  exact this.imp (fun h => by simpa using h)
theorem mem_sortB (zs : List (List UInt8)) (x : List UInt8) : x ∈ sortB zs ↔ x ∈ zs := (List.mergeSort_perm zs _).mem_iff
theorem mem_compactB (zs : List (List UInt8)) (x : List UInt8) : x ∈ Lib.compact zs ↔ x ∈ zs := by
  unfold Lib.compact Lib.compactUpTo
  simp only [List.mem_map, List.mem_filter, List.mem_range]
  constructor
  · rintro ⟨j, ⟨hj, _⟩, rfl⟩
    rw [getElem!_pos zs.toArray j (by simpa using hj)]
    simp
  · intro hx
    obtain ⟨i, hi, hxi⟩ := List.mem_iff_getElem.1 hx
    have hex : ∃ j, j < zs.length ∧ zs.toArray[j]! = x := ⟨i, hi, by rw [getElem!_pos zs.toArray i (by simpa using hi)]; simpa using hxi⟩
    induction i using Nat.strongRecOn with
    | _ i ih =>
      by_cases hk : Lib.keeps zs.toArray i = true
      · exact ⟨i, ⟨hi, hk⟩, by rw [getElem!_pos zs.toArray i (by simpa using hi)]; simpa using hxi⟩
      · simp only [Lib.keeps, decide_eq_true_eq] at hk
        have h0 : i ≠ 0 := fun e => hk (Or.inl e)
        have h1 : zs.toArray[i]! = zs.toArray[i - 1]! := Decidable.byContradiction fun e => hk (Or.inr e)
        rw [getElem!_pos zs.toArray i (by simpa using hi), getElem!_pos zs.toArray (i - 1) (by simp; omega)] at h1
        exact ih (i - 1) (by omega) (by omega) (by simp at h1; rw [← h1]; exact hxi)
theorem compactB_rising (zs : List (List UInt8)) (h : zs.Pairwise fun x y => x ≤ y) : (Lib.compact zs).Pairwise fun x y => x < y := by
  unfold Lib.compact Lib.compactUpTo
  rw [List.pairwise_map, List.pairwise_filter]
  have hr : (List.range zs.length).Pairwise fun i j => i < j ∧ j < zs.length := by
    have h1 : (List.range zs.length).Pairwise (· < ·) := List.pairwise_lt_range
    refine h1.imp_of_mem ?_
    intro i j _ hj hij
    exact ⟨hij, List.mem_range.1 hj⟩
  refine hr.imp ?_
  rintro i j ⟨hij, hj⟩ _ hk
  have hle : ∀ a b (hab : a ≤ b) (hb : b < zs.length), zs[a]'(by omega) ≤ zs[b] := by
    intro a b hab hb
    rcases Nat.lt_or_eq_of_le hab with h1 | h1
    · exact (List.pairwise_iff_getElem.1 h) a b (by omega) hb h1
    · subst h1; exact List.le_refl _
  simp only [Lib.keeps, decide_eq_true_eq] at hk
  have hk2 : zs.toArray[j]! ≠ zs.toArray[j - 1]! := by
    rcases hk with h1 | h1
    · omega
    · exact h1
  rw [getElem!_pos zs.toArray j (by simpa using hj), getElem!_pos zs.toArray (j - 1) (by simp; omega)] at hk2
  rw [getElem!_pos zs.toArray j (by simpa using hj), getElem!_pos zs.toArray i (by simp; omega)]
  simp only [List.getElem_toArray] at hk2 ⊢
  have h1 := hle i (j - 1) (by omega) (by omega)
  have h2 := hle (j - 1) j (by omega) hj
  have h3 : zs[j - 1] < zs[j] := by
    rcases List.le_iff_lt_or_eq.1 h2 with h | h
    · exact h
    · exact absurd h.symm hk2
  exact List.lt_of_le_of_lt h1 h3
theorem filesB_mem (d : Bool) (l : List Pc) (ns : List (List UInt8)) (x : List UInt8) : x ∈ filesB d l ns ↔ x ∈ ns ∧ wantB d l x = true := by
  unfold filesB
  rw [mem_compactB, mem_sortB, List.mem_filter]
theorem filesB_rising (d : Bool) (l : List Pc) (ns : List (List UInt8)) : (filesB d l ns).Pairwise fun x y => x < y := compactB_rising _ (sortB_sorted _)
theorem filesB_length (d : Bool) (l : List Pc) (ns : List (List UInt8)) : (filesB d l ns).length ≤ ns.length := by
  unfold filesB
  refine Nat.le_trans (Lib.compact_length_le _) ?_
  have : (sortB (ns.filter (wantB d l))).length = (ns.filter (wantB d l)).length := List.length_mergeSort _
  rw [this]
  exact List.length_filter_le _ _
end Go.Proofs.YtfafhjglcaikoaaGreatDoor
namespace Go.Proofs.YtfafhjglcaikoaaGreatDoor
open Go.RowKit Go.Shelf

/-- What is asked of a function that makes a list of a text. -/
def Makes (g : Nat) (lb : Array Value) (f : List UInt8 → List (List UInt8)) (l : List (List UInt8)) (w : World) : Prop :=
  ∀ (W : World) (x : List UInt8), x ∈ l → Below w.heap.size w W → Calls Tryz.prog g (#[.string ⟨x.toArray⟩] ++ lb) W fun e w' => ∃ v', e = .returned v' ∧ Tx w' v' (f x) ∧ Below W.heap.size W w'

set_option maxRecDepth 100000 in
set_option maxHeartbeats 4000000 in
theorem gatherS_any (v : Value) (l : List (List UInt8)) (gi : Nat) (lb : Array Value) (f : List UInt8 → List (List UInt8)) (w : World) (a : Addr) (eg : ∀ args w, (callFunc gi args).run Tryz.prog w = .ok (.enter gi args) w)
    (h : Tx w v l) (hls : l.length < 4294967296) (hM : Makes gi lb f l w) (hz : ∀ x ∈ l, (f x).length < 4294967296) (hE : Eb w a) :
    Calls Tryz.prog 243 #[v, .func (.func gi) #[] lb] w fun e w' => GotL w.heap.size a (bound (gatAll f l)) e w' ∧ Below w.heap.size w w' := by
  have HE : Hid (Eb w a) := hE
  have HZ : Hid (∀ x ∈ l, (f x).length < 4294967296) := hz
  have HM : Hid (Makes gi lb f l w) := hM
  have HT : Hid (Tx w v l) := h
  obtain ⟨ad, cap, rfl⟩ := h.form
  clear hM hz hE h
  go_enter Tryz.func243, Tryz.ntmps243
  go_wp2_with fail
  go_loopw [6, 12] (fun v6 v12 wr => ∃ k : Nat, v12 = .int .i64 k ∧ k ≤ l.length ∧ Hid (fitsB (gat f l k) = true) ∧ Hid (wr.ownsRow w.heap.size 9 1 v6 (gat f l k).length (txV (gat f l k))) ∧ Below w.heap.size w wr) (fun _ v12 _ => l.length - (intOf v12).toNat)
  case atStart => exact ⟨0, rfl, by omega, by rw [gat_zero]; exact fits_nil, by rw [gat_zero]; exact ⟨rfl, .inl ⟨rfl, rfl⟩⟩, Below.refl _ _⟩
  case round =>
    obtain ⟨k, rfl, hk, HF, HO, hbr⟩ := hrel
    by_cases hkl : k < l.length
    · obtain ⟨x, hx⟩ : ∃ x, l[k]? = some x := ⟨_, List.getElem?_eq_getElem hkl⟩
      obtain ⟨g, o, cap', hv, hcc, hg, hce⟩ := HT.out.inRow (fun e => by rw [e] at hkl; simp at hkl)
      cases hv
      have c0 := (hbr.cell (p := ⟨g, o + k, none⟩) hg).trans (hce k x hx)
      have hxm := List.mem_of_getElem? hx
      have hcall := HM.out wr x hxm hbr
      have HLL : Hid ((f x).length < 4294967296) := HZ.out x hxm
      have HS : Hid (gat f l (k + 1) = gat f l k ++ f x) := gat_succ f l k x hx
      clear hce hx hxm
      go_wp2_with (go_at_fn gi; refine hcall.mono ?_; rintro e w1 ⟨v1, rfl, htx, hb1⟩)
      have HTX : Hid (Tx w1 v1 (f x)) := htx
      have ho1 := owns_after HO.out hb1
      have hbb := hbr.trans (hb1.mono hbr.size)
      cases hq : fitsB (gat f l k ++ f x)
      · refine (add_no _ _ (gat f l k) (f x) _ a (own_form HO.out) HTX.out HLL.out HF.out hq (Eb.below HE.out hbb (Eb.pos HE.out))).mono ?_
        rintro e w2 ⟨rfl, hb2⟩
        go_wp2_with fail
        go_ret2
        have hno : bound (gatAll f l) = none := by
          unfold bound
          rw [gat_fits f l (k + 1) (by rw [HS.out]; exact hq)]
          rfl
        rw [hno]
        exact ⟨rfl, hbb.trans (hb2.mono hbb.size)⟩
      · refine (add_yes w.heap.size _ _ (gat f l k) (f x) _ hbb.size ho1 HTX.out HF.out hq).mono ?_
        rintro e w2 ⟨v2, rfl, ho2, hb2⟩
        have HO2 : Hid _ := ho2
        have HQ : Hid _ := hq
        clear ho2 hq ho1 htx hcall
        go_wp2_with fail
        exact ⟨⟨k + 1, by simp, by omega, by rw [HS.out]; exact HQ.out, by rw [HS.out]; exact HO2.out, hbb.trans hb2⟩, by simp [intOf]; omega⟩
    · have hkz : k = l.length := by omega
      subst hkz
      go_wp2_with fail
      go_ret2
      have hyes : bound (gatAll f l) = some (gatAll f l) := by
        unfold bound
        rw [← gat_all, HF.out]
        rfl
      rw [hyes]
      refine ⟨⟨_, rfl, ?_⟩, hbr⟩
      rw [← gat_all]
      exact HO.out

/-- The files that an item matches, or its bytes. -/
def filesR (ns : List (List UInt8)) (x : List UInt8) : List (List UInt8) :=
  if liveR (letts x) then (if (filesB (dotL x) (pcs (letts x)) ns).length = 0 then [(letts x).map Prod.fst] else filesB (dotL x) (pcs (letts x)) ns) else [(letts x).map Prod.fst]

set_option maxRecDepth 100000 in
set_option maxHeartbeats 4000000 in
theorem filesR_any (x : List UInt8) (hx : x.length < 4294967296) (v : Value) (ns : List (List UInt8)) (hl : ns.length < 4294967296) (hz : ∀ s ∈ ns, s.length < 4294967296) (w : World) (h : Tx w v ns) :
    Calls Tryz.prog 246 #[.string ⟨x.toArray⟩, v] w fun e w' => ∃ v', e = .returned v' ∧ Tx w' v' (filesR ns x) ∧ Below w.heap.size w w' := by
  have HT : Hid (Tx w v ns) := h
  have HZ : Hid (∀ s ∈ ns, s.length < 4294967296) := hz
  have HX : Hid ((⟨x.toArray⟩ : ByteArray).size < 4294967296) := by unfold Hid; rw [str_size']; exact hx
  have HX2 : Hid ((⟨x.toArray⟩ : ByteArray).size < 35184372088832) := by unfold Hid; have := HX.out; omega
  obtain ⟨ad, cap, rfl⟩ := h.form
  clear h hz
  obtain ⟨P, HP⟩ : ∃ P, Hid ((letts x).map Prod.fst = P) := ⟨_, rfl⟩
  obtain ⟨lv, HL⟩ : ∃ lv, Hid (liveR (letts x) = lv) := ⟨_, rfl⟩
  obtain ⟨F, HF⟩ : ∃ F, Hid (filesB (dotL x) (pcs (letts x)) ns = F) := ⟨_, rfl⟩
  cases lv
  · go_enter Tryz.func246, Tryz.ntmps246
    go_wp2_with fail
    refine (live_any _ HX.out _).mono ?_
    rintro e w1 ⟨rfl, hb1⟩
    rw [str_data', HL.out]
    go_wp2_with fail
    refine (plain_any _ HX2.out _).mono ?_
    rintro e w2 ⟨rfl, hb2⟩
    rw [str_data', HP.out]
    go_wp2_with fail
    go_ret
    have hbb := hb1.trans (hb2.mono hb1.size)
    have hR : filesR ns x = [P] := by unfold filesR; rw [HL.out, HP.out]; rfl
    rw [hR]
    exact ⟨_, rfl, Tx.one w2 P, hbb.alloc hbb.size _⟩
  · go_enter Tryz.func246, Tryz.ntmps246
    go_wp2_with fail
    refine (live_any _ HX.out _).mono ?_
    rintro e w1 ⟨rfl, hb1⟩
    rw [str_data', HL.out]
    go_wp2_with fail
    refine (files_anyL _ HX.out _ ns hl HZ.out _ (HT.out.below hb1 (Nat.le_refl _)).texts).mono ?_
    rintro e w2 ⟨v2, rfl, ht2, hb2⟩
    rw [str_data', HF.out] at ht2
    have hbb := hb1.trans (hb2.mono hb1.size)
    have HT2 : Hid (Tx w2 v2 F) := ht2
    obtain ⟨ad2, cap2, rfl⟩ := ht2.form
    clear ht2
    by_cases h0 : F.length = 0
    · have e0 : F = [] := List.eq_nil_of_length_eq_zero h0
      subst e0
      go_wp2_with fail
      refine (plain_any _ HX2.out _).mono ?_
      rintro e w3 ⟨rfl, hb3⟩
      rw [str_data', HP.out]
      go_wp2_with fail
      go_ret
      have hbc := hbb.trans (hb3.mono hbb.size)
      have hR : filesR ns x = [P] := by unfold filesR; rw [HL.out, HP.out, HF.out]; rfl
      rw [hR]
      exact ⟨_, rfl, Tx.one w3 P, hbc.alloc hbc.size _⟩
    · have h1 : 0 < F.length := by omega
      go_wp2_with fail
      go_ret
      have hR : filesR ns x = F := by unfold filesR; rw [HL.out, HF.out, if_pos rfl, if_neg h0]
      rw [hR]
      exact ⟨_, rfl, HT2.out, hbb⟩

theorem filesR_length (ns : List (List UInt8)) (x : List UInt8) (hl : ns.length < 4294967296) : (filesR ns x).length < 4294967296 := by
  unfold filesR
  have := filesB_length (dotL x) (pcs (letts x)) ns
  split
  · split
    · simp
    · omega
  · simp

set_option maxRecDepth 100000 in
set_option maxHeartbeats 2000000 in
theorem glob1_makes (vn : Value) (ns l : List (List UInt8)) (b : Nat) (hl : ns.length < 4294967296) (hz : ∀ s ∈ ns, s.length < 4294967296) (hlz : ∀ s ∈ l, s.length < 4294967296) (w : World) (hb : b < w.heap.size) (hc : w.cell? ⟨b, 0, none⟩ = some vn) (h : Tx w vn ns) :
    Makes 245 #[.pointer (some ⟨b, 0, none⟩)] (filesR ns) l w := by
  intro W x hx hbW
  have c0 := (hbW.cell (p := ⟨b, 0, none⟩) hb).trans hc
  have HT : Hid (Tx W vn ns) := h.below hbW (Nat.le_refl _)
  have HZ : Hid (∀ s ∈ ns, s.length < 4294967296) := hz
  have HX : Hid (x.length < 4294967296) := hlz x hx
  obtain ⟨ad, cap, rfl⟩ := h.form
  clear h hz hlz hc hx
  show Calls Tryz.prog 245 #[.string ⟨x.toArray⟩, .pointer (some ⟨b, 0, none⟩)] W _
  go_enter Tryz.func245, Tryz.ntmps245
  go_wp2_with fail
  refine (filesR_any x HX.out _ ns hl HZ.out _ HT.out).mono ?_
  rintro e w1 ⟨v1, rfl, ht, hb1⟩
  have HT1 : Hid (Tx w1 v1 (filesR ns x)) := ht
  clear ht
  go_wp2_with fail
  go_ret
  exact ⟨_, rfl, HT1.out, hb1⟩

set_option maxRecDepth 100000 in
set_option maxHeartbeats 2000000 in
theorem glob_any (v vn : Value) (l ns : List (List UInt8)) (w : World) (a : Addr) (h : Tx w v l) (hn : Tx w vn ns) (hls : l.length < 4294967296) (hl : ns.length < 4294967296) (hz : ∀ s ∈ ns, s.length < 4294967296) (hlz : ∀ s ∈ l, s.length < 4294967296) (hE : Eb w a) :
    Calls Tryz.prog 212 #[v, vn] w fun e w' => GotL w.heap.size a (bound (gatAll (filesR ns) l)) e w' ∧ Below w.heap.size w w' := by
  have hba : Below w.heap.size w (w.alloc (.cells #[vn] 23)) := (Below.refl _ w).alloc (Nat.le_refl _) _
  have HG : Hid _ := gatherS_any v l 245 #[.pointer (some ⟨w.heap.size, 0, none⟩)] (filesR ns) (w.alloc (.cells #[vn] 23)) a (enters_of Tryz.func245 (by kernel_rfl) rfl) (h.below hba (Nat.le_refl _)) hls
    (glob1_makes vn ns l w.heap.size hl hz hlz _ (by simp) ((Cel.new w 23 #[vn]).cell 0) (hn.below hba (Nat.le_refl _))) (fun x _ => filesR_length ns x hl) (hE.below hba hE.pos)
  obtain ⟨adn, capn, rfl⟩ := hn.form
  obtain ⟨ad, cap, rfl⟩ := h.form
  clear h hn hz hlz hE
  cases hb : bound (gatAll (filesR ns) l) with
  | none =>
    rw [hb] at HG
    go_enter Tryz.func212, Tryz.ntmps212
    go_wp2_with fail
    refine Calls.mono HG.out ?_
    rintro e w1 ⟨rfl, hb1⟩
    go_wp2_with fail
    go_ret2
    exact ⟨rfl, hba.trans (hb1.mono hba.size)⟩
  | some m =>
    rw [hb] at HG
    go_enter Tryz.func212, Tryz.ntmps212
    go_wp2_with fail
    refine Calls.mono HG.out ?_
    rintro e w1 ⟨⟨v1, rfl, ho⟩, hb1⟩
    have HO : Hid _ := ho
    clear ho
    go_wp2_with fail
    go_ret2
    exact ⟨⟨_, rfl, owns_lowerL HO.out hba.size⟩, hba.trans (hb1.mono hba.size)⟩

/-- The n-th alone, or nothing. -/
def pickB (l : List (List UInt8)) (n : Int) : List (List UInt8) := if n < 1 ∨ n > l.length then [] else [l.getD (n - 1).toNat []]

set_option maxRecDepth 100000 in
set_option maxHeartbeats 2000000 in
theorem pick_no (v : Value) (l : List (List UInt8)) (n : Int) (w : World) (h : Tx w v l) (hn : n < 1 ∨ n > l.length) (h0 : -9223372036854775808 ≤ n) (h1 : n ≤ 9223372036854775807) :
    Calls Tryz.prog 216 #[v, .int .i64 n] w fun e w' => e = .returned (.slice none 0 0) ∧ w' = w := by
  obtain ⟨ad, cap, rfl⟩ := h.form
  clear h
  by_cases h2 : n < 1
  · clear hn
    go_enter Tryz.func216, Tryz.ntmps216
    go_wp2_with fail
    go_ret
    exact ⟨rfl, rfl⟩
  · have h3 : n > l.length := by omega
    clear hn
    go_enter Tryz.func216, Tryz.ntmps216
    go_wp2_with fail
    go_ret
    exact ⟨rfl, rfl⟩

set_option maxRecDepth 100000 in
set_option maxHeartbeats 2000000 in
theorem pick_yes (v : Value) (l : List (List UInt8)) (i : Nat) (x : List UInt8) (w : World) (h : Tx w v l) (hx : l[i]? = some x) (hl : l.length < 4294967296) :
    Calls Tryz.prog 216 #[v, .int .i64 ((i : Int) + 1)] w fun e w' => e = .returned (.slice (some ⟨w.heap.size, 0, none⟩) 1 1) ∧ w' = w.alloc (.cells #[.string ⟨x.toArray⟩] 9) := by
  have hil := (List.getElem?_eq_some_iff.1 hx).1
  obtain ⟨g, o, cap, rfl, hc, hg, hce⟩ := h.inRow (fun e => by rw [e] at hil; simp at hil)
  have c0 := hce i x hx
  clear h hce hx
  go_enter Tryz.func216, Tryz.ntmps216
  go_wp2_with fail
  go_ret
  exact ⟨rfl, rfl⟩
end Go.Proofs.YtfafhjglcaikoaaGreatDoor

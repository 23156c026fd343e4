/- Join. -/
import Derived.Test.YtdajacodfnidfaaDoorLists3
namespace Go.Proofs.YtdajacodfnidfaaDoor
open Go.RowKit Go.Shelf

theorem joined_pos (a b : Nat) (ha : 1 ≤ a) (hb : 1 ≤ b) : 1 ≤ joinedN a b := by
  unfold joinedN
  split <;> omega
theorem oneB_length (l : List (List UInt8)) (h : l.length < 4294967296) : (oneB l).length < 4294967296 := by
  unfold oneB
  split
  · simp
  · exact h
theorem oneB_mem (l : List (List UInt8)) (n : Nat) (h : ∀ s ∈ l, s.length < n + 1) : ∀ s ∈ oneB l, s.length < n + 1 := by
  unfold oneB
  split
  · intro s hs
    simp at hs
    subst hs
    simp
  · exact h
theorem bound_some {l m : List (List UInt8)} (h : bound l = some m) : m = l ∧ fitsB l = true := by
  unfold bound at h
  split at h
  · next hf => cases h; exact ⟨rfl, hf⟩
  · cases h
theorem bound_none {l : List (List UInt8)} (h : bound l = none) : fitsB l = false := by
  unfold bound at h
  split at h
  · cases h
  · next hf => simpa using hf
theorem owns_lower {W : World} {B B' : Nat} {v : Value} {n : Nat} {xs : List Value} (h : W.ownsRow B 9 1 v n xs) (hB : B' ≤ B) : W.ownsRow B' 9 1 v n xs := by
  refine ⟨h.1, ?_⟩
  rcases h.2 with h2 | ⟨g, cap, cur, hv, hb, rest⟩
  · exact .inl h2
  · exact .inr ⟨g, cap, cur, hv, Nat.le_trans hB hb, rest⟩
theorem GotL.lower {B B' : Nat} {a : Addr} {r : Option (List (List UInt8))} {e : Ending} {w : World} (h : GotL B a r e w) (hB : B' ≤ B) : GotL B' a r e w := by
  cases r with
  | none => exact h
  | some l =>
    obtain ⟨v, h1, h2⟩ := h
    exact ⟨v, h1, owns_lower h2 hB⟩
theorem owns_one (W : World) (s : List UInt8) : (W.alloc (.cells #[.string ⟨s.toArray⟩] 9)).ownsRow W.heap.size 9 1 (.slice (some ⟨W.heap.size, 0, none⟩) 1 1) 1 (txV [s]) := by
  refine ⟨rfl, .inr ⟨W.heap.size, 1, #[.string ⟨s.toArray⟩], rfl, Nat.le_refl _, Cel.new W 9 _, Nat.le_refl _, by have := maxLen_big; omega, rfl, rfl⟩⟩
/-- A list of one list, new. -/
theorem Tss.one (W : World) (v : Value) (m : List (List UInt8)) (h : Tx W v m) : Tss (W.alloc (.cells #[v] 22)) (.slice (some ⟨W.heap.size, 0, none⟩) 1 1) [m] := by
  have hb : Below W.heap.size W (W.alloc (.cells #[v] 22)) := (Below.refl _ W).alloc (Nat.le_refl _) _
  refine ⟨W.heap.size, 0, _, 1, rfl, Nat.le_refl _, fun _ => ⟨rfl, by simp⟩, fun k l hl => ?_⟩
  have hc := (Cel.new W 22 #[v]).cell k
  cases k with
  | zero =>
    simp at hl
    subst hl
    exact ⟨v, hc, h.below hb (Nat.le_refl _)⟩
  | succ k => simp at hl
theorem gatAll_one (m : List (List UInt8)) : gatAll id [m] = m := by simp [gatAll]

/-- What is held on the way: joined so far, and what is still to come. -/
def JoinInv (ls : List (List (List UInt8))) (rest : List (List (List UInt8))) (wr : World) (v : Value) (k : Nat) (m : List (List UInt8)) : Prop :=
  Tx wr v m ∧ joinB ls = joinFrom m (rest.drop k) ∧ 1 ≤ m.length ∧ m.length < 4294967296 ∧ ∀ s ∈ m, s.length < 4294967296

set_option maxRecDepth 100000 in
set_option maxHeartbeats 4000000 in
theorem join_none (v : Value) (w : World) (a : Addr) (h : Tss w v []) :
    Calls Tryd.prog 13 #[v] w fun e w' => GotL w.heap.size a (joinB []) e w' ∧ Below w.heap.size w w' := by
  obtain ⟨g, o, ad, cap, rfl, hcap, hne, hce⟩ := h
  clear hne hce
  go_enter Tryd.func13, Tryd.ntmps13
  go_wp2_with fail
  go_ret2
  exact ⟨⟨_, rfl, owns_one w []⟩, (Below.refl _ w).alloc (Nat.le_refl _) _⟩

set_option maxRecDepth 100000 in
set_option maxHeartbeats 8000000 in
theorem join_some (v : Value) (l0 : List (List UInt8)) (rest : List (List (List UInt8))) (w : World) (a : Addr) (h : Tss w v (l0 :: rest)) (hls : rest.length < 4294967295) (hz : ∀ l ∈ l0 :: rest, l.length < 4294967296) (hzz : ∀ l ∈ l0 :: rest, ∀ s ∈ l, s.length < 4294967296) (hE : Eb w a) :
    Calls Tryd.prog 13 #[v] w fun e w' => GotL w.heap.size a (joinB (l0 :: rest)) e w' ∧ Below w.heap.size w w' := by
  have HE : Hid (Eb w a) := hE
  have HZ : Hid (∀ l ∈ l0 :: rest, l.length < 4294967296) := hz
  have HZZ : Hid (∀ l ∈ l0 :: rest, ∀ s ∈ l, s.length < 4294967296) := hzz
  obtain ⟨g, o, ad, cap, rfl, hcap, hne, hce⟩ := h
  obtain ⟨rfl, hg⟩ := hne (by simp)
  have HC : Hid (∀ k l, (l0 :: rest)[k]? = some l → ∃ vl, w.cell? ⟨g, o + k, none⟩ = some vl ∧ Tx w vl l) := hce
  clear hne hce hz hE hzz
  obtain ⟨v0, c0, t0⟩ := HC.out 0 l0 rfl
  simp only [Nat.add_zero] at c0
  have HT0 : Hid (Tx w v0 l0) := t0
  obtain ⟨ad0, cap0, rfl⟩ := t0.form
  have hlen : (l0 :: rest).length = rest.length + 1 := rfl
  rw [hlen] at hcap ⊢
  clear t0 hlen
  have HJ : Hid (joinB (l0 :: rest) = joinFrom (oneB l0) rest) := rfl
  have HR : Hid (∀ k l, rest[k]? = some l → l ∈ l0 :: rest) := fun k l hl => List.mem_cons_of_mem _ (List.mem_of_getElem? hl)
  by_cases hcp : cap = 1
  · subst hcp
    have hr0 : rest = [] := List.eq_nil_of_length_eq_zero (by omega)
    subst hr0
    obtain ⟨RL, HRL⟩ : ∃ RL, Hid (RL = ([] : List (List (List UInt8))).length) := ⟨_, rfl⟩
    have hRL : RL = 0 := HRL.out
    go_enter Tryd.func13, Tryd.ntmps13
    go_wp2_with fail
    refine (one_any _ l0 _ HT0.out).mono ?_
    rintro e w1 ⟨v1, rfl, ht1, hb1⟩
    have HT1 : Hid (Tx w1 v1 (oneB l0)) := ht1
    clear ht1
    go_wp2_with fail
    go_loopw [4, 19] (fun v4 v19 wr => ∃ (k : Nat) (m : List (List UInt8)), v19 = .int .i64 k ∧ k ≤ RL ∧ JoinInv (l0 :: []) [] wr v4 k m ∧ Below w.heap.size w wr) (fun _ v19 _ => RL - (intOf v19).toNat)
    case atStart => exact ⟨0, oneB l0, rfl, by omega, ⟨HT1.out, HJ.out, oneB_pos _, oneB_length _ (HZ.out l0 (by simp)), oneB_mem _ _ (HZZ.out l0 (by simp))⟩, hb1⟩
    case round =>
      obtain ⟨k, m, rfl, hk, HI, hbr⟩ := hrel
      obtain ⟨htm, hjm, hm1, hm2, hm3⟩ := HI
      have HTM : Hid (Tx wr _ m) := htm
      have HJM : Hid (joinB (l0 :: []) = joinFrom m ([].drop k)) := hjm
      have HM3 : Hid (∀ s ∈ m, s.length < 4294967296) := hm3
      obtain ⟨adm, capm, rfl⟩ := htm.form
      clear htm hjm hm3
      · have hkz : k = RL := by omega
        subst hkz
        have hdr : [].drop k = [] := List.drop_eq_nil_of_le (by have := HRL.out; omega)
        have HJE : Hid (joinB (l0 :: []) = bound m) := by
          unfold Hid
          rw [HJM.out, hdr]
          rfl
        go_wp2_with fail
        have hba : Below wr.heap.size wr (wr.alloc (.cells #[.slice adm m.length capm] 22)) := (Below.refl _ wr).alloc (Nat.le_refl _) _
        have hbb := hbr.trans (hba.mono hbr.size)
        have HCA : Hid _ := cat_any _ [m] _ a (Tss.one wr _ m HTM.out) (by simp) (fun l hl => by simp at hl; subst hl; exact hm2) (Eb.below HE.out hbb (Eb.pos HE.out))
        rw [gatAll_one] at HCA
        cases hbm : bound m with
        | none =>
          rw [hbm] at HCA HJE
          refine Calls.mono HCA.out ?_
          rintro e w5 ⟨rfl, hb5⟩
          go_wp2_with fail
          go_ret2
          rw [HJE.out]
          exact ⟨rfl, hbb.trans (hb5.mono hbb.size)⟩
        | some l =>
          rw [hbm] at HCA HJE
          refine Calls.mono HCA.out ?_
          rintro e w5 ⟨⟨v5, rfl, ho5⟩, hb5⟩
          have HO5 : Hid _ := ho5
          clear ho5
          go_wp2_with fail
          go_ret2
          rw [HJE.out]
          exact ⟨⟨_, rfl, owns_lower HO5.out hbb.size⟩, hbb.trans (hb5.mono hbb.size)⟩
  · have hcp1 : 1 < cap := by omega
    clear hcp
    obtain ⟨RL, HRL⟩ : ∃ RL, Hid (RL = rest.length) := ⟨_, rfl⟩
    have hRL : RL < 4294967295 := by rw [HRL.out]; exact hls
    have hcap2 : RL + 1 ≤ cap := by rw [HRL.out]; exact hcap
    rw [← HRL.out]
    clear hls hcap
    go_enter Tryd.func13, Tryd.ntmps13
    go_wp2_with fail
    refine (one_any _ l0 _ HT0.out).mono ?_
    rintro e w1 ⟨v1, rfl, ht1, hb1⟩
    have HT1 : Hid (Tx w1 v1 (oneB l0)) := ht1
    clear ht1
    go_wp2_with fail
    go_loopw [4, 19] (fun v4 v19 wr => ∃ (k : Nat) (m : List (List UInt8)), v19 = .int .i64 k ∧ k ≤ RL ∧ JoinInv (l0 :: rest) rest wr v4 k m ∧ Below w.heap.size w wr) (fun _ v19 _ => RL - (intOf v19).toNat)
    case atStart => exact ⟨0, oneB l0, rfl, by omega, ⟨HT1.out, HJ.out, oneB_pos _, oneB_length _ (HZ.out l0 (by simp)), oneB_mem _ _ (HZZ.out l0 (by simp))⟩, hb1⟩
    case round =>
      obtain ⟨k, m, rfl, hk, HI, hbr⟩ := hrel
      obtain ⟨htm, hjm, hm1, hm2, hm3⟩ := HI
      have HTM : Hid (Tx wr _ m) := htm
      have HJM : Hid (joinB (l0 :: rest) = joinFrom m (rest.drop k)) := hjm
      have HM3 : Hid (∀ s ∈ m, s.length < 4294967296) := hm3
      obtain ⟨adm, capm, rfl⟩ := htm.form
      clear htm hjm hm3
      by_cases hkl : k < RL
      · obtain ⟨l, hl⟩ : ∃ l, rest[k]? = some l := ⟨_, List.getElem?_eq_getElem (by have := HRL.out; omega)⟩
        obtain ⟨vl, hc, htx⟩ := HC.out (k + 1) l (by simpa using hl)
        have c1 : wr.cell? ⟨g, o + 1 + k, none⟩ = some vl := by
          rw [show o + 1 + k = o + (k + 1) by omega]
          exact (hbr.cell (p := ⟨g, o + (k + 1), none⟩) hg).trans hc
        have HTX : Hid (Tx wr vl l) := htx.below hbr (Nat.le_refl _)
        have hlm := HR.out k l hl
        have hl2 := oneB_length l (HZ.out l hlm)
        have HL3 : Hid _ := oneB_mem l 4294967295 (HZZ.out l hlm)
        have HJS : Hid (joinB (l0 :: rest) = if fitsB (jtB m (oneB l)) then joinFrom (jtB m (oneB l)) (rest.drop (k + 1)) else none) := by
          unfold Hid
          rw [HJM.out, List.drop_eq_getElem_cons (List.getElem?_eq_some_iff.1 hl).1, (List.getElem?_eq_some_iff.1 hl).2]
          rfl
        obtain ⟨adl, capl, rfl⟩ := htx.form
        clear hc htx hl hlm
        go_wp2_with fail
        refine (one_any _ l _ HTX.out).mono ?_
        rintro e w2 ⟨v2, rfl, ht2, hb2⟩
        have HT2 : Hid (Tx w2 v2 (oneB l)) := ht2
        clear ht2
        go_wp2_with fail
        have hbb := hbr.trans (hb2.mono hbr.size)
        have HJT : Hid _ := joinTwo_any _ _ m (oneB l) w2 a (HTM.out.below hb2 (Nat.le_refl _)) HT2.out hm1 (oneB_pos l) hm2 hl2 HM3.out HL3.out (Eb.below HE.out hbb (Eb.pos HE.out))
        cases hbm : bound (jtB m (oneB l)) with
        | none =>
          rw [hbm] at HJT
          have hfn := bound_none hbm
          refine Calls.mono HJT.out ?_
          rintro e w5 ⟨rfl, hb5⟩
          go_wp2_with fail
          go_ret2
          rw [HJS.out, hfn]
          exact ⟨rfl, hbb.trans (hb5.mono hbb.size)⟩
        | some l' =>
          obtain ⟨rfl, hft⟩ := bound_some hbm
          rw [hbm] at HJT
          rw [hft] at HJS
          have h100 := fits_length _ hft
          have hpos : 1 ≤ (jtB m (oneB l)).length := by rw [jt_length]; exact joined_pos _ _ hm1 (oneB_pos l)
          have HF3 : Hid (∀ s ∈ jtB m (oneB l), s.length < 4294967296) := fun s hs => by have := fits_mem _ hft s hs; omega
          refine Calls.mono HJT.out ?_
          rintro e w5 ⟨⟨v5, rfl, ho5⟩, hb5⟩
          have HT5 : Hid (Tx w5 v5 (jtB m (oneB l))) := Tx.owned ho5
          clear ho5 hbm hft
          go_wp2_with fail
          exact ⟨⟨k + 1, jtB m (oneB l), by simp, by omega, ⟨HT5.out, by rw [HJS.out]; rfl, hpos, by omega, HF3.out⟩, hbb.trans (hb5.mono hbb.size)⟩, by simp [intOf]; omega⟩
      · have hkz : k = RL := by omega
        subst hkz
        have hdr : rest.drop k = [] := List.drop_eq_nil_of_le (by have := HRL.out; omega)
        have HJE : Hid (joinB (l0 :: rest) = bound m) := by
          unfold Hid
          rw [HJM.out, hdr]
          rfl
        go_wp2_with fail
        have hba : Below wr.heap.size wr (wr.alloc (.cells #[.slice adm m.length capm] 22)) := (Below.refl _ wr).alloc (Nat.le_refl _) _
        have hbb := hbr.trans (hba.mono hbr.size)
        have HCA : Hid _ := cat_any _ [m] _ a (Tss.one wr _ m HTM.out) (by simp) (fun l hl => by simp at hl; subst hl; exact hm2) (Eb.below HE.out hbb (Eb.pos HE.out))
        rw [gatAll_one] at HCA
        cases hbm : bound m with
        | none =>
          rw [hbm] at HCA HJE
          refine Calls.mono HCA.out ?_
          rintro e w5 ⟨rfl, hb5⟩
          go_wp2_with fail
          go_ret2
          rw [HJE.out]
          exact ⟨rfl, hbb.trans (hb5.mono hbb.size)⟩
        | some l =>
          rw [hbm] at HCA HJE
          refine Calls.mono HCA.out ?_
          rintro e w5 ⟨⟨v5, rfl, ho5⟩, hb5⟩
          have HO5 : Hid _ := ho5
          clear ho5
          go_wp2_with fail
          go_ret2
          rw [HJE.out]
          exact ⟨⟨_, rfl, owns_lower HO5.out hbb.size⟩, hbb.trans (hb5.mono hbb.size)⟩

theorem join_any (v : Value) (ls : List (List (List UInt8))) (w : World) (a : Addr) (h : Tss w v ls) (hls : ls.length < 4294967296) (hz : ∀ l ∈ ls, l.length < 4294967296) (hzz : ∀ l ∈ ls, ∀ s ∈ l, s.length < 4294967296) (hE : Eb w a) :
    Calls Tryd.prog 13 #[v] w fun e w' => GotL w.heap.size a (joinB ls) e w' ∧ Below w.heap.size w w' := by
  cases ls with
  | nil => exact join_none v w a h
  | cons l0 rest => exact join_some v l0 rest w a h (by simp at hls; omega) hz hzz hE
end Go.Proofs.YtdajacodfnidfaaDoor

/- Words one behind the other, joined, as one string. -/
import Derived.Test.YtfafhjglcaikoaaGreatDoorH20
import Derived.Test.YtfafhjglcaikoaaGreatDoorH12
import Derived.Test.YtfafhjglcaikoaaGreatDoorH14
/-! Join. -/
namespace Go.Proofs.YtfafhjglcaikoaaGreatDoor
open Go.RowKit Go.Shelf

theorem joined_pos (a b : Nat) (ha : 1 ≤ a) (hb : 1 ≤ b) : 1 ≤ joinedN a b := by
  unfold joinedN
  split <;> omega
theorem oneB_length (l : List (List UInt8)) (h : l.length < 4294967296) : (oneB l).length < 4294967296 := by
  unfold oneB
  split
  · simp
  · exact h
theorem oneB_mem (l : List (List UInt8)) (n : Nat) (h : ∀ s ∈ l, s.length < n + 1) : ∀ s ∈ oneB l, s.length < n + 1 := by
  unfold oneB
  split
  · intro s hs
    simp at hs
    subst hs
    simp
  · exact h
theorem bound_some {l m : List (List UInt8)} (h : bound l = some m) : m = l ∧ fitsB l = true := by
  unfold bound at h
  split at h
  · next hf => cases h; exact ⟨rfl, hf⟩
  · cases h
theorem bound_none {l : List (List UInt8)} (h : bound l = none) : fitsB l = false := by
  unfold bound at h
  split at h
  · cases h
  · next hf => simpa using hf
theorem owns_lowerL {W : World} {B B' : Nat} {v : Value} {n : Nat} {xs : List Value} (h : W.ownsRow B 9 1 v n xs) (hB : B' ≤ B) : W.ownsRow B' 9 1 v n xs := by
  refine ⟨h.1, ?_⟩
  rcases h.2 with h2 | ⟨g, cap, cur, hv, hb, rest⟩
  · exact .inl h2
  · exact .inr ⟨g, cap, cur, hv, Nat.le_trans hB hb, rest⟩
theorem owns_one (W : World) (s : List UInt8) : (W.alloc (.cells #[.string ⟨s.toArray⟩] 9)).ownsRow W.heap.size 9 1 (.slice (some ⟨W.heap.size, 0, none⟩) 1 1) 1 (txV [s]) := by
  refine ⟨rfl, .inr ⟨W.heap.size, 1, #[.string ⟨s.toArray⟩], rfl, Nat.le_refl _, Cel.new W 9 _, Nat.le_refl _, by have := maxLen_big; omega, rfl, rfl⟩⟩
/-- A list of one list, new. -/
theorem Tss.one (W : World) (v : Value) (m : List (List UInt8)) (h : Tx W v m) : Tss (W.alloc (.cells #[v] 23)) (.slice (some ⟨W.heap.size, 0, none⟩) 1 1) [m] := by
  have hb : Below W.heap.size W (W.alloc (.cells #[v] 23)) := (Below.refl _ W).alloc (Nat.le_refl _) _
  refine ⟨W.heap.size, 0, _, 1, rfl, Nat.le_refl _, fun _ => ⟨rfl, by simp⟩, fun k l hl => ?_⟩
  have hc := (Cel.new W 23 #[v]).cell k
  cases k with
  | zero =>
    simp at hl
    subst hl
    exact ⟨v, hc, h.below hb (Nat.le_refl _)⟩
  | succ k => simp at hl
theorem gatAll_one (m : List (List UInt8)) : gatAll id [m] = m := by simp [gatAll]

/-- What is held on the way: joined so far, and what is still to come. -/
def JoinInv (ls : List (List (List UInt8))) (rest : List (List (List UInt8))) (wr : World) (v : Value) (k : Nat) (m : List (List UInt8)) : Prop :=
  Tx wr v m ∧ joinB ls = joinFrom m (rest.drop k) ∧ 1 ≤ m.length ∧ m.length < 4294967296 ∧ ∀ s ∈ m, s.length < 4294967296

set_option maxRecDepth 100000 in
set_option maxHeartbeats 4000000 in
theorem join_none (v : Value) (w : World) (a : Addr) (h : Tss w v []) :
    Calls Tryz.prog 209 #[v] w fun e w' => GotL w.heap.size a (joinB []) e w' ∧ Below w.heap.size w w' := by
  obtain ⟨g, o, ad, cap, rfl, hcap, hne, hce⟩ := h
  clear hne hce
  go_enter Tryz.func209, Tryz.ntmps209
  go_wp2_with fail
  go_ret2
  exact ⟨⟨_, rfl, owns_one w []⟩, (Below.refl _ w).alloc (Nat.le_refl _) _⟩

set_option maxRecDepth 100000 in
set_option maxHeartbeats 8000000 in
theorem join_some (v : Value) (l0 : List (List UInt8)) (rest : List (List (List UInt8))) (w : World) (a : Addr) (h : Tss w v (l0 :: rest)) (hls : rest.length < 4294967295) (hz : ∀ l ∈ l0 :: rest, l.length < 4294967296) (hzz : ∀ l ∈ l0 :: rest, ∀ s ∈ l, s.length < 4294967296) (hE : Eb w a) :
    Calls Tryz.prog 209 #[v] w fun e w' => GotL w.heap.size a (joinB (l0 :: rest)) e w' ∧ Below w.heap.size w w' := by
  have HE : Hid (Eb w a) := hE
  have HZ : Hid (∀ l ∈ l0 :: rest, l.length < 4294967296) := hz
  have HZZ : Hid (∀ l ∈ l0 :: rest, ∀ s ∈ l, s.length < 4294967296) := hzz
  obtain ⟨g, o, ad, cap, rfl, hcap, hne, hce⟩ := h
  obtain ⟨rfl, hg⟩ := hne (by simp)
  have HC : Hid (∀ k l, (l0 :: rest)[k]? = some l → ∃ vl, w.cell? ⟨g, o + k, none⟩ = some vl ∧ Tx w vl l) := hce
  clear hne hce hz hE hzz
  obtain ⟨v0, c0, t0⟩ := HC.out 0 l0 rfl
  simp only [Nat.add_zero] at c0
  have HT0 : Hid (Tx w v0 l0) := t0
  obtain ⟨ad0, cap0, rfl⟩ := t0.form
  have hlen : (l0 :: rest).length = rest.length + 1 := rfl
  rw [hlen] at hcap ⊢
  clear t0 hlen
  have HJ : Hid (joinB (l0 :: rest) = joinFrom (oneB l0) rest) := rfl
  have HR : Hid (∀ k l, rest[k]? = some l → l ∈ l0 :: rest) := fun k l hl => List.mem_cons_of_mem _ (List.mem_of_getElem? hl)
  by_cases hcp : cap = 1
  · subst hcp
    have hr0 : rest = [] := List.eq_nil_of_length_eq_zero (by omega)
    subst hr0
    obtain ⟨RL, HRL⟩ : ∃ RL, Hid (RL = ([] : List (List (List UInt8))).length) := ⟨_, rfl⟩
    have hRL : RL = 0 := HRL.out
    go_enter Tryz.func209, Tryz.ntmps209
    go_wp2_with fail
    refine (one_any _ l0 _ HT0.out).mono ?_
    rintro e w1 ⟨v1, rfl, ht1, hb1⟩
    have HT1 : Hid (Tx w1 v1 (oneB l0)) := ht1
    clear ht1
    go_wp2_with fail
    go_loopw [4, 19] (fun v4 v19 wr => ∃ (k : Nat) (m : List (List UInt8)), v19 = .int .i64 k ∧ k ≤ RL ∧ JoinInv (l0 :: []) [] wr v4 k m ∧ Below w.heap.size w wr) (fun _ v19 _ => RL - (intOf v19).toNat)
    case atStart => exact ⟨0, oneB l0, rfl, by omega, ⟨HT1.out, HJ.out, oneB_pos _, oneB_length _ (HZ.out l0 (by simp)), oneB_mem _ _ (HZZ.out l0 (by simp))⟩, hb1⟩
    case round =>
      obtain ⟨k, m, rfl, hk, HI, hbr⟩ := hrel
      obtain ⟨htm, hjm, hm1, hm2, hm3⟩ := HI
      have HTM : Hid (Tx wr _ m) := htm
      have HJM : Hid (joinB (l0 :: []) = joinFrom m ([].drop k)) := hjm
      have HM3 : Hid (∀ s ∈ m, s.length < 4294967296) := hm3
      obtain ⟨adm, capm, rfl⟩ := htm.form
      clear htm hjm hm3
      · have hkz : k = RL := by omega
        subst hkz
        have hdr : [].drop k = [] := List.drop_eq_nil_of_le (by have := HRL.out; omega)
        have HJE : Hid (joinB (l0 :: []) = bound m) := by
          unfold Hid
          rw [HJM.out, hdr]
          rfl
        go_wp2_with fail
        have hba : Below wr.heap.size wr (wr.alloc (.cells #[.slice adm m.length capm] 23)) := (Below.refl _ wr).alloc (Nat.le_refl _) _
        have hbb := hbr.trans (hba.mono hbr.size)
        have HCA : Hid _ := cat_any _ [m] _ a (Tss.one wr _ m HTM.out) (by simp) (fun l hl => by simp at hl; subst hl; exact hm2) (Eb.below HE.out hbb (Eb.pos HE.out))
        rw [gatAll_one] at HCA
        cases hbm : bound m with
        | none =>
          rw [hbm] at HCA HJE
          refine Calls.mono HCA.out ?_
          rintro e w5 ⟨rfl, hb5⟩
          go_wp2_with fail
          go_ret2
          rw [HJE.out]
          exact ⟨rfl, hbb.trans (hb5.mono hbb.size)⟩
        | some l =>
          rw [hbm] at HCA HJE
          refine Calls.mono HCA.out ?_
          rintro e w5 ⟨⟨v5, rfl, ho5⟩, hb5⟩
          have HO5 : Hid _ := ho5
          clear ho5
          go_wp2_with fail
          go_ret2
          rw [HJE.out]
          exact ⟨⟨_, rfl, owns_lowerL HO5.out hbb.size⟩, hbb.trans (hb5.mono hbb.size)⟩
  · have hcp1 : 1 < cap := by omega
    clear hcp
    obtain ⟨RL, HRL⟩ : ∃ RL, Hid (RL = rest.length) := ⟨_, rfl⟩
    have hRL : RL < 4294967295 := by rw [HRL.out]; exact hls
    have hcap2 : RL + 1 ≤ cap := by rw [HRL.out]; exact hcap
    rw [← HRL.out]
    clear hls hcap
    go_enter Tryz.func209, Tryz.ntmps209
    go_wp2_with fail
    refine (one_any _ l0 _ HT0.out).mono ?_
    rintro e w1 ⟨v1, rfl, ht1, hb1⟩
    have HT1 : Hid (Tx w1 v1 (oneB l0)) := ht1
    clear ht1
    go_wp2_with fail
    go_loopw [4, 19] (fun v4 v19 wr => ∃ (k : Nat) (m : List (List UInt8)), v19 = .int .i64 k ∧ k ≤ RL ∧ JoinInv (l0 :: rest) rest wr v4 k m ∧ Below w.heap.size w wr) (fun _ v19 _ => RL - (intOf v19).toNat)
    case atStart => exact ⟨0, oneB l0, rfl, by omega, ⟨HT1.out, HJ.out, oneB_pos _, oneB_length _ (HZ.out l0 (by simp)), oneB_mem _ _ (HZZ.out l0 (by simp))⟩, hb1⟩
    case round =>
      obtain ⟨k, m, rfl, hk, HI, hbr⟩ := hrel
      obtain ⟨htm, hjm, hm1, hm2, hm3⟩ := HI
      have HTM : Hid (Tx wr _ m) := htm
      have HJM : Hid (joinB (l0 :: rest) = joinFrom m (rest.drop k)) := hjm
      have HM3 : Hid (∀ s ∈ m, s.length < 4294967296) := hm3
      obtain ⟨adm, capm, rfl⟩ := htm.form
      clear htm hjm hm3
      by_cases hkl : k < RL
      · obtain ⟨l, hl⟩ : ∃ l, rest[k]? = some l := ⟨_, List.getElem?_eq_getElem (by have := HRL.out; omega)⟩
        obtain ⟨vl, hc, htx⟩ := HC.out (k + 1) l (by simpa using hl)
        have c1 : wr.cell? ⟨g, o + 1 + k, none⟩ = some vl := by
          rw [show o + 1 + k = o + (k + 1) by omega]
          exact (hbr.cell (p := ⟨g, o + (k + 1), none⟩) hg).trans hc
        have HTX : Hid (Tx wr vl l) := htx.below hbr (Nat.le_refl _)
        have hlm := HR.out k l hl
        have hl2 := oneB_length l (HZ.out l hlm)
        have HL3 : Hid _ := oneB_mem l 4294967295 (HZZ.out l hlm)
        have HJS : Hid (joinB (l0 :: rest) = if fitsB (jtB m (oneB l)) then joinFrom (jtB m (oneB l)) (rest.drop (k + 1)) else none) := by
          unfold Hid
          rw [HJM.out, List.drop_eq_getElem_cons (List.getElem?_eq_some_iff.1 hl).1, (List.getElem?_eq_some_iff.1 hl).2]
          rfl
        obtain ⟨adl, capl, rfl⟩ := htx.form
        clear hc htx hl hlm
        go_wp2_with fail
        refine (one_any _ l _ HTX.out).mono ?_
        rintro e w2 ⟨v2, rfl, ht2, hb2⟩
        have HT2 : Hid (Tx w2 v2 (oneB l)) := ht2
        clear ht2
        go_wp2_with fail
        have hbb := hbr.trans (hb2.mono hbr.size)
        have HJT : Hid _ := joinTwo_any _ _ m (oneB l) w2 a (HTM.out.below hb2 (Nat.le_refl _)) HT2.out hm1 (oneB_pos l) hm2 hl2 HM3.out HL3.out (Eb.below HE.out hbb (Eb.pos HE.out))
        cases hbm : bound (jtB m (oneB l)) with
        | none =>
          rw [hbm] at HJT
          have hfn := bound_none hbm
          refine Calls.mono HJT.out ?_
          rintro e w5 ⟨rfl, hb5⟩
          go_wp2_with fail
          go_ret2
          rw [HJS.out, hfn]
          exact ⟨rfl, hbb.trans (hb5.mono hbb.size)⟩
        | some l' =>
          obtain ⟨rfl, hft⟩ := bound_some hbm
          rw [hbm] at HJT
          rw [hft] at HJS
          have h100 := fits_length _ hft
          have hpos : 1 ≤ (jtB m (oneB l)).length := by rw [jt_length]; exact joined_pos _ _ hm1 (oneB_pos l)
          have HF3 : Hid (∀ s ∈ jtB m (oneB l), s.length < 4294967296) := fun s hs => by have := fits_mem _ hft s hs; omega
          refine Calls.mono HJT.out ?_
          rintro e w5 ⟨⟨v5, rfl, ho5⟩, hb5⟩
          have HT5 : Hid (Tx w5 v5 (jtB m (oneB l))) := Tx.owned ho5
          clear ho5 hbm hft
          go_wp2_with fail
          exact ⟨⟨k + 1, jtB m (oneB l), by simp, by omega, ⟨HT5.out, by rw [HJS.out]; rfl, hpos, by omega, HF3.out⟩, hbb.trans (hb5.mono hbb.size)⟩, by simp [intOf]; omega⟩
      · have hkz : k = RL := by omega
        subst hkz
        have hdr : rest.drop k = [] := List.drop_eq_nil_of_le (by have := HRL.out; omega)
        have HJE : Hid (joinB (l0 :: rest) = bound m) := by
          unfold Hid
          rw [HJM.out, hdr]
          rfl
        go_wp2_with fail
        have hba : Below wr.heap.size wr (wr.alloc (.cells #[.slice adm m.length capm] 23)) := (Below.refl _ wr).alloc (Nat.le_refl _) _
        have hbb := hbr.trans (hba.mono hbr.size)
        have HCA : Hid _ := cat_any _ [m] _ a (Tss.one wr _ m HTM.out) (by simp) (fun l hl => by simp at hl; subst hl; exact hm2) (Eb.below HE.out hbb (Eb.pos HE.out))
        rw [gatAll_one] at HCA
        cases hbm : bound m with
        | none =>
          rw [hbm] at HCA HJE
          refine Calls.mono HCA.out ?_
          rintro e w5 ⟨rfl, hb5⟩
          go_wp2_with fail
          go_ret2
          rw [HJE.out]
          exact ⟨rfl, hbb.trans (hb5.mono hbb.size)⟩
        | some l =>
          rw [hbm] at HCA HJE
          refine Calls.mono HCA.out ?_
          rintro e w5 ⟨⟨v5, rfl, ho5⟩, hb5⟩
          have HO5 : Hid _ := ho5
          clear ho5
          go_wp2_with fail
          go_ret2
          rw [HJE.out]
          exact ⟨⟨_, rfl, owns_lowerL HO5.out hbb.size⟩, hbb.trans (hb5.mono hbb.size)⟩

theorem join_any (v : Value) (ls : List (List (List UInt8))) (w : World) (a : Addr) (h : Tss w v ls) (hls : ls.length < 4294967296) (hz : ∀ l ∈ ls, l.length < 4294967296) (hzz : ∀ l ∈ ls, ∀ s ∈ l, s.length < 4294967296) (hE : Eb w a) :
    Calls Tryz.prog 209 #[v] w fun e w' => GotL w.heap.size a (joinB ls) e w' ∧ Below w.heap.size w w' := by
  cases ls with
  | nil => exact join_none v w a h
  | cons l0 rest => exact join_some v l0 rest w a h (by simp at hls; omega) hz hzz hE
end Go.Proofs.YtfafhjglcaikoaaGreatDoor
/-! Esc, Plain, Split, Flat of lists. -/
namespace Go.Proofs.YtfafhjglcaikoaaGreatDoor
open Go.RowKit Go.Shelf
def Ok (l : List (List UInt8)) : Prop := l.length < 4294967296 ∧ ∀ s ∈ l, s.length < 4294967296

theorem sjoin_any (v : Value) (l : List (List UInt8)) (w : World) (h : Tx w v l) (hs : flatSum l ≤ 2001) :
    Calls Tryz.prog 204 #[v, .string ⟨#[32]⟩] w fun e w' => e = .returned (.string ⟨(Lib.join l [32]).toArray⟩) ∧ Below w.heap.size w w' := by
  have hl := flatSum_length l
  by_cases hne : l = []
  · subst hne
    obtain ⟨ad, cap, rfl⟩ := h.form
    exact (Tryz.strings_Join_none ad cap _ w).mono fun e w' ⟨he, hw⟩ => ⟨he, by rw [hw]; exact Below.refl _ _⟩
  · obtain ⟨g, o, cap, rfl, h1, h2, h3⟩ := h.inRow hne
    have e1 : (l.map fun s => (⟨s.toArray⟩ : ByteArray)).map (·.data.toList) = l := by
      rw [List.map_map]
      conv => rhs; rw [← List.map_id l]
      apply List.map_congr_left
      intro x _
      simp
    have hj := join_length l
    have := Tryz.strings_Join g o cap (l.map fun s => ⟨s.toArray⟩) ⟨#[32]⟩ w (fun j x hx => by
      rw [List.getElem?_map] at hx
      cases hp : l[j]? with
      | none => rw [hp] at hx; simp at hx
      | some p =>
        rw [hp] at hx
        cases hx
        exact h3 j p hp) h2 (by simp; omega) (by simpa using h1) (by rw [e1]; show (Lib.join l [32]).length ≤ _; omega)
    rw [e1, List.length_map] at this
    exact this

set_option maxRecDepth 100000 in
set_option maxHeartbeats 2000000 in
theorem flat_any (v : Value) (l : List (List UInt8)) (w : World) (a : Addr) (h : Tx w v l) (hl : Ok l) (hE : Eb w a) :
    Calls Tryz.prog 165 #[v] w fun e w' => GotL w.heap.size a (flatB l) e w' ∧ Below w.heap.size w w' := by
  have HE : Hid (Eb w a) := hE
  have HT : Hid (Tx w v l) := h
  have HL : Hid (∀ s ∈ l, s.length < 4294967296) := hl.2
  have hll := hl.1
  obtain ⟨ad, cap, rfl⟩ := h.form
  clear h hE hl
  go_enter Tryz.func165, Tryz.ntmps165
  go_wp2_with fail
  go_loopw [4, 9] (fun v4 v9 wr => ∃ (k : Nat) (r : Int), v9 = .int .i64 k ∧ k ≤ l.length ∧ v4 = .int .i64 r ∧ Hid (r = 2001 - (flatSum (l.take k) : Int)) ∧ 0 ≤ r ∧ r ≤ 2001 ∧ wr = w) (fun _ v9 _ => l.length - (intOf v9).toNat)
  case atStart => exact ⟨0, 2001, rfl, by omega, rfl, rfl, by omega, by omega, rfl⟩
  case round =>
    obtain ⟨k, r, rfl, hk, rfl, HR, hr0, hr1, hwr⟩ := hrel
    obtain rfl := hwr.symm
    by_cases hkl : k < l.length
    · obtain ⟨s, hs⟩ : ∃ s, l[k]? = some s := ⟨_, List.getElem?_eq_getElem hkl⟩
      obtain ⟨g, o, cap', hv, hcc, hg, hce⟩ := HT.out.inRow (fun e => by rw [e] at hkl; simp at hkl)
      cases hv
      have c0 := hce k s hs
      have hsl := HL.out s (List.mem_of_getElem? hs)
      have hsz : (⟨s.toArray⟩ : ByteArray).size < 4294967296 := by rw [str_size']; exact hsl
      have HSS : Hid _ := flatSum_take l k s hs
      clear hce hs
      by_cases hneg : r - (1 + (s.length : Int)) < 0
      · have HF : Hid (flatB l = none) := by
          unfold Hid flatB
          have h1 := HR.out
          have h2 := HSS.out
          have h3 := flatSum_le l (k + 1)
          rw [if_neg (by omega)]
        have c1 := HE.out.1
        have c1d : w.drew.cell? ⟨1, 0, none⟩ = some (bigV a) := c1
        go_wp2_with fail
        go_region
        all_goals go_wp2_with fail
        all_goals go_ret2
        all_goals rw [HF.out]
        all_goals exact ⟨rfl, (Below.refl _ w).drew⟩
      · go_wp2_with fail
        refine ⟨⟨k + 1, r - (1 + (s.length : Int)), by simp, by omega, by simp, ?_, by omega, by omega, trivial⟩, by simp [intOf]; omega⟩
        have h1 := HR.out
        have h2 := HSS.out
        show r - (1 + (s.length : Int)) = 2001 - (flatSum (l.take (k + 1)) : Int)
        omega
    · have hkz : k = l.length := by omega
      subst hkz
      have h1 := HR.out
      rw [List.take_length] at h1
      have hfs : flatSum l ≤ 2001 := by omega
      have HF : Hid (flatB l = some [Lib.join l [32]]) := by unfold Hid flatB; rw [if_pos hfs]
      have HJ : Hid _ := sjoin_any _ l w HT.out hfs
      clear h1
      go_wp2_with fail
      refine Calls.mono HJ.out ?_
      rintro e w1 ⟨rfl, hb1⟩
      go_wp2_with fail
      go_ret2
      rw [HF.out]
      exact ⟨⟨_, rfl, owns_lowerL (owns_one w1 _) hb1.size⟩, hb1.alloc hb1.size _⟩
end Go.Proofs.YtfafhjglcaikoaaGreatDoor
namespace Go.Proofs.YtfafhjglcaikoaaGreatDoor
open Go.RowKit
attribute [local go_sem] Oper.semAt_some

variable {W W' : World} {K : Nat → Prop} {rb cb sb kb : Nat} {s : Sh} {ea : Nat → Addr} {f : List Nd → Sh → Option Cr} {g : List Nd → Sh → Option Wr}
theorem Ers.eb (h : Ers W ea) : Eb W (ea 1) := h 1 (by omega)
theorem catS_cons {most : Nat} {x : List Nd} {rest : List (List Nd)} {m : List Txt} {r : Wr} (h : catS g most (x :: rest) s m = some r) : ∃ s1 l y, g x s = some (s1, l, y) ∧ (y ≠ .ok → r = (s1, [], y)) ∧
    (y = .ok → fitsB m = true ∧ fitsB l = true ∧ ((fitsB (m ++ l) = false ∧ r = (s1, [], .big)) ∨ (fitsB (m ++ l) = true ∧ most < (m ++ l).length ∧ r = (s1, [], .big)) ∨ (fitsB (m ++ l) = true ∧ ¬ most < (m ++ l).length ∧ catS g most rest s1 (m ++ l) = some r))) := by
  unfold catS at h
  cases hk : g x s with
  | none => simp [hk] at h
  | some q =>
    obtain ⟨s1, l, y⟩ := q
    refine ⟨s1, l, y, rfl, fun hx => ?_, fun hx => ?_⟩
    · cases y <;> first | exact absurd rfl hx | simpa [hk] using h.symm
    · subst hx
      simp only [hk] at h
      split at h
      · rename_i hc
        rw [Bool.and_eq_true] at hc
        refine ⟨hc.1, hc.2, ?_⟩
        split at h
        · rename_i hf
          split at h
          · rename_i hm
            exact .inr (.inl ⟨hf, hm, by simpa using h.symm⟩)
          · rename_i hm
            exact .inr (.inr ⟨hf, hm, h⟩)
        · rename_i hf
          exact .inl ⟨by simpa using hf, by simpa using h.symm⟩
      · cases h
theorem tss_two {v1 v2 : Value} {l1 l2 : List Txt} (h1 : Tx W v1 l1) (h2 : Tx W v2 l2) : Tss (W.alloc (.cells #[v1, v2] 23)) (.slice (some ⟨W.heap.size, 0, none⟩) 2 2) [l1, l2] := by
  have hc := Cel.new W 23 #[v1, v2]
  have hb := below_new W (.cells #[v1, v2] 23)
  refine ⟨W.heap.size, 0, _, 2, rfl, Nat.le_refl _, fun _ => ⟨rfl, hc.lt⟩, fun k l hl => ?_⟩
  have hk := (List.getElem?_eq_some_iff.1 hl).1
  rcases k with _ | _ | k
  · cases hl
    exact ⟨v1, hc.cell 0, h1.below hb (Nat.le_refl _)⟩
  · cases hl
    exact ⟨v2, hc.cell 1, h2.below hb (Nat.le_refl _)⟩
  · simp at hk
    omega
theorem doneW_rb {w2 : World} {K' : Nat → Prop} {s1 : Sh} {u : Value} {l : List Txt} (h : Rn w2 K' rb cb sb kb s1) (hs : Stp W K w2 K') (ho : w2.ownsRow W.heap.size 9 1 u l.length (txV l)) (hu : Off w2 K' u) : DoneW ea W K rb cb sb kb (s1, l, .ok) (.returned (.tuple #[u, .nilIface])) w2 :=
  ⟨u, rfl, ho, K', cb, h, hs, fun _ => rfl, hu⟩
theorem off_own {B : Nat} {e k n : Nat} {v : Value} {xs : List Value} (hr : ∀ i, K i → i < B) (h : W.ownsRow B e k v n xs) : Off W K v := fun b hb => ⟨(h.lt b hb).2, fun hk => by have := hr b hk; have := (h.lt b hb).1; omega⟩
set_option maxRecDepth 100000 in
set_option maxHeartbeats 8000000 in
theorem catR_any (hG : WordC ea g) (most : Nat) (v kv : Value) (B : Nat) (ks : List (List Nd)) (r : Wr) (hE : Ers W ea) (h : Rn W K rb cb sb kb s) (hK : Kds W B v kv ks) (hov : Off W K v) (hok : Off W K kv) (hks : ks.length < 4294967296) (hr : catS g most ks s [] = some r) :
    Calls Tryz.prog 108 #[rP rb, .int .i64 most, kv] W (DoneW ea W K rb cb sb kb r) := by
  have HE : Hid (∀ w1 K1, Stp W K w1 K1 → Ers w1 ea) := fun w1 K1 q => hE.stp h q
  have HK : Hid (∀ w1 K1, Stp W K w1 K1 → Kds w1 B v kv ks ∧ Off w1 K1 v) := fun w1 K1 q => ⟨hK.turn q.1 (fun b hb => (hov b hb).2) (fun b hb => (hok b hb).2), hov.stp q⟩
  have HR0 : Hid (Rn W K rb cb sb kb s) := h
  have HCS : Hid (catS g most ks s [] = some r) := hr
  have HG : Hid (WordC ea g) := hG
  obtain ⟨ad, cap, rfl⟩ := hK.form
  clear h hE hK hov hok hr hG
  go_enter Tryz.func108, Tryz.ntmps108
  go_wp2_with fail
  go_loopw [8, 15] (fun v8 v15 wr => ∃ (k : Nat) (sk : Sh) (m : List Txt) (Kk : Nat → Prop), v15 = .int .i64 k ∧ k ≤ ks.length ∧ Hid (catS g most (ks.drop k) sk m = some r) ∧ Hid (Rn wr Kk rb cb sb kb sk) ∧ Hid (Stp W K wr Kk) ∧ Hid (wr.ownsRow W.heap.size 9 1 v8 m.length (txV m)) ∧ Hid (Off wr Kk v8)) (fun _ v15 _ => ks.length - (intOf v15).toNat)
  case atStart => exact ⟨0, s, [], K, rfl, by omega, by rw [List.drop_zero]; exact HCS, HR0, Stp.refl W K, World.ownsRow_nil _ _ _ _, off_nil _ _⟩
  case round =>
    obtain ⟨k, sk, m, Kk, rfl, hk, HC, HR, HS, HO, HV⟩ := hrel
    by_cases hkl : k < ks.length
    · obtain ⟨x, hx⟩ : ∃ x, ks[k]? = some x := ⟨_, List.getElem?_eq_getElem hkl⟩
      have hdr : ks.drop k = x :: ks.drop (k + 1) := by
        obtain ⟨h1, h2⟩ := List.getElem?_eq_some_iff.1 hx
        rw [List.drop_eq_getElem_cons h1, h2]
      have hc := HC.out
      rw [hdr] at hc
      obtain ⟨s1, l, y, hg, hno, hyes⟩ := catS_cons hc
      obtain ⟨hkd, hvo⟩ := HK.out _ _ HS.out
      obtain ⟨gb, cp, pv, hv, hgl, hcell, hnd, hpo⟩ := hkd.at hx
      cases hv
      have hw := HG.out wr Kk rb cb sb kb sk pv x (s1, l, y) (HE.out _ _ HS.out) HR.out hnd (fun b hb => hvo b (hpo b hb)) hg
      have HW : Hid (Calls Tryz.prog 114 #[rP rb, pv] wr (DoneW ea wr Kk rb cb sb kb (s1, l, y))) := hw
      obtain ⟨pa, pc, rfl⟩ := hnd.form
      have HNO : Hid _ := hno
      have HYES : Hid _ := hyes
      clear hw hnd hkd hvo hpo hg hc hdr hx hno hyes
      go_wp2_with fail
      refine Calls.mono HW.out ?_
      rintro e w1 ⟨u, rfl, hu, K1, cb1, hr1, hs1, hcb1, huo⟩
      rcases xr_cases ea y with ⟨hy1, hy2⟩ | ⟨hy1, a, hy2⟩
      case inr =>
        have HB : Hid _ := (Rb.pre HS.out ⟨K1, cb1, hr1, hs1, hcb1⟩ : Rb W K rb cb sb kb s1 y w1)
        obtain rfl := HNO.out hy1
        obtain ⟨ua, uc, rfl⟩ := (tx_own hu).form
        clear hu hr1 hs1 hcb1 huo HW HNO HYES HC HR HS HO HV
        simp only [hy2]
        go_wp2_with fail
        go_ret2
        have := doneW_err (ea := ea) hy1 HB.out
        rw [hy2] at this
        exact this
      obtain rfl := hcb1 hy1
      obtain ⟨hfm, hfl, hyy⟩ := HYES.out hy1
      have hs01 := Stp.trans HS.out hs1
      have htm : Tx w1 u8 m := Off.tx HV.out (tx_own HO.out) hs1
      have HCAT : Hid _ := cat_any (.slice (some ⟨w1.heap.size, 0, none⟩) 2 2) [m, l] (w1.alloc (.cells #[u8, u] 23)) (ea 1) (tss_two htm (tx_own hu)) (by simp) (fun q hq => by
        have h1 := ((fitsB_iff m).1 hfm).1
        have h2 := ((fitsB_iff l).1 hfl).1
        simp at hq
        rcases hq with rfl | rfl <;> omega) ((HE.out _ _ hs01).eb.below (below_new _ _) (HE.out _ _ hs01).eb.pos)
      rw [show gatAll id [m, l] = m ++ l by simp [gatAll]] at HCAT
      have HB1 : Hid (∀ w2, Below (w1.alloc (.cells #[u8, u] 23)).heap.size (w1.alloc (.cells #[u8, u] 23)) w2 → Below w1.heap.size w1 w2) := fun w2 q => (below_new w1 _).trans (q.mono (below_new w1 _).size)
      have HR1 : Hid (Rn w1 K1 rb cb1 sb kb s1) := hr1
      have HS1 : Hid (Stp W K w1 K1) := hs01
      obtain ⟨ua, uc, rfl⟩ := (tx_own hu).form
      obtain ⟨ma, mc, rfl⟩ := (tx_own HO.out).form
      have HHY : Hid _ := hyy
      have HFM : Hid (fitsB m = true ∧ fitsB l = true) := ⟨hfm, hfl⟩
      clear hu hr1 hs1 hcb1 huo HW HNO HYES HC HR HS HO HV hyy hs01 htm hfm hfl
      simp only [hy2]
      go_wp2_with fail
      refine Calls.mono HCAT.out ?_
      rintro e w2 ⟨hgot, hb2⟩
      have hb12 := HB1.out _ hb2
      have hr2 := Rn.below HR1.out hb12
      have hs2 := Stp.trans HS1.out (Stp.ofBelow hb12)
      rcases HHY.out with ⟨hf, rfl⟩ | ⟨hf, hmo, rfl⟩ | ⟨hf, hmo, hrest⟩
      · rw [show bound (m ++ l) = none by simp [bound, hf]] at hgot
        obtain rfl : e = .returned (.tuple #[.slice none 0 0, bigV (ea 1)]) := hgot
        have HB : Hid (Rb W K rb cb1 sb kb s1 .big w2) := Rb.of hr2 hs2
        clear hb2 hb12 hr2 hs2 HCAT HHY
        go_wp2_with fail
        go_ret2
        exact doneW_err (ea := ea) (by simp) HB.out
      · rw [show bound (m ++ l) = some (m ++ l) by simp [bound, hf]] at hgot
        obtain ⟨v9, rfl, ho9⟩ := hgot
        obtain ⟨a9, c9, rfl⟩ := owns_slice ho9
        have hmo' : decide ((most : Int) < ((m ++ l).length : Nat)) = true := by simp only [decide_eq_true_eq]; omega
        have hl9 : (m ++ l).length ≤ 100 := ((fitsB_iff _).1 hf).1
        have g1 := (HE.out _ _ hs2 1 (by omega)).1
        have HB : Hid (∀ n, Rb W K rb cb1 sb kb s1 .big (w2.drewN n)) := fun n => Rb.post (Rb.of hr2 hs2) (below_drewN _ _)
        generalize (m ++ l).length = n9 at *
        clear ho9 hb2 hb12 hr2 hs2 HCAT HHY
        go_wp2_with fail
        go_quiet (fail)
        go_wp2_with fail
        go_ret2
        exact doneW_err (ea := ea) (by simp) (HB.out _)
      · rw [show bound (m ++ l) = some (m ++ l) by simp [bound, hf]] at hgot
        obtain ⟨v9, rfl, ho9⟩ := hgot
        have hlow : w2.ownsRow W.heap.size 9 1 v9 (m ++ l).length (txV (m ++ l)) := owns_lower ho9 (Nat.le_trans HS1.out.1.size (below_new w1 _).size)
        have hoff : Off w2 K1 v9 := off_own (fun i hi => Nat.lt_of_lt_of_le (Rn.lt HR1.out i hi) (below_new w1 _).size) ho9
        obtain ⟨a9, c9, rfl⟩ := owns_slice ho9
        have hmo' : decide ((most : Int) < ((m ++ l).length : Nat)) = false := by simp only [decide_eq_false_iff_not]; omega
        have hl9 : (m ++ l).length ≤ 100 := ((fitsB_iff _).1 hf).1
        have HR2 : Hid _ := hr2
        have HS2 : Hid _ := hs2
        have HO2 : Hid _ := hlow
        have HV2 : Hid _ := hoff
        have HC2 : Hid _ := hrest
        clear ho9 hb2 hb12 hr2 hs2 HCAT HHY hlow hoff hrest hf
        obtain ⟨n9, hn9⟩ : ∃ n9, (m ++ l).length = n9 := ⟨_, rfl⟩
        have HN9 : Hid ((m ++ l).length = n9) := hn9
        rw [hn9] at hmo hmo' hl9 HO2 HV2 ⊢
        clear hn9
        go_wp2_with fail
        refine ⟨⟨k + 1, s1, m ++ l, K1, by simp, by omega, HC2, HR2, HS2, ?_, HV2⟩, by simp [intOf]; omega⟩
        rw [HN9.out]
        exact HO2
    · have hkz : k = ks.length := by omega
      subst hkz
      have hc := HC.out
      rw [List.drop_length] at hc
      obtain rfl : (sk, m, .ok) = r := by simpa [catS] using hc
      obtain ⟨ma, mc, rfl⟩ := (tx_own HO.out).form
      clear hc HC HCS
      go_wp2_with fail
      go_ret2
      exact doneW_rb HR.out HS.out HO.out HV.out
end Go.Proofs.YtfafhjglcaikoaaGreatDoor

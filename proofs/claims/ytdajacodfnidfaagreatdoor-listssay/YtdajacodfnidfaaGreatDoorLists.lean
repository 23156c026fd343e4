/- Lists within their bounds: Fits, add. -/
import Derived.Test.YtdajacodfnidfaaGreatDoorFiles
import Derived.Test.YtdajacodfnidfaaGreatDoorShelf3
import Derived.Test.YtdajacodfnidfaaGreatDoorListPlain
import Derived.Laws.AppendOwnNone
namespace Go.Proofs.YtdajacodfnidfaaGreatDoor
open Go.RowKit Go.Shelf

/-- The error, and that it lies where it should. -/
abbrev bigV (a : Addr) : Value := .iface 179 (.pointer (some a))
def Eb (w : World) (a : Addr) : Prop := w.cell? ⟨0, 0, none⟩ = some (bigV a) ∧ 0 < w.heap.size
theorem Eb.below {w w' : World} {a : Addr} {B : Nat} (h : Eb w a) (hb : Below B w w') (hB : 1 ≤ B) : Eb w' a :=
  ⟨(hb.cell (p := ⟨0, 0, none⟩) (by show 0 < B; omega)).trans h.1, Nat.lt_of_lt_of_le h.2 hb.size⟩
theorem Eb.pos {w : World} {a : Addr} (h : Eb w a) : 1 ≤ w.heap.size := h.2

/-- One text, new. -/
theorem Tx.one (W : World) (s : List UInt8) : Tx (W.alloc (.cells #[.string ⟨s.toArray⟩] 9)) (.slice (some ⟨W.heap.size, 0, none⟩) 1 1) [s] := by
  refine .inr ⟨⟨W.heap.size, 0, none⟩, 1, rfl, Nat.le_refl _, fun _ => ⟨W.heap.size, 0, rfl, by simp, fun k p hp => ?_⟩⟩
  have hc := (Cel.new W 9 #[.string ⟨s.toArray⟩]).cell k
  rw [Nat.zero_add, hc]
  cases k with
  | zero => simp at hp; subst hp; rfl
  | succ k => simp at hp

theorem tooLong_at (w : World) : PredAt Tryz.prog 54 #[] (fun l : List UInt8 => Value.string ⟨l.toArray⟩) (fun l => decide (2000 < l.length)) w := by
  intro W x _
  unfold FnGives
  have hsz := str_size' x
  go_enter Tryz.func54, Tryz.ntmps54
  go_wp2
  go_ret
  exact ⟨ret_bool (decide_eq_decide.2 (by omega)), 0, rfl⟩

/-- Is one too long? -/
def longB (ns : List (List UInt8)) : Bool := ns.any fun s => decide (2000 < s.length)
theorem fits_long (ns : List (List UInt8)) (h : ns.length ≤ 100) : longB ns = !fitsB ns := by
  cases e : fitsB ns
  · cases e2 : longB ns
    · exfalso
      have : fitsB ns = true := by
        rw [fitsB_iff]
        refine ⟨h, fun s hs => ?_⟩
        unfold longB at e2
        rw [List.any_eq_false] at e2
        have := e2 s hs
        simp at this
        exact this
      rw [this] at e
      cases e
    · rfl
  · have h2 := (fitsB_iff ns).1 e
    show longB ns = false
    unfold longB
    rw [List.any_eq_false]
    intro s hs
    have := h2.2 s hs
    simp
    omega

theorem long_any (v : Value) (ns : List (List UInt8)) (w : World) (h : Tx w v ns) (hl : ns.length < 4294967296) :
    Calls Tryz.prog 53 #[v, .func (.func 54) #[] #[]] w fun e w' => e = .returned (.bool (longB ns)) ∧ Below w.heap.size w w' := by
  by_cases hne : ns = []
  · subst hne
    obtain ⟨ad, cap, rfl⟩ := h.form
    exact (Tryz.slices_ContainsFunc_empty (α := List UInt8) ad cap _ w).mono fun e w' ⟨he, hw⟩ => ⟨he, by rw [hw]; exact Below.refl _ _⟩
  · obtain ⟨g, o, cap, rfl, h1, h2, h3⟩ := h.inRow hne
    refine (Tryz.slices_ContainsFunc (fun l : List UInt8 => Value.string ⟨l.toArray⟩) (fun l => decide (2000 < l.length)) 54 #[] (enters_of Tryz.func54 (by kernel_rfl) rfl) g o ns.length cap ns w (tooLong_at w) (Nat.le_refl _) (by omega) ?_).mono ?_
    · intro j hj
      rw [getElem!_pos ns j hj]
      exact h3 j _ (List.getElem?_eq_getElem hj)
    · rintro e w' ⟨rfl, q, rfl⟩
      refine ⟨?_, below_drewN' (Below.refl _ w) q⟩
      rw [List.take_length]
      rfl

set_option maxHeartbeats 1000000 in
theorem fits_yes (v : Value) (ns : List (List UInt8)) (w : World) (h : Tx w v ns) (hf : fitsB ns = true) :
    Calls Tryz.prog 27 #[v] w fun e w' => e = .returned .nilIface ∧ Below w.heap.size w w' := by
  have hl := fits_length ns hf
  have hlo : longB ns = false := by rw [fits_long ns hl, hf]; rfl
  have HL : Hid _ := hlo
  have HT : Hid (Tx w v ns) := h
  obtain ⟨_, _, ad, cap, rfl, _, _, _⟩ := h.texts
  clear h hlo hf
  go_enter Tryz.func27, Tryz.ntmps27
  go_wp2_with fail
  refine (long_any _ ns _ HT.out (by omega)).mono ?_
  rintro e w1 ⟨rfl, hb1⟩
  rw [HL.out]
  go_wp2_with fail
  go_ret
  exact ⟨rfl, hb1⟩

set_option maxHeartbeats 1000000 in
theorem fits_no (v : Value) (ns : List (List UInt8)) (w : World) (a : Addr) (h : Tx w v ns) (hl : ns.length < 4294967296) (hf : fitsB ns = false) (hE : Eb w a) :
    Calls Tryz.prog 27 #[v] w fun e w' => e = .returned (bigV a) ∧ Below w.heap.size w w' := by
  have HE : Hid (Eb w a) := hE
  have HF : Hid _ := hf
  have HT : Hid (Tx w v ns) := h
  obtain ⟨_, _, ad, cap, rfl, _, _, _⟩ := h.texts
  clear h hE hf
  by_cases h100 : ns.length > 100
  · have c0 := HE.out.1
    go_enter Tryz.func27, Tryz.ntmps27
    go_wp2_with fail
    go_ret
    exact ⟨rfl, Below.refl _ _⟩
  · have HL : Hid (longB ns = true) := by unfold Hid; rw [fits_long ns (by omega), HF.out]; rfl
    go_enter Tryz.func27, Tryz.ntmps27
    go_wp2_with fail
    refine (long_any _ ns _ HT.out (by omega)).mono ?_
    rintro e w1 ⟨rfl, hb1⟩
    rw [HL.out]
    have c0 := (Eb.below HE.out hb1 (Eb.pos HE.out)).1
    go_wp2_with fail
    go_ret
    exact ⟨rfl, hb1⟩

theorem own_form {W : World} {B : Nat} {v : Value} {ps : List (List UInt8)} (h : W.ownsRow B 9 1 v ps.length (txV ps)) : ∃ ad cap, v = .slice ad ps.length cap := by
  rcases h.2 with ⟨hv, h0⟩ | ⟨g, cap, cur, hv, _⟩
  · exact ⟨none, 0, by rw [hv, h0]⟩
  · exact ⟨_, cap, hv⟩
theorem txV_append (U I : List (List UInt8)) : txV (U ++ I) = txV U ++ txV I := by simp only [txV, List.map_append]
theorem txV_length (U : List (List UInt8)) : (txV U).length = U.length := by simp [txV]
theorem txV_one (U : List (List UInt8)) : ∀ u ∈ txV U, u.oneCell' = true := by
  intro u hu
  obtain ⟨p, _, rfl⟩ := List.mem_map.1 hu
  rfl
theorem grown_own {w w1 w' : World} {B : Nat} {v : Value} {n : Nat} {xs : List Value} (hB : B ≤ w1.heap.size) (hb : Below B w w1) (ho : w1.ownsRow B 9 1 v n xs) (hg : w1.grownBy w' v.ownBlock) : Below B w w' := by
  refine hb.grown hg hB fun q ej => ?_
  rcases ho.2 with ⟨rfl, _⟩ | ⟨g5, cap5, cur5, rfl, hb5, _, _⟩
  · simp [Value.ownBlock] at ej
  · obtain rfl : g5 = q := by simpa [Value.ownBlock] using ej
    exact hb5

theorem Tx.cells {W : World} {ad : Addr} {n cap : Nat} {I : List (List UInt8)} (h : Tx W (.slice (some ad) n cap) I) : ∀ j u, (txV I)[j]? = some u → W.cell? (ad.add j) = some u := by
  intro j u hu
  unfold txV at hu
  rw [List.getElem?_map] at hu
  cases hp : I[j]? with
  | none => rw [hp] at hu; simp at hu
  | some p =>
    rw [hp] at hu
    cases hu
    obtain ⟨g, o, cap', h1, _, _, h3⟩ := h.inRow (fun e => by rw [e] at hp; simp at hp)
    cases h1
    rw [Addr.add_lit]
    exact h3 j p hp

set_option maxRecDepth 100000 in
set_option maxHeartbeats 2000000 in
theorem add_yes (B : Nat) (v vi : Value) (U I : List (List UInt8)) (w : World) (hB : B ≤ w.heap.size) (ho : w.ownsRow B 9 1 v U.length (txV U)) (hi : Tx w vi I) (hU : fitsB U = true) (hf : fitsB (U ++ I) = true) :
    Calls Tryz.prog 55 #[v, vi] w fun e w' => ∃ v', e = .returned (.tuple #[v', .nilIface]) ∧ w'.ownsRow B 9 1 v' (U ++ I).length (txV (U ++ I)) ∧ Below B w w' := by
  obtain ⟨i0, hi0, hz0, hz1, hz2⟩ := info_parts info9
  have hq := (fits_app_iff U I hU).1 hf
  have hUl := fits_length U hU
  have hIl := fits_length I hq.2
  have hle : ¬ (I.length : Int) > 100 - (U.length : Int) := by have := hq.1; omega
  have HF : Hid _ := hq.2
  clear hq hf hU
  obtain ⟨ad, cap, rfl⟩ := own_form ho
  have HO : Hid _ := ho
  have HT : Hid (Tx w vi I) := hi
  rcases hi with ⟨rfl, rfl⟩ | ⟨adi, capi, rfl, h1, h2⟩
  · clear ho
    go_enter Tryz.func55, Tryz.ntmps55
    go_wp2_with fail
    refine (fits_yes _ [] _ HT.out HF.out).mono ?_
    rintro e w1 ⟨rfl, hb1⟩
    have ho1 := owns_after HO.out hb1
    go_wp2_with (at_builtin; refine wpList_append_own_none rfl _ _ 23 rfl B 9 i0 1 Tryz.underlying23 hi0 _ _ _ rfl ho1 rfl ?_)
    go_ret2
    refine ⟨_, rfl, ?_, hb1.mono hB⟩
    rw [List.append_nil]
    exact ho1
  · clear ho h2
    go_enter Tryz.func55, Tryz.ntmps55
    go_wp2_with fail
    refine (fits_yes _ I _ HT.out HF.out).mono ?_
    rintro e w1 ⟨rfl, hb1⟩
    have ho1 := owns_after HO.out hb1
    have hB1 : B ≤ w1.heap.size := Nat.le_trans hB hb1.size
    have hc1 := Tx.cells (Tx.below HT.out hb1 (Nat.le_refl _))
    go_wp2_with (at_builtin; refine wpList_append_own _ rfl _ _ 23 rfl B 9 i0 (.string ⟨#[]⟩) 1 16 Tryz.underlying23 hi0 hz0 hz1 hz2 rfl (by decide) _ _ _ rfl ho1 adi I.length capi (txV I) rfl (by rw [txV_length]; omega) hc1 (txV_one I) (by have := maxLen_big; omega) (by omega) hB1 ?_; intro v' w5 hown' hgrow _)
    go_ret2
    refine ⟨_, rfl, ?_, grown_own hB1 (hb1.mono hB) ho1 hgrow⟩
    rw [txV_append, List.length_append]
    exact hown'

set_option maxRecDepth 100000 in
set_option maxHeartbeats 2000000 in
theorem add_no (v vi : Value) (U I : List (List UInt8)) (w : World) (a : Addr) (hv : ∃ ad cap, v = .slice ad U.length cap) (hi : Tx w vi I) (hIl : I.length < 4294967296) (hU : fitsB U = true) (hf : fitsB (U ++ I) = false) (hE : Eb w a) :
    Calls Tryz.prog 55 #[v, vi] w fun e w' => e = .returned (.tuple #[.slice none 0 0, bigV a]) ∧ Below w.heap.size w w' := by
  have hq := fits_app_iff U I hU
  have hUl := fits_length U hU
  obtain ⟨ad, cap, rfl⟩ := hv
  have HT : Hid (Tx w vi I) := hi
  have HE : Hid (Eb w a) := hE
  obtain ⟨_, _, adi, capi, rfl, _, _, _⟩ := hi.texts
  have HQ : Hid (¬ (I.length ≤ 100 - U.length ∧ fitsB I = true)) := by
    unfold Hid
    rw [← hq, hf]
    simp
  clear hi hE hq hf hU
  by_cases hle : (I.length : Int) > 100 - (U.length : Int)
  · have c0 := HE.out.1
    have c0d : w.drew.cell? ⟨0, 0, none⟩ = some (bigV a) := c0
    go_enter Tryz.func55, Tryz.ntmps55
    go_wp2_with fail
    go_region
    all_goals go_wp2_with fail
    all_goals go_ret2
    all_goals exact ⟨rfl, (Below.refl _ w).drew⟩
  · have HF : Hid (fitsB I = false) := by
      unfold Hid
      cases e : fitsB I
      · rfl
      · exact absurd ⟨by omega, e⟩ HQ.out
    go_enter Tryz.func55, Tryz.ntmps55
    go_wp2_with fail
    refine (fits_no _ I _ a HT.out hIl HF.out HE.out).mono ?_
    rintro e w1 ⟨rfl, hb1⟩
    have c0 := (Eb.below HE.out hb1 (Eb.pos HE.out)).1
    have c0d : w1.drew.cell? ⟨0, 0, none⟩ = some (bigV a) := c0
    go_wp2_with fail
    go_region
    all_goals go_wp2_with fail
    all_goals go_ret2
    all_goals exact ⟨rfl, hb1.drew⟩
end Go.Proofs.YtdajacodfnidfaaGreatDoor

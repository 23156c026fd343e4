/-
  DERIVED: THE SHELF's CONTRACTS AT THIS DUMP, IN PLAIN WORDS (tools/lay-plain.mjs out of 'YtfafhjglcaikoaaGreatDoorBShelf.lean', which tools/lay-shelf.mjs wrote): THE SAME DECLARATIONS UNDER THE SAME NAMES: 'import', 'namespace', 'open', 'def', 'theorem' AND NOTHING ELSE: no command of the shelf's: FOR A HAND-IN. Each laying: the table of numbers ('.._ren') and one theorem, a field a fact of the dump's own or the kernel's comparison; each contract: ONE APPLICATION.
-/
import Derived.Test.YtfafhjglcaikoaaGreatDoorH7
import Derived.Test.YtfafhjglcaikoaaGreatDoorH2
import Derived.Test.YtfafhjglcaikoaaGreatDoorH12
import Derived.Shelf.Strconv.Itoa3
import Derived.Test.YtfafhjglcaikoaaGreatDoorProg
import Derived.Test.YtfafhjglcaikoaaGreatDoorH1
import Derived.Test.YtfafhjglcaikoaaGreatDoorH5
import Derived.Laws.AppendOwnNone
import Derived.Shelf.Strings.Search1
import Derived.Ground.NamesProg
/-! Plain facts on lists of texts within their bounds. -/
namespace Go.Proofs.YtfafhjglcaikoaaGreatDoor

/-- Not too big? -/
def fitsB (l : List (List UInt8)) : Bool := decide (l.length ≤ 100) && l.all fun s => decide (s.length ≤ 2000)
theorem fitsB_iff (l : List (List UInt8)) : fitsB l = true ↔ l.length ≤ 100 ∧ ∀ s ∈ l, s.length ≤ 2000 := by
  simp [fitsB]
theorem fits_nil : fitsB [] = true := rfl
theorem fits_app_iff (U I : List (List UInt8)) (hU : fitsB U = true) : fitsB (U ++ I) = true ↔ I.length ≤ 100 - U.length ∧ fitsB I = true := by
  rw [fitsB_iff] at *
  rw [fitsB_iff]
  constructor
  · rintro ⟨h1, h2⟩
    rw [List.length_append] at h1
    exact ⟨by omega, by omega, fun s hs => h2 s (List.mem_append_right _ hs)⟩
  · rintro ⟨h1, h2, h3⟩
    refine ⟨by rw [List.length_append]; omega, fun s hs => ?_⟩
    rcases List.mem_append.1 hs with h | h
    · exact hU.2 s h
    · exact h3 s h
theorem fits_left (U I : List (List UInt8)) (h : fitsB (U ++ I) = true) : fitsB U = true := by
  rw [fitsB_iff] at *
  rw [List.length_append] at h
  exact ⟨by omega, fun s hs => h.2 s (List.mem_append_left _ hs)⟩
theorem fits_length (U : List (List UInt8)) (h : fitsB U = true) : U.length ≤ 100 := ((fitsB_iff U).1 h).1
theorem fits_mem (U : List (List UInt8)) (h : fitsB U = true) (s : List UInt8) (hs : s ∈ U) : s.length ≤ 2000 := ((fitsB_iff U).1 h).2 s hs
theorem fits_take (l : List (List UInt8)) (k : Nat) (h : fitsB (l.take k) = false) : fitsB l = false := by
  cases e : fitsB l
  · rfl
  · have h2 : fitsB (l.take k ++ l.drop k) = true := by rw [List.take_append_drop]; exact e
    rw [fits_left _ _ h2] at h
    cases h

/-- What each of the first k becomes, one behind the other. -/
def gat {α : Type} (f : α → List (List UInt8)) (l : List α) (k : Nat) : List (List UInt8) := ((l.take k).map f).flatten
def gatAll {α : Type} (f : α → List (List UInt8)) (l : List α) : List (List UInt8) := (l.map f).flatten
theorem gat_zero {α : Type} (f : α → List (List UInt8)) (l : List α) : gat f l 0 = [] := by simp [gat]
theorem gat_succ {α : Type} (f : α → List (List UInt8)) (l : List α) (k : Nat) (x : α) (h : l[k]? = some x) : gat f l (k + 1) = gat f l k ++ f x := by
  unfold gat
  rw [List.take_add_one, h]
  simp
theorem gat_all {α : Type} (f : α → List (List UInt8)) (l : List α) : gat f l l.length = gatAll f l := by
  unfold gat gatAll
  rw [List.take_length]
theorem gat_fits {α : Type} (f : α → List (List UInt8)) (l : List α) (k : Nat) (h : fitsB (gat f l k) = false) : fitsB (gatAll f l) = false := by
  cases e : fitsB (gatAll f l)
  · rfl
  · have h2 : fitsB (gat f l k ++ ((l.drop k).map f).flatten) = true := by
      have h3 : gatAll f l = gat f l k ++ ((l.drop k).map f).flatten := by
        unfold gatAll gat
        rw [← List.flatten_append, ← List.map_append, List.take_append_drop]
      rw [← h3]
      exact e
    rw [fits_left _ _ h2] at h
    cases h

/-- One item at least. -/
def oneB (l : List (List UInt8)) : List (List UInt8) := if l.length = 0 then [[]] else l
theorem oneB_pos (l : List (List UInt8)) : 1 ≤ (oneB l).length := by
  unfold oneB
  split
  · simp
  · omega
/-- The i-th; the only one at every i. -/
def atB (l : List (List UInt8)) (i : Nat) : List UInt8 := if l.length = 1 then l.getD 0 [] else l.getD i []
def joinedN (a b : Nat) : Nat := if a = 1 ∨ b = 1 then max a b else min a b
def jtB (a b : List (List UInt8)) : List (List UInt8) := (List.range (joinedN a.length b.length)).map fun i => atB a i ++ atB b i
theorem jt_length (a b : List (List UInt8)) : (jtB a b).length = joinedN a.length b.length := by simp [jtB]
theorem jt_take (a b : List (List UInt8)) (k : Nat) (h : k < joinedN a.length b.length) : (jtB a b).take (k + 1) = (jtB a b).take k ++ [atB a k ++ atB b k] := by
  rw [List.take_add_one]
  congr 1
  unfold jtB
  rw [List.getElem?_map, List.getElem?_range h]
  rfl
theorem joined_le (a b : Nat) : joinedN a b ≤ max a b := by
  unfold joinedN
  split <;> omega
theorem joined_at (a b k : Nat) (h : k < joinedN a b) (_ha : 1 ≤ a) : a = 1 ∨ k < a := by
  unfold joinedN at h
  split at h <;> omega
theorem joined_at' (a b k : Nat) (h : k < joinedN a b) (_hb : 1 ≤ b) : b = 1 ∨ k < b := by
  unfold joinedN at h
  split at h <;> omega
/-- Joined from the left, or too big. -/
def joinFrom (m : List (List UInt8)) : List (List (List UInt8)) → Option (List (List UInt8))
  | [] => if fitsB m then some m else none
  | l :: ls => if fitsB (jtB m (oneB l)) then joinFrom (jtB m (oneB l)) ls else none
def joinB : List (List (List UInt8)) → Option (List (List UInt8))
  | [] => some [[]]
  | l :: ls => joinFrom (oneB l) ls
end Go.Proofs.YtfafhjglcaikoaaGreatDoor
/-! Lists within their bounds: Fits, add. -/
namespace Go.Proofs.YtfafhjglcaikoaaGreatDoor
open Go.RowKit Go.Shelf

/-- The error, and that it lies where it should. -/
abbrev bigV (a : Addr) : Value := .iface 368 (.pointer (some a))
def Eb (w : World) (a : Addr) : Prop := w.cell? ⟨1, 0, none⟩ = some (bigV a) ∧ 1 < w.heap.size
theorem Eb.below {w w' : World} {a : Addr} {B : Nat} (h : Eb w a) (hb : Below B w w') (hB : 2 ≤ B) : Eb w' a :=
  ⟨(hb.cell (p := ⟨1, 0, none⟩) (by show 1 < B; omega)).trans h.1, Nat.lt_of_lt_of_le h.2 hb.size⟩
theorem Eb.pos {w : World} {a : Addr} (h : Eb w a) : 2 ≤ w.heap.size := h.2

/-- One text, new. -/
theorem Tx.one (W : World) (s : List UInt8) : Tx (W.alloc (.cells #[.string ⟨s.toArray⟩] 9)) (.slice (some ⟨W.heap.size, 0, none⟩) 1 1) [s] := by
  refine .inr ⟨⟨W.heap.size, 0, none⟩, 1, rfl, Nat.le_refl _, fun _ => ⟨W.heap.size, 0, rfl, by simp, fun k p hp => ?_⟩⟩
  have hc := (Cel.new W 9 #[.string ⟨s.toArray⟩]).cell k
  rw [Nat.zero_add, hc]
  cases k with
  | zero => simp at hp; subst hp; rfl
  | succ k => simp at hp

theorem tooLong_atL (w : World) : PredAt Tryz.prog 145 #[] (fun l : List UInt8 => Value.string ⟨l.toArray⟩) (fun l => decide (2000 < l.length)) w := by
  intro W x _
  unfold FnGives
  have hsz := str_size' x
  go_enter Tryz.func145, Tryz.ntmps145
  go_wp2
  go_ret
  exact ⟨ret_bool (decide_eq_decide.2 (by omega)), 0, rfl⟩

/-- Is one too long? -/
def longB (ns : List (List UInt8)) : Bool := ns.any fun s => decide (2000 < s.length)
theorem fits_long (ns : List (List UInt8)) (h : ns.length ≤ 100) : longB ns = !fitsB ns := by
  cases e : fitsB ns
  · cases e2 : longB ns
    · exfalso
      have : fitsB ns = true := by
        rw [fitsB_iff]
        refine ⟨h, fun s hs => ?_⟩
        unfold longB at e2
        rw [List.any_eq_false] at e2
        have := e2 s hs
        simp at this
        exact this
      rw [this] at e
      cases e
    · rfl
  · have h2 := (fitsB_iff ns).1 e
    show longB ns = false
    unfold longB
    rw [List.any_eq_false]
    intro s hs
    have := h2.2 s hs
    simp
    omega

theorem long_any (v : Value) (ns : List (List UInt8)) (w : World) (h : Tx w v ns) (hl : ns.length < 4294967296) :
    Calls Tryz.prog 144 #[v, .func (.func 145) #[] #[]] w fun e w' => e = .returned (.bool (longB ns)) ∧ Below w.heap.size w w' := by
  by_cases hne : ns = []
  · subst hne
    obtain ⟨ad, cap, rfl⟩ := h.form
    exact (Tryz.slices_ContainsFunc_empty (α := List UInt8) ad cap _ w).mono fun e w' ⟨he, hw⟩ => ⟨he, by rw [hw]; exact Below.refl _ _⟩
  · obtain ⟨g, o, cap, rfl, h1, h2, h3⟩ := h.inRow hne
    refine (Tryz.slices_ContainsFunc (fun l : List UInt8 => Value.string ⟨l.toArray⟩) (fun l => decide (2000 < l.length)) 145 #[] (enters_of Tryz.func145 (by kernel_rfl) rfl) g o ns.length cap ns w (tooLong_atL w) (Nat.le_refl _) (by omega) ?_).mono ?_
    · intro j hj
      rw [getElem!_pos ns j hj]
      exact h3 j _ (List.getElem?_eq_getElem hj)
    · rintro e w' ⟨rfl, q, rfl⟩
      refine ⟨?_, below_drewN' (Below.refl _ w) q⟩
      rw [List.take_length]
      rfl

set_option maxHeartbeats 1000000 in
theorem fits_yes (v : Value) (ns : List (List UInt8)) (w : World) (h : Tx w v ns) (hf : fitsB ns = true) :
    Calls Tryz.prog 101 #[v] w fun e w' => e = .returned .nilIface ∧ Below w.heap.size w w' := by
  have hl := fits_length ns hf
  have hlo : longB ns = false := by rw [fits_long ns hl, hf]; rfl
  have HL : Hid _ := hlo
  have HT : Hid (Tx w v ns) := h
  obtain ⟨_, _, ad, cap, rfl, _, _, _⟩ := h.texts
  clear h hlo hf
  go_enter Tryz.func101, Tryz.ntmps101
  go_wp2_with fail
  refine (long_any _ ns _ HT.out (by omega)).mono ?_
  rintro e w1 ⟨rfl, hb1⟩
  rw [HL.out]
  go_wp2_with fail
  go_ret
  exact ⟨rfl, hb1⟩

set_option maxHeartbeats 1000000 in
theorem fits_no (v : Value) (ns : List (List UInt8)) (w : World) (a : Addr) (h : Tx w v ns) (hl : ns.length < 4294967296) (hf : fitsB ns = false) (hE : Eb w a) :
    Calls Tryz.prog 101 #[v] w fun e w' => e = .returned (bigV a) ∧ Below w.heap.size w w' := by
  have HE : Hid (Eb w a) := hE
  have HF : Hid _ := hf
  have HT : Hid (Tx w v ns) := h
  obtain ⟨_, _, ad, cap, rfl, _, _, _⟩ := h.texts
  clear h hE hf
  by_cases h100 : ns.length > 100
  · have c0 := HE.out.1
    go_enter Tryz.func101, Tryz.ntmps101
    go_wp2_with fail
    go_ret
    exact ⟨rfl, Below.refl _ _⟩
  · have HL : Hid (longB ns = true) := by unfold Hid; rw [fits_long ns (by omega), HF.out]; rfl
    go_enter Tryz.func101, Tryz.ntmps101
    go_wp2_with fail
    refine (long_any _ ns _ HT.out (by omega)).mono ?_
    rintro e w1 ⟨rfl, hb1⟩
    rw [HL.out]
    have c0 := (Eb.below HE.out hb1 (Eb.pos HE.out)).1
    go_wp2_with fail
    go_ret
    exact ⟨rfl, hb1⟩

theorem own_form {W : World} {B : Nat} {v : Value} {ps : List (List UInt8)} (h : W.ownsRow B 9 1 v ps.length (txV ps)) : ∃ ad cap, v = .slice ad ps.length cap := by
  rcases h.2 with ⟨hv, h0⟩ | ⟨g, cap, cur, hv, _⟩
  · exact ⟨none, 0, by rw [hv, h0]⟩
  · exact ⟨_, cap, hv⟩
theorem grown_ownL {w w1 w' : World} {B : Nat} {v : Value} {n : Nat} {xs : List Value} (hB : B ≤ w1.heap.size) (hb : Below B w w1) (ho : w1.ownsRow B 9 1 v n xs) (hg : w1.grownBy w' v.ownBlock) : Below B w w' := by
  refine hb.grown hg hB fun q ej => ?_
  rcases ho.2 with ⟨rfl, _⟩ | ⟨g5, cap5, cur5, rfl, hb5, _, _⟩
  · simp [Value.ownBlock] at ej
  · obtain rfl : g5 = q := by simpa [Value.ownBlock] using ej
    exact hb5

set_option maxRecDepth 100000 in
set_option maxHeartbeats 2000000 in
theorem add_yes (B : Nat) (v vi : Value) (U I : List (List UInt8)) (w : World) (hB : B ≤ w.heap.size) (ho : w.ownsRow B 9 1 v U.length (txV U)) (hi : Tx w vi I) (hU : fitsB U = true) (hf : fitsB (U ++ I) = true) :
    Calls Tryz.prog 234 #[v, vi] w fun e w' => ∃ v', e = .returned (.tuple #[v', .nilIface]) ∧ w'.ownsRow B 9 1 v' (U ++ I).length (txV (U ++ I)) ∧ Below B w w' := by
  obtain ⟨i0, hi0, hz0, hz1, hz2⟩ := info_parts info9
  have hq := (fits_app_iff U I hU).1 hf
  have hUl := fits_length U hU
  have hIl := fits_length I hq.2
  have hle : ¬ (I.length : Int) > 100 - (U.length : Int) := by have := hq.1; omega
  have HF : Hid _ := hq.2
  clear hq hf hU
  obtain ⟨ad, cap, rfl⟩ := own_form ho
  have HO : Hid _ := ho
  have HT : Hid (Tx w vi I) := hi
  rcases hi with ⟨rfl, rfl⟩ | ⟨adi, capi, rfl, h1, h2⟩
  · clear ho
    go_enter Tryz.func234, Tryz.ntmps234
    go_wp2_with fail
    refine (fits_yes _ [] _ HT.out HF.out).mono ?_
    rintro e w1 ⟨rfl, hb1⟩
    have ho1 := owns_after HO.out hb1
    go_wp2_with (at_builtin; refine wpList_append_own_none rfl _ _ 23 rfl B 9 i0 1 Tryz.underlying23 hi0 _ _ _ rfl ho1 rfl ?_)
    go_ret2
    refine ⟨_, rfl, ?_, hb1.mono hB⟩
    rw [List.append_nil]
    exact ho1
  · clear ho h2
    go_enter Tryz.func234, Tryz.ntmps234
    go_wp2_with fail
    refine (fits_yes _ I _ HT.out HF.out).mono ?_
    rintro e w1 ⟨rfl, hb1⟩
    have ho1 := owns_after HO.out hb1
    have hB1 : B ≤ w1.heap.size := Nat.le_trans hB hb1.size
    have hc1 := Tx.cells (Tx.below HT.out hb1 (Nat.le_refl _))
    go_wp2_with (at_builtin; refine wpList_append_own _ rfl _ _ 23 rfl B 9 i0 (.string ⟨#[]⟩) 1 16 Tryz.underlying23 hi0 hz0 hz1 hz2 rfl (by decide) _ _ _ rfl ho1 adi I.length capi (txV I) rfl (by rw [txV_length]; omega) hc1 (txV_one I) (by have := maxLen_big; omega) (by omega) hB1 ?_; intro v' w5 hown' hgrow _)
    go_ret2
    refine ⟨_, rfl, ?_, grown_ownL hB1 (hb1.mono hB) ho1 hgrow⟩
    rw [txV_append, List.length_append]
    exact hown'

set_option maxRecDepth 100000 in
set_option maxHeartbeats 2000000 in
theorem add_no (v vi : Value) (U I : List (List UInt8)) (w : World) (a : Addr) (hv : ∃ ad cap, v = .slice ad U.length cap) (hi : Tx w vi I) (hIl : I.length < 4294967296) (hU : fitsB U = true) (hf : fitsB (U ++ I) = false) (hE : Eb w a) :
    Calls Tryz.prog 234 #[v, vi] w fun e w' => e = .returned (.tuple #[.slice none 0 0, bigV a]) ∧ Below w.heap.size w w' := by
  have hq := fits_app_iff U I hU
  have hUl := fits_length U hU
  obtain ⟨ad, cap, rfl⟩ := hv
  have HT : Hid (Tx w vi I) := hi
  have HE : Hid (Eb w a) := hE
  obtain ⟨_, _, adi, capi, rfl, _, _, _⟩ := hi.texts
  have HQ : Hid (¬ (I.length ≤ 100 - U.length ∧ fitsB I = true)) := by
    unfold Hid
    rw [← hq, hf]
    simp
  clear hi hE hq hf hU
  by_cases hle : (I.length : Int) > 100 - (U.length : Int)
  · have c0 := HE.out.1
    have c0d : w.drew.cell? ⟨1, 0, none⟩ = some (bigV a) := c0
    go_enter Tryz.func234, Tryz.ntmps234
    go_wp2_with fail
    go_region
    all_goals go_wp2_with fail
    all_goals go_ret2
    all_goals exact ⟨rfl, (Below.refl _ w).drew⟩
  · have HF : Hid (fitsB I = false) := by
      unfold Hid
      cases e : fitsB I
      · rfl
      · exact absurd ⟨by omega, e⟩ HQ.out
    go_enter Tryz.func234, Tryz.ntmps234
    go_wp2_with fail
    refine (fits_no _ I _ a HT.out hIl HF.out HE.out).mono ?_
    rintro e w1 ⟨rfl, hb1⟩
    have c0 := (Eb.below HE.out hb1 (Eb.pos HE.out)).1
    have c0d : w1.drew.cell? ⟨1, 0, none⟩ = some (bigV a) := c0
    go_wp2_with fail
    go_region
    all_goals go_wp2_with fail
    all_goals go_ret2
    all_goals exact ⟨rfl, hb1.drew⟩
end Go.Proofs.YtfafhjglcaikoaaGreatDoor
namespace Go.Proofs
open Go.Shelf
def Tryz.lays217_ren : Go.Shelf.Ren := ⟨fun | 217 => 231 | 266 => 272 | n => n, fun | 9 => 9 | 5 => 5 | 3 => 3 | n => n, fun | n => n⟩
theorem Tryz.lays217 : Go.Proofs.Lays.n217 Tryz.prog Tryz.lays217_ren := {
  mixed := by kernel_rfl
  f217 := Tryz.func231.trans (congrArg some (by kernel_rfl))
  f266 := Tryz.func272.trans (congrArg some (by kernel_rfl))
  t3 := Tryz.underlying3
  a3 := Tryz.isAgg3
  z3 := Tryz.sizeOf3
  v3 := Tryz.zeroValue3
  t5 := Tryz.underlying5
  a5 := Tryz.isAgg5
  z5 := Tryz.sizeOf5
  v5 := Tryz.zeroValue5
  t9 := Tryz.underlying9
  a9 := Tryz.isAgg9
  z9 := Tryz.sizeOf9
  v9 := Tryz.zeroValue9 }
open Go.RowKit Go.Lib in
/-- internal/stringslite.IndexByte (what strings.IndexByte calls): IT RETURNS 'Lib.indexByte s c'; the world is as it was. (LAID: no walk: one application.) -/
theorem Tryz.stringslite_IndexByte (s : ByteArray) (c : Int) (w : World) :
    Calls Tryz.prog 231 #[.string s, .int .u8 c] w fun e w' => e = .returned (.int .i64 (Lib.indexByte s.data.toList c.toNat.toUInt8)) ∧ w' = w := Any.stringslite_IndexByte Tryz.lays217 s c w
end Go.Proofs

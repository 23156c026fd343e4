/- A kind's name, and whether its text has a string. -/
import Derived.Test.YtaildeglikhkaaaGreatDoorShared
import Derived.Test.YtaildeglikhkaaaGreatDoorLeaf
/-! The kinds' names. -/
namespace Go.Proofs.YtaildeglikhkaaaGreatDoor
open Go.RowKit
attribute [local go_sem] Oper.semAt_some

/-- The names of the kinds, each at its number. -/
def kindL : List (List UInt8) := [[], [108, 105, 116], [118, 97, 114], [99, 97, 116], [106, 111, 105, 110], [115, 112, 108, 105, 116], [103, 108, 111, 98], [112, 108, 97, 105, 110], [101, 115, 99], [102, 108, 97, 116], [99, 111, 117, 110, 116], [112, 105, 99, 107], [115, 117, 98], [], [], [], [], [], [], [], [110, 111, 112], [99, 97, 108, 108], [115, 101, 116], [115, 101, 113], [105, 102], [97, 110, 100], [111, 114], [110, 111, 116], [119, 104, 105, 108, 101], [102, 111, 114], [99, 97, 115, 101], [102, 117, 110], [112, 105, 112, 101], [114, 101, 100, 105, 114], [104, 101, 114, 101], [108, 111, 99, 97, 108], [101, 118, 97, 108], [102, 114, 97, 109, 101]]
theorem kindL_length : kindL.length = 38 := by decide
/-- The names as they lie in their variable. -/
def kindA : Array Value := #[.string ⟨#[]⟩, .string ⟨#[108, 105, 116]⟩, .string ⟨#[118, 97, 114]⟩, .string ⟨#[99, 97, 116]⟩, .string ⟨#[106, 111, 105, 110]⟩, .string ⟨#[115, 112, 108, 105, 116]⟩, .string ⟨#[103, 108, 111, 98]⟩, .string ⟨#[112, 108, 97, 105, 110]⟩, .string ⟨#[101, 115, 99]⟩, .string ⟨#[102, 108, 97, 116]⟩, .string ⟨#[99, 111, 117, 110, 116]⟩, .string ⟨#[112, 105, 99, 107]⟩, .string ⟨#[115, 117, 98]⟩, .string ⟨#[]⟩, .string ⟨#[]⟩, .string ⟨#[]⟩, .string ⟨#[]⟩, .string ⟨#[]⟩, .string ⟨#[]⟩, .string ⟨#[]⟩, .string ⟨#[110, 111, 112]⟩, .string ⟨#[99, 97, 108, 108]⟩, .string ⟨#[115, 101, 116]⟩, .string ⟨#[115, 101, 113]⟩, .string ⟨#[105, 102]⟩, .string ⟨#[97, 110, 100]⟩, .string ⟨#[111, 114]⟩, .string ⟨#[110, 111, 116]⟩, .string ⟨#[119, 104, 105, 108, 101]⟩, .string ⟨#[102, 111, 114]⟩, .string ⟨#[99, 97, 115, 101]⟩, .string ⟨#[102, 117, 110]⟩, .string ⟨#[112, 105, 112, 101]⟩, .string ⟨#[114, 101, 100, 105, 114]⟩, .string ⟨#[104, 101, 114, 101]⟩, .string ⟨#[108, 111, 99, 97, 108]⟩, .string ⟨#[101, 118, 97, 108]⟩, .string ⟨#[102, 114, 97, 109, 101]⟩]
theorem kindA_size : kindA.size = 38 := rfl
theorem kindA_eq : kindA = #[.string ⟨#[]⟩, .string ⟨#[108, 105, 116]⟩, .string ⟨#[118, 97, 114]⟩, .string ⟨#[99, 97, 116]⟩, .string ⟨#[106, 111, 105, 110]⟩, .string ⟨#[115, 112, 108, 105, 116]⟩, .string ⟨#[103, 108, 111, 98]⟩, .string ⟨#[112, 108, 97, 105, 110]⟩, .string ⟨#[101, 115, 99]⟩, .string ⟨#[102, 108, 97, 116]⟩, .string ⟨#[99, 111, 117, 110, 116]⟩, .string ⟨#[112, 105, 99, 107]⟩, .string ⟨#[115, 117, 98]⟩, .string ⟨#[]⟩, .string ⟨#[]⟩, .string ⟨#[]⟩, .string ⟨#[]⟩, .string ⟨#[]⟩, .string ⟨#[]⟩, .string ⟨#[]⟩, .string ⟨#[110, 111, 112]⟩, .string ⟨#[99, 97, 108, 108]⟩, .string ⟨#[115, 101, 116]⟩, .string ⟨#[115, 101, 113]⟩, .string ⟨#[105, 102]⟩, .string ⟨#[97, 110, 100]⟩, .string ⟨#[111, 114]⟩, .string ⟨#[110, 111, 116]⟩, .string ⟨#[119, 104, 105, 108, 101]⟩, .string ⟨#[102, 111, 114]⟩, .string ⟨#[99, 97, 115, 101]⟩, .string ⟨#[102, 117, 110]⟩, .string ⟨#[112, 105, 112, 101]⟩, .string ⟨#[114, 101, 100, 105, 114]⟩, .string ⟨#[104, 101, 114, 101]⟩, .string ⟨#[108, 111, 99, 97, 108]⟩, .string ⟨#[101, 118, 97, 108]⟩, .string ⟨#[102, 114, 97, 109, 101]⟩] := rfl
theorem kindA_list : kindA = (kindL.map str).toArray := rfl
theorem kindA_at (i : Nat) (a : List UInt8) (h : kindL[i]? = some a) : kindA[i]? = some (str a) := by
  rw [kindA_list]
  simp [h]
theorem run_kind (i : Nat) (a : List UInt8) (h : kindL[i]? = some a) (w : World) : (Instr.index 60 (.agg kindA) (.int .i64 (i : Nat))).run Tryz.prog w = .ok (str a) w := by
  have hi : i < 38 := by have := (List.getElem?_eq_some_iff.1 h).1; rwa [kindL_length] at this
  have hA := kindA_at i a h
  simp [Instr.index, part, run_underlying Tryz.underlying60, asIntOf, Tryz.sizeOf9, Tryz.isAgg9, hA, go_sem]
  intro h38; omega
theorem kindL_small : ∀ a ∈ kindL, a.length ≤ 5 := by decide
/-- The variable holds them. -/
def KnAt (W : World) : Prop := ∃ (t : TypeId) (fr : Nat × Nat), W.heap[0]? = some (.cells kindA t fr)
theorem KnAt.lt {W : World} (h : KnAt W) : 0 < W.heap.size := by
  obtain ⟨t, fr, h⟩ := h
  exact (Array.getElem?_eq_some_iff.1 h).1
theorem KnAt.turn {W W' : World} {S : Nat → Prop} (h : KnAt W) (hT : Turn S W W') (hs : ¬ S 0) : KnAt W' := by
  have hl := h.lt
  obtain ⟨t, fr, h⟩ := h
  exact ⟨t, fr, (hT.block 0 hl hs).trans h⟩
theorem KnAt.below {W W' : World} (h : KnAt W) (hb : Below W.heap.size W W') : KnAt W' := by
  have hl := h.lt
  obtain ⟨t, fr, h⟩ := h
  exact ⟨t, fr, (hb.block 0 hl).trans h⟩
theorem KnAt.alloc {W : World} (h : KnAt W) (o : Obj) : KnAt (W.alloc o) := h.below ((Below.refl _ W).alloc (Nat.le_refl _) o)
theorem KnAt.cell {W : World} (h : KnAt W) (j : Nat) : W.cell? ⟨0, j, none⟩ = kindA[j]? := by
  obtain ⟨t, fr, h⟩ := h
  simp [World.cell?, h]
/-- The first of these names that stands here, or how far they go. -/
def kdG (m : List UInt8) : List (List UInt8) → Nat → Nat → Option Nat × Nat
  | [], _, n => (none, n)
  | a :: l, i, n => if 0 < shareN a m ∧ shareN a m = a.length then (some i, shareN a m) else kdG m l (i + 1) (max n (shareN a m))
def kdR (s : ByteArray) (k : Nat) : Option Nat × Nat := ((kdG (s.data.toList.drop k) kindL 0 0).1, k + (kdG (s.data.toList.drop k) kindL 0 0).2)
def kindR : Option Nat → Array Value
  | none => #[.int .i64 0, .bool false]
  | some v => #[.int .i64 (v : Nat), .bool true]
set_option maxHeartbeats 8000000 in
set_option maxRecDepth 100000 in
theorem kind_any {W : World} {b : Nat} {t : TypeId} {s : ByteArray} {k : Nat} {r : List Value} (h : PlC W b t s k r) (hk0 : KnAt W) (hs : s.size < 8796093022208) (hk : k ≤ s.size) :
    Calls Tryz.prog 94 #[.pointer (some ⟨b, 0, none⟩)] W fun e w' => e = .returned (.tuple (kindR (kdR s k).1)) ∧ Gone W b t s (kdR s k).2 r w' := by
  obtain ⟨tk, fk, HK⟩ : Hid (KnAt W) := hk0
  have HG0 : Hid (Gone W b t s k r W) := Gone.refl h
  clear h
  go_enter Tryz.func94, Tryz.ntmps94
  go_wp2_with (refine wpList_load_row rfl 60 _ rfl 0 rfl tk kindA fk _ HK Tryz.underlying60 rfl (by kernel_rfl) ?_)
  obtain ⟨R, hR⟩ : ∃ R, kdG (s.data.toList.drop k) kindL 0 0 = R := ⟨_, rfl⟩
  have HR2 : Hid (kdR s k = (R.1, k + R.2)) := by unfold Hid kdR; rw [hR]
  go_loopw [4, 5, 6, 7, 9] (fun v4 _ _ _ v9 wr => ∃ i n : Nat, v4 = .int .i64 n ∧ v9 = .int .i64 i ∧ i ≤ 38 ∧ k + n ≤ s.size ∧ Hid (kdG (s.data.toList.drop k) (kindL.drop i) i n = R) ∧ Hid (Gone W b t s k r wr)) (fun _ _ _ _ v9 _ => 38 - (intOf v9).toNat)
  case atStart => exact ⟨0, 0, rfl, rfl, by omega, by omega, hR, HG0⟩
  case round =>
    obtain ⟨i, n, rfl, rfl, hi, hn, HE, HG⟩ := hrel
    by_cases hlt : i < 38
    · obtain ⟨a, ha⟩ : ∃ a, kindL[i]? = some a := ⟨kindL[i]'(by rw [kindL_length]; exact hlt), List.getElem?_eq_getElem _⟩
      have HX : Hid (∀ w, (Instr.index 60 (.agg kindA) (.int .i64 (i : Nat))).run Tryz.prog w = .ok (str a) w) := run_kind i a ha
      have has : a.length ≤ 5 := kindL_small a (List.mem_of_getElem? ha)
      have hsh := shareN_le a (s.data.toList.drop k)
      have hsl : (s.data.toList.drop k).length = s.size - k := by simp
      rw [hsl] at hsh
      have hd : kindL.drop i = a :: kindL.drop (i + 1) := by
        obtain ⟨h1, h2⟩ := List.getElem?_eq_some_iff.1 ha
        rw [List.drop_eq_getElem_cons h1, h2]
      rw [hd, kdG] at HE
      have HC : Hid (Calls Tryz.prog 103 #[.pointer (some ⟨b, 0, none⟩), str a] wr fun e w' => e = .returned (.int .i64 (shareN a (s.data.toList.drop k) : Nat)) ∧ Gone wr b t s k r w') := by
        have := shared_any HG.out.at_ ⟨a.toArray⟩ hs hk (by simp [ByteArray.size]; omega)
        exact this
      generalize shareN a (s.data.toList.drop k) = m at HE HC hsh
      clear hd ha
      by_cases hq : 0 < m ∧ m = a.length
      · rw [if_pos hq] at HE
        have HR3 : Hid (kdR s k = (some i, k + m)) := by unfold Hid; rw [HR2.out, ← HE.out]
        clear HE HR2 hR
        go_wp2_with fail
        rw [HX.out]
        simp only [Result.andThen]
        rw [Oper.upon_value]
        go_wp2_with fail
        refine Calls.mono HC.out ?_
        rintro e w2 ⟨rfl, hg2⟩
        have hg3 := HG.out.trans hg2
        have p1 := hg3.at_.at.pos
        have f1 := hg3.at_.at.free
        clear hg2 HC HG
        obtain ⟨hq0, hq1⟩ := hq
        have HG4 : Hid (Gone W b t s (k + m) r (w2.setCell ⟨b, 1, none⟩ (.int .i64 ((k : Int) + a.length)))) := by
          have e1 : ((k + m : Nat) : Int) = (k : Int) + a.length := by simp [hq1]
          rw [← e1]; exact hg3.set (k + m)
        clear hg3
        go_wp2_with fail
        go_ret2
        rw [HR3.out]
        exact ⟨rfl, HG4.out⟩
      · rw [if_neg hq] at HE
        by_cases hm : 0 < m
        · have hne : ((m : Int) == (a.length : Int)) = false := by simp; omega
          clear hq hR HR2
          go_wp2_with fail
          rw [HX.out]
          simp only [Result.andThen]
          rw [Oper.upon_value]
          go_wp2_with fail
          refine Calls.mono HC.out ?_
          rintro e w2 ⟨rfl, hg2⟩
          have HG3 : Hid (Gone W b t s k r w2) := HG.out.trans hg2
          clear hg2 HC HG
          go_wp2_with fail
          go_roundw
          case rel => exact ⟨i + 1, max n m, by simp; omega, by simp, hlt, by omega, HE, HG3⟩
          case measure => simp [intOf]; omega
        · clear hq hR HR2
          go_wp2_with fail
          rw [HX.out]
          simp only [Result.andThen]
          rw [Oper.upon_value]
          go_wp2_with fail
          refine Calls.mono HC.out ?_
          rintro e w2 ⟨rfl, hg2⟩
          have HG3 : Hid (Gone W b t s k r w2) := HG.out.trans hg2
          clear hg2 HC HG
          go_wp2_with fail
          go_roundw
          case rel => exact ⟨i + 1, max n m, by simp; omega, by simp, hlt, by omega, HE, HG3⟩
          case measure => simp [intOf]; omega
    · have hi38 : i = 38 := by omega
      subst hi38
      rw [show kindL.drop 38 = [] from List.drop_eq_nil_of_le (by rw [kindL_length]; exact Nat.le_refl _), kdG] at HE
      have HR3 : Hid (kdR s k = (none, k + n)) := by unfold Hid; rw [HR2.out, ← HE.out]
      have p1 := HG.out.at_.at.pos
      have f1 := HG.out.at_.at.free
      have HG2 : Hid (Gone W b t s (k + n) r (wr.setCell ⟨b, 1, none⟩ (.int .i64 ((k : Int) + n)))) := by
        have e1 : ((k + n : Nat) : Int) = (k : Int) + n := by simp
        rw [← e1]; exact HG.out.set (k + n)
      clear HE HR2 hR
      go_wp2_with fail
      go_ret2
      rw [HR3.out]
      exact ⟨rfl, HG2.out⟩
end Go.Proofs.YtaildeglikhkaaaGreatDoor
namespace Go.Proofs.YtaildeglikhkaaaGreatDoor
open Go.RowKit
attribute [local go_sem] Oper.semAt_some

/-- Does a node of this kind have a string in its text? -/
def strK (k : Int) : Bool := k == 1 || k == 2 || k == 22 || k == 29 || k == 31 || k == 35
theorem hasString_any (k : Int) (w : World) : Calls Tryz.prog 62 #[.int .i64 k] w fun e w' => e = .returned (.bool (strK k)) ∧ w' = w := by
  by_cases h1 : k = 1
  · subst h1; go_enter Tryz.func62, Tryz.ntmps62; go_wp2_with fail; go_ret; exact ⟨rfl, rfl⟩
  by_cases h2 : k = 2
  · subst h2; go_enter Tryz.func62, Tryz.ntmps62; go_wp2_with fail; go_ret; exact ⟨rfl, rfl⟩
  by_cases h3 : k = 22
  · subst h3; go_enter Tryz.func62, Tryz.ntmps62; go_wp2_with fail; go_ret; exact ⟨rfl, rfl⟩
  by_cases h4 : k = 29
  · subst h4; go_enter Tryz.func62, Tryz.ntmps62; go_wp2_with fail; go_ret; exact ⟨rfl, rfl⟩
  by_cases h5 : k = 31
  · subst h5; go_enter Tryz.func62, Tryz.ntmps62; go_wp2_with fail; go_ret; exact ⟨rfl, rfl⟩
  by_cases h6 : k = 35
  · subst h6; go_enter Tryz.func62, Tryz.ntmps62; go_wp2_with fail; go_ret; exact ⟨rfl, rfl⟩
  have e1 : (k == 1) = false := by simpa using h1
  have e2 : (k == 2) = false := by simpa using h2
  have e3 : (k == 22) = false := by simpa using h3
  have e4 : (k == 29) = false := by simpa using h4
  have e5 : (k == 31) = false := by simpa using h5
  have e6 : (k == 35) = false := by simpa using h6
  go_enter Tryz.func62, Tryz.ntmps62
  go_wp2_with fail
  go_ret
  exact ⟨by simp [strK, e1, e2, e3, e4, e5, e6], rfl⟩
/-- The name of a kind. -/
def kindN (k : Int) : List UInt8 := if wordK k || cmdK k then kindL.getD k.toNat [] else [63]
set_option maxHeartbeats 1000000 in
theorem kindName_any (k : Int) (w : World) (hK : KnAt w) : Calls Tryz.prog 10 #[.int .i64 k] w fun e w' => e = .returned (str (kindN k)) ∧ w' = w := by
  cases hw : wordK k with
  | true =>
    have hk : 1 ≤ k ∧ k ≤ 12 := by simpa [wordK] using hw
    obtain ⟨n, rfl⟩ : ∃ n : Nat, k = n := ⟨k.toNat, by omega⟩
    obtain ⟨a, ha⟩ : ∃ a, kindL[n]? = some a := ⟨kindL[n]'(by rw [kindL_length]; omega), List.getElem?_eq_getElem _⟩
    have hA : w.cell? ⟨0, n, none⟩ = some (str a) := (KnAt.cell hK n).trans (kindA_at n a ha)
    have HN : Hid (kindN n = a) := by unfold Hid kindN; rw [hw]; simp [List.getD, ha]
    have HW : Hid (Calls Tryz.prog 27 #[.int .i64 (n : Nat)] w fun e w' => e = .returned (.bool true) ∧ w' = w) := by have := word_any n w; rw [hw] at this; exact this
    clear ha hw
    rw [HN.out]
    go_enter Tryz.func10, Tryz.ntmps10
    go_wp2_with fail
    refine Calls.mono HW.out ?_
    rintro e w1 ⟨rfl, h⟩
    have h' := h.symm
    subst h'
    clear h
    go_wp2_with fail
    go_ret
    exact ⟨rfl, rfl⟩
  | false =>
    have HW : Hid (Calls Tryz.prog 27 #[.int .i64 k] w fun e w' => e = .returned (.bool false) ∧ w' = w) := by have := word_any k w; rw [hw] at this; exact this
    cases hc : cmdK k with
    | true =>
      have hk : 20 ≤ k ∧ k ≤ 37 := by simpa [cmdK] using hc
      obtain ⟨n, rfl⟩ : ∃ n : Nat, k = n := ⟨k.toNat, by omega⟩
      obtain ⟨a, ha⟩ : ∃ a, kindL[n]? = some a := ⟨kindL[n]'(by rw [kindL_length]; omega), List.getElem?_eq_getElem _⟩
      have hA : w.cell? ⟨0, n, none⟩ = some (str a) := (KnAt.cell hK n).trans (kindA_at n a ha)
      have HN : Hid (kindN n = a) := by unfold Hid kindN; rw [hw, hc]; simp [List.getD, ha]
      have HC : Hid (Calls Tryz.prog 28 #[.int .i64 (n : Nat)] w fun e w' => e = .returned (.bool true) ∧ w' = w) := by have := command_any n w; rw [hc] at this; exact this
      clear ha hw hc
      rw [HN.out]
      go_enter Tryz.func10, Tryz.ntmps10
      go_wp2_with fail
      refine Calls.mono HW.out ?_
      rintro e w1 ⟨rfl, h⟩
      have h' := h.symm
      subst h'
      clear h
      go_wp2_with fail
      refine Calls.mono HC.out ?_
      rintro e w1 ⟨rfl, h⟩
      have h' := h.symm
      subst h'
      clear h
      go_wp2_with fail
      go_ret
      exact ⟨rfl, rfl⟩
    | false =>
      have HN : Hid (kindN k = [63]) := by unfold Hid kindN; rw [hw, hc]; rfl
      have HC : Hid (Calls Tryz.prog 28 #[.int .i64 k] w fun e w' => e = .returned (.bool false) ∧ w' = w) := by have := command_any k w; rw [hc] at this; exact this
      clear hw hc
      rw [HN.out]
      go_enter Tryz.func10, Tryz.ntmps10
      go_wp2_with fail
      refine Calls.mono HW.out ?_
      rintro e w1 ⟨rfl, h⟩
      have h' := h.symm
      subst h'
      clear h
      go_wp2_with fail
      refine Calls.mono HC.out ?_
      rintro e w1 ⟨rfl, h⟩
      have h' := h.symm
      subst h'
      clear h
      go_wp2_with fail
      go_ret
      exact ⟨rfl, rfl⟩
end Go.Proofs.YtaildeglikhkaaaGreatDoor

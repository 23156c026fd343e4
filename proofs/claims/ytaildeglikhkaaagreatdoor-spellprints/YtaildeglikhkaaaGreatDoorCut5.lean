/- What the law of cut texts wants of the reader and of its errors. -/
import Derived.Test.YtaildeglikhkaaaGreatDoorCutsAll
import Derived.Test.YtaildeglikhkaaaGreatDoorFirstSp
import Derived.Test.YtaildeglikhkaaaGreatDoorBndAll
import Derived.Laws.IdiomStrings
namespace Go.Proofs.YtaildeglikhkaaaGreatDoor
open Go.RowKit
attribute [local go_sem] Oper.semAt_some

theorem print_text (X : List Nd) (h : checkL X = .fine) : printL X = textL bgB 30 X := by
  unfold printL
  rw [(fineB_iff _).2 h, Bool.true_or, if_pos rfl, show beginL = bgB from funext begin_bg, print_seg bgB 30 X (seg_of_fine X h).1]
theorem len_size (s : ByteArray) : s.data.toList.length = s.size := by rw [Array.length_toList]; rfl
section
variable (X : List Nd) (hf : checkL X = .fine) (s : ByteArray) (hs : s.data.toList = printL X)
include hf hs
theorem cut_off (k : Nat) (hk : k < s.size) : readOk (s.extract 0 k) = false ∧ readAt (s.extract 0 k) = k ∧ (s.extract 0 k).size = k := by
  obtain ⟨h1, _, h3⟩ := seg_of_fine X hf
  have hd : (s.extract 0 k).data.toList = s.data.toList.take k := by simp [ByteArray.data_extract]
  have hsz : (s.extract 0 k).size = k := by rw [← len_size, hd, List.length_take, len_size]; omega
  have hT : (s.extract 0 k).data.toList ++ s.data.toList.drop k = textL bgB 30 X := by rw [hd, List.take_append_drop, hs, print_text X hf]
  have ht : s.data.toList.drop k ≠ [] := by
    intro e
    have := congrArg List.length e
    rw [List.length_drop, len_size] at this
    simp at this
    omega
  have hc := read_cut 30 X h1 (by omega) (by omega) (says_fine X hf) (s.extract 0 k) _ hT ht
  have hp := read_pre 30 X h1 (by omega) (by omega) (says_fine X hf) (s.extract 0 k) (s.extract 0 k).data.toList _ [] hT ht (by simp)
  have hle := readAt_le (s.extract 0 k)
  rw [len_size, hsz] at hp
  rw [hsz] at hle
  refine ⟨?_, ?_, hsz⟩
  · unfold readOk
    rw [hc]
    rfl
  · exact Nat.le_antisymm hle hp
theorem one_more (c : UInt8) : readOk (s ++ ⟨#[c]⟩) = false ∧ readAt (s ++ ⟨#[c]⟩) = s.size ∧ (s ++ ⟨#[c]⟩).size = s.size + 1 := by
  obtain ⟨h1, _, h3⟩ := seg_of_fine X hf
  have hd : (s ++ ⟨#[c]⟩).data.toList = textL bgB 30 X ++ [c] := by rw [← print_text X hf, ← hs]; simp
  have hm := read_more 30 X h1 (by omega) (by omega) (says_fine X hf) (s ++ ⟨#[c]⟩) [c] hd
  have hl : (textL bgB 30 X).length = s.size := by rw [← print_text X hf, ← hs, len_size]
  have hsz : (s ++ ⟨#[c]⟩).size = s.size + 1 := by rw [← len_size, hd, List.length_append, hl]; rfl
  rw [hl] at hm
  refine ⟨?_, ?_, hsz⟩
  · unfold readOk
    rw [hm, hsz]
    simp
  · unfold readAt
    rw [hm]
/-- The text with one byte turned. -/
theorem turned (k : Nat) (hk : k < s.size) (c : UInt8) (B : ByteArray) (hB : B = s.extract 0 k ++ ⟨#[c]⟩ ++ s.extract (k + 1) s.size) : k ≤ readAt B ∧ B.size = s.size ∧ B.data.toList[k]? = some c := by
  obtain ⟨h1, _, h3⟩ := seg_of_fine X hf
  have hd1 : (s.extract 0 k).data.toList = s.data.toList.take k := by simp [ByteArray.data_extract]
  have hd2 : (s.extract (k + 1) s.size).data.toList = s.data.toList.drop (k + 1) := by
    have e : s.size = s.data.toList.length := (len_size s).symm
    rw [ByteArray.data_extract, Array.toList_extract, List.extract, e]
    rw [List.take_of_length_le (by rw [List.length_drop]; exact Nat.le_refl _)]
  have hd : B.data.toList = s.data.toList.take k ++ (c :: s.data.toList.drop (k + 1)) := by
    rw [hB, ByteArray.data_append, ByteArray.data_append, Array.toList_append, Array.toList_append, hd1, hd2]
    simp
  have hl : (s.data.toList.take k).length = k := by rw [List.length_take, len_size]; omega
  have ht : s.data.toList.drop k ≠ [] := by
    intro e
    have := congrArg List.length e
    rw [List.length_drop, len_size] at this
    simp at this
    omega
  have hp := read_pre 30 X h1 (by omega) (by omega) (says_fine X hf) B (s.data.toList.take k) (s.data.toList.drop k) _ (by rw [List.take_append_drop, hs, print_text X hf]) ht hd
  rw [hl] at hp
  refine ⟨hp, ?_, ?_⟩
  · rw [← len_size, hd, List.length_append, hl, List.length_cons, List.length_drop, len_size]
    omega
  · rw [hd, List.getElem?_append_right (by omega), hl]
    simp
end
theorem other_text (X : List Nd) (s : ByteArray) (hs : s.data.toList = printL X) (k : Nat) (c : UInt8) (B : ByteArray) (hb : B.data.toList[k]? = some c) (hne : s.data.toList[k]? ≠ some c) (ho : readOk B = true) (hc : checkL (readN B) = .fine) : ¬ readN B = X := by
  intro e
  have hg : readG B = (true, B.size, readN B) := by
    unfold readOk at ho
    unfold readN
    cases hr : readG B with
    | mk a r =>
      obtain ⟨j, l⟩ := r
      rw [hr] at ho
      simp at ho
      rw [ho.1, ho.2]
  have := read_printL B (readN B) hg hc
  rw [e, ← hs] at this
  rw [this] at hne
  exact hne hb
set_option maxRecDepth 100000 in
set_option maxHeartbeats 1000000 in
theorem fault_sent9 (W : World) (ea : Nat → Addr) (hE : Ers W ea) (j : Nat) (hj : j < 17) (a : Addr) (ha : a = ea (ordE j)) : Calls Tryz.prog 51 #[errV a, .int .i64 9] W fun e w' => e = .returned (.agg #[.int .i64 (101 + j), .slice none 0 0]) ∧ Below W.heap.size W w' := by
  have HS : Hid (∀ W', Below W.heap.size W W' → Calls Tryz.prog 73 #[errV a] W' fun e w' => e = .returned (.int .i64 (101 + j)) ∧ Below W'.heap.size W' w') := fun W' hb => sentinel_any W' ea (hE.below hb) j hj a ha
  clear hE ha
  have hno := assert_no (.pointer (some a))
  go_enter Tryz.func51, Tryz.ntmps51
  go_wp2_with fail
  refine Calls.mono (HS.out _ (below_new _ _)) ?_
  rintro e w1 ⟨rfl, hb1⟩
  have hbw1 := (below_new W (.cells #[.int .i64 0, .slice none 0 0] 31)).trans (hb1.mono (below_new W _).size)
  have HC1 : Hid (Cel w1 W.heap.size 31 #[.int .i64 0, .slice none 0 0]) := Cel.below (Cel.new W 31 #[.int .i64 0, .slice none 0 0]) hb1 (by rw [new_size]; omega)
  clear hb1
  go_wp2_with fail
  refine (bare_any _ _).mono ?_
  rintro e w2 ⟨rfl, hb2⟩
  have hc2 : Cel w2 W.heap.size 31 #[.int .i64 0, .slice none 0 0] := Cel.below HC1.out hb2 HC1.out.lt
  have hbw2 := hbw1.trans (hb2.mono hbw1.size)
  have HC2 : Hid (Cel w2 W.heap.size 31 #[.int .i64 0, .slice none 0 0]) := hc2
  have c0 := hc2.cell 0
  have f0 := hc2.frozen 0
  have c1 : ∀ v, (w2.setCell ⟨W.heap.size, 0, none⟩ v).cell? ⟨W.heap.size, 1, none⟩ = some (.slice none 0 0) := fun v => (hc2.set (j := 0) v).cell 1
  have f1 : ∀ v, (w2.setCell ⟨W.heap.size, 0, none⟩ v).frozen? ⟨W.heap.size, 1, none⟩ = false := fun v => (hc2.set (j := 0) v).frozen 1
  simp only [List.getElem?_toArray, List.getElem?_cons_zero] at c0
  clear hc2 hb2
  go_wp2_with fail
  refine bodyPost_ret (results_cell_row (p := 4) (ty := 31) rfl _ _ W.heap.size 31 #[.int .i64 (101 + j), .slice none 0 0] (0, 0) _ rfl ((HC2.out.set (j := 0) _).set (j := 1) _) Tryz.underlying31 rfl size33) rfl ?_
  exact ⟨rfl, (hbw2.setCell (p := ⟨W.heap.size, 0, none⟩) (Nat.le_refl _) _).setCell (p := ⟨W.heap.size, 1, none⟩) (Nat.le_refl _) _⟩
set_option maxRecDepth 100000 in
set_option maxHeartbeats 1000000 in
theorem Fault_sent (W : World) (ea : Nat → Addr) (hE : Ers W ea) (j : Nat) (hj : j < 17) (a : Addr) (ha : a = ea (ordE j)) :
    Calls Tryz.prog 23 #[errV a] W fun e w' => e = .returned (.agg #[.int .i64 (101 + j), .slice none 0 0]) ∧ Below W.heap.size W w' := by
  have HF : Hid (∀ W', Below W.heap.size W W' → Calls Tryz.prog 51 #[errV a, .int .i64 9] W' fun e w' => e = .returned (.agg #[.int .i64 (101 + j), .slice none 0 0]) ∧ Below W'.heap.size W' w') := fun W' hb => fault_sent9 W' ea (hE.below hb) j hj a ha
  clear hE ha
  go_enter Tryz.func23, Tryz.ntmps23
  go_wp2_with fail
  refine Calls.mono (HF.out _ (below_new _ _)) ?_
  rintro e w1 ⟨rfl, hb1⟩
  have hbw1 := (below_new W (.cells #[.int .i64 0, .slice none 0 0] 31)).trans (hb1.mono (below_new W _).size)
  have hr3 : Cel w1 W.heap.size 31 #[.int .i64 0, .slice none 0 0] := Cel.below (Cel.new W 31 #[.int .i64 0, .slice none 0 0]) hb1 (by rw [new_size]; omega)
  have c0 := hr3.cell 0
  have f0 := hr3.frozen 0
  have c1 : ∀ v, (w1.setCell ⟨W.heap.size, 0, none⟩ v).cell? ⟨W.heap.size, 1, none⟩ = some (.slice none 0 0) := fun v => (hr3.set (j := 0) v).cell 1
  have f1 : ∀ v, (w1.setCell ⟨W.heap.size, 0, none⟩ v).frozen? ⟨W.heap.size, 1, none⟩ = false := fun v => (hr3.set (j := 0) v).frozen 1
  simp only [List.getElem?_toArray, List.getElem?_cons_zero] at c0
  have HR4 : Hid (Cel ((w1.setCell ⟨W.heap.size, 0, none⟩ (.int .i64 (101 + (j : Int)))).setCell ⟨W.heap.size, 1, none⟩ (.slice none 0 0)) W.heap.size 31 #[.int .i64 (101 + (j : Int)), .slice none 0 0]) := (hr3.set (j := 0) _).set (j := 1) _
  clear hr3 hb1
  go_wp2_with fail
  refine bodyPost_ret (results_cell_row (p := 2) (ty := 31) rfl _ _ W.heap.size 31 _ (0, 0) _ rfl HR4.out Tryz.underlying31 rfl size33) rfl ?_
  exact ⟨rfl, (hbw1.setCell (p := ⟨W.heap.size, 0, none⟩) (Nat.le_refl _) _).setCell (p := ⟨W.heap.size, 1, none⟩) (Nat.le_refl _) _⟩
/-- A fault of the reader's: too many, or one place. -/
def FaultIs (s : ByteArray) (B : Nat) (e : Ending) (w' : World) : Prop :=
  e = .returned (.agg #[.int .i64 111, .slice none 0 0]) ∨
  ∃ (c p : Int) (fb : Nat), e = .returned (.agg #[.int .i64 c, .slice (some ⟨fb, 0, none⟩) 1 1]) ∧ Cel w' fb 3 #[.int .i64 p] ∧ B ≤ fb ∧ ((c = 108 ∧ p = (readAt s : Nat)) ∨ c = 109 ∨ c = 110 ∨ c = 102)
theorem fault_bad (W : World) (ea : Nat → Addr) (hE : Ers W ea) (s : ByteArray) (u : Value) (h : BadIs W ea s u) (hr : ¬ (readOk s = true ∧ checkL (readN s) = .fine)) :
    Calls Tryz.prog 23 #[u] W fun e w' => FaultIs s W.heap.size e w' ∧ Below W.heap.size W w' := by
  unfold BadIs at h
  cases ho : readOk s with
  | true =>
    rw [ho, if_pos rfl] at h
    cases hc : checkL (readN s) with
    | fine => exact absurd ⟨ho, hc⟩ hr
    | many =>
      rw [hc] at h
      obtain rfl : u = errV (ea 0) := h
      refine (Fault_sent W ea hE 10 (by omega) (ea 0) rfl).mono ?_
      rintro e w' ⟨he, hb⟩
      exact ⟨.inl he, hb⟩
    | node i =>
      rw [hc] at h
      obtain ⟨q, rfl, hq⟩ := h
      refine (Fault_at W ea hE 9 (by omega) (ea 1) rfl q i hq).mono ?_
      rintro e w' ⟨fb, he, h1, h2, hb⟩
      exact ⟨.inr ⟨_, _, fb, he, h1, h2, .inr (.inr (.inl rfl))⟩, hb⟩
    | nest i =>
      rw [hc] at h
      obtain ⟨q, rfl, hq⟩ := h
      refine (Fault_at W ea hE 1 (by omega) (ea 2) rfl q i hq).mono ?_
      rintro e w' ⟨fb, he, h1, h2, hb⟩
      exact ⟨.inr ⟨_, _, fb, he, h1, h2, .inr (.inr (.inr rfl))⟩, hb⟩
  | false =>
    rw [ho, if_neg (by decide)] at h
    obtain ⟨q, rfl, hq⟩ := h
    by_cases he : readAt s = s.size
    · rw [if_pos he] at hq
      refine (Fault_at W ea hE 8 (by omega) (ea 4) rfl q _ hq).mono ?_
      rintro e w' ⟨fb, he, h1, h2, hb⟩
      exact ⟨.inr ⟨_, _, fb, he, h1, h2, .inr (.inl rfl)⟩, hb⟩
    · rw [if_neg he] at hq
      refine (Fault_at W ea hE 7 (by omega) (ea 5) rfl q _ hq).mono ?_
      rintro e w' ⟨fb, he, h1, h2, hb⟩
      exact ⟨.inr ⟨_, _, fb, he, h1, h2, .inl ⟨rfl, rfl⟩⟩, hb⟩
/-- A list of one byte, made a text. -/
theorem conv_at (W : World) (b : Nat) (c : UInt8) (h : W.cell? ⟨b, 0, none⟩ = some (.int .u8 (c.toNat : Int))) :
    (convert 43 9 (.slice (some ⟨b, 0, none⟩) 1 1)).run Tryz.prog W = .ok (.string ⟨#[c]⟩) W := by
  refine run_convert_bytes_back (P := Tryz.prog) W 43 9 5 ⟨b, 0, none⟩ 1 [c] Tryz.underlying43 Tryz.underlying5 Tryz.underlying9 ?_
  intro j hj
  obtain rfl : j = 0 := by simp at hj; exact hj
  simpa [Addr.add] using h
end Go.Proofs.YtaildeglikhkaaaGreatDoor

/- What a node asks of its children. -/
import Derived.Test.YtfafhjglcaikoaaGreatDoorH3
import Derived.Test.YtfafhjglcaikoaaGreatDoorH9
import Derived.Deep.Cut
import Derived.Deep.CutRange
import Derived.BigRegion
import Derived.OrdersHeld
import Derived.Deep.RegionHeld
/-! Names, closed texts, and which text a node may have. -/
namespace Go.Proofs.YtfafhjglcaikoaaGreatDoor
open Go.RowKit
attribute [local go_sem] Oper.semAt_some

theorem digit_any (c : Int) (w : World) : Calls Tryz.prog 232 #[.int .u8 c] w fun e w' => e = .returned (.bool (digitB c)) ∧ w' = w := by
  by_cases h1 : 48 ≤ c
  all_goals
    go_enter Tryz.func232, Tryz.ntmps232
    go_wp2_with fail
    go_ret
    exact ⟨ret_b (by simp [digitB]; omega), rfl⟩
theorem start_any (c : Int) (w : World) : Calls Tryz.prog 192 #[.int .u8 c] w fun e w' => e = .returned (.bool (startB c)) ∧ w' = w := by
  by_cases h1 : 97 ≤ c <;> by_cases h2 : c ≤ 122 <;> by_cases h3 : 65 ≤ c <;> by_cases h4 : c ≤ 90
  all_goals first | (exfalso; omega) | skip
  all_goals
    go_enter Tryz.func192, Tryz.ntmps192
    go_wp2_with fail
    go_ret
    exact ⟨ret_b (by simp [startB]; try omega), rfl⟩
theorem cont_any (c : Int) (w : World) : Calls Tryz.prog 193 #[.int .u8 c] w fun e w' => e = .returned (.bool (contB c)) ∧ w' = w := by
  cases h : startB c with
  | true =>
    go_enter Tryz.func193, Tryz.ntmps193
    go_wp2_with fail
    refine (start_any _ _).mono ?_
    rintro e w1 ⟨rfl, rfl⟩
    rw [h]
    go_wp2_with fail
    go_ret
    exact ⟨ret_bool (by simp [contB, h]), rfl⟩
  | false =>
    go_enter Tryz.func193, Tryz.ntmps193
    go_wp2_with fail
    refine (start_any _ _).mono ?_
    rintro e w1 ⟨rfl, rfl⟩
    rw [h]
    go_wp2_with fail
    refine (digit_any _ _).mono ?_
    rintro e w1 ⟨rfl, rfl⟩
    go_wp2_with fail
    go_ret
    exact ⟨ret_bool (by simp [contB, h]), rfl⟩
theorem s_get (s : ByteArray) (k : Nat) (h : k < s.size) : s.data.toList[k]? = some s[k] := by
  rw [List.getElem?_eq_getElem (by simpa using h)]
  rfl
theorem drop_cons (s : ByteArray) (k : Nat) (h : k < s.size) : s.data.toList.drop k = s[k] :: s.data.toList.drop (k + 1) := by
  rw [List.drop_eq_getElem_cons (by simpa using h)]
  rfl
theorem nonempty_of (s : ByteArray) (h : 0 < s.size) : s.toList.isEmpty = false := by
  rw [ByteArray.toList_eq]
  have hl : s.data.toList.length = s.size := by simp
  match he : s.data.toList with
  | [] => rw [he] at hl; simp at hl; omega
  | _ :: _ => rfl
theorem empty_of (s : ByteArray) (h : s.size = 0) : s = ⟨#[]⟩ := by
  obtain ⟨⟨l⟩⟩ := s
  have : l = [] := List.eq_nil_of_length_eq_zero h
  rw [this]
def allCont (l : List UInt8) : Bool := l.all cont8
theorem nameB_long (s : ByteArray) (h : 20 < s.size) : nameB s.data.toList = false := by
  have hl : s.data.toList.length = s.size := by simp
  cases hs : s.data.toList with
  | nil => rfl
  | cons b r =>
    rw [hs] at hl
    unfold nameB
    simp only [hl, decide_eq_false (show ¬ s.size ≤ 20 by omega), Bool.false_and]
theorem nameB_of (s : ByteArray) (h0 : 0 < s.size) (h : s.size ≤ 20) : nameB s.data.toList = (startB ((s[0]).toNat : Int) && allCont s.data.toList) := by
  have hl : s.data.toList.length = s.size := by simp
  have hd := drop_cons s 0 h0
  rw [List.drop_zero] at hd
  rw [hd] at hl ⊢
  unfold nameB
  simp only [hl, decide_eq_true h, Bool.true_and]
  rfl
theorem name_empty (w : World) : Calls Tryz.prog 139 #[.string ⟨#[]⟩] w fun e w' => e = .returned (.bool false) ∧ w' = w := by
  go_enter Tryz.func139, Tryz.ntmps139
  go_wp2_with fail
  go_ret
  exact ⟨rfl, rfl⟩
theorem name_long (s : ByteArray) (w : World) (h : 20 < s.size) (hne : s.toList.isEmpty = false) : Calls Tryz.prog 139 #[.string s] w fun e w' => e = .returned (.bool false) ∧ w' = w := by
  go_enter Tryz.func139, Tryz.ntmps139
  go_wp2_with fail
  go_ret
  exact ⟨rfl, rfl⟩
theorem name_other (s : ByteArray) (w : World) (h0 : 0 < s.size) (h : s.size ≤ 20) (hne : s.toList.isEmpty = false) (hst : startB ((s[0]).toNat : Int) = false) : Calls Tryz.prog 139 #[.string s] w fun e w' => e = .returned (.bool false) ∧ w' = w := by
  have HST : Hid (startB ((s[0]).toNat : Int) = false) := hst
  clear hst
  go_enter Tryz.func139, Tryz.ntmps139
  go_wp2_with fail
  refine (start_any _ _).mono ?_
  rintro e w' ⟨rfl, rfl⟩
  rw [HST.out]
  go_wp2_with fail
  go_ret
  exact ⟨rfl, rfl⟩
theorem name_start (s : ByteArray) (w : World) (h0 : 0 < s.size) (h : s.size ≤ 20) (hne : s.toList.isEmpty = false) (hst : startB ((s[0]).toNat : Int) = true) : Calls Tryz.prog 139 #[.string s] w fun e w' => e = .returned (.bool (allCont s.data.toList)) ∧ w' = w := by
  have HST : Hid (startB ((s[0]).toNat : Int) = true) := hst
  clear hst
  go_enter Tryz.func139, Tryz.ntmps139
  go_wp2_with fail
  refine (start_any _ _).mono ?_
  rintro e w' ⟨rfl, rfl⟩
  rw [HST.out]
  go_wp2_with fail
  go_loop [19] (fun v => ∃ k : Nat, k ≤ s.size ∧ v = .int .i64 k ∧ Hid (allCont s.data.toList = allCont (s.data.toList.drop k))) (fun v => s.size - (intOf v).toNat)
  case atStart => exact ⟨0, by omega, rfl, by simp [Hid]⟩
  case round =>
    obtain ⟨k, hk, rfl, hh⟩ := hrel
    by_cases hlt : k < s.size
    · have hd := drop_cons s k hlt
      cases hcb : contB ((s[k]).toNat : Int)
      · have hf : allCont s.data.toList = false := by
          rw [hh.out, hd, allCont, List.all_cons, show cont8 s[k] = false from hcb]; rfl
        have HF : Hid (allCont s.data.toList = false) := hf
        have HCB : Hid (contB ((s[k]).toNat : Int) = false) := hcb
        clear hf hcb hd hh
        go_wp2_with fail
        refine (cont_any _ _).mono ?_
        rintro e w' ⟨rfl, rfl⟩
        rw [HCB.out]
        go_wp2_with fail
        go_ret
        exact ⟨ret_bool HF.out.symm, rfl⟩
      · have hf : allCont s.data.toList = allCont (s.data.toList.drop (k + 1)) := by
          rw [hh.out, hd, allCont, List.all_cons, show cont8 s[k] = true from hcb]; rfl
        have HF : Hid (allCont s.data.toList = allCont (s.data.toList.drop (k + 1))) := hf
        have HCB : Hid (contB ((s[k]).toNat : Int) = true) := hcb
        clear hf hcb hd hh
        go_wp2_with fail
        refine (cont_any _ _).mono ?_
        rintro e w' ⟨rfl, rfl⟩
        rw [HCB.out]
        go_wp2_with fail
        exact ⟨⟨k + 1, by omega, by simp, HF.out⟩, by simp [intOf]; omega⟩
    · have hf : allCont s.data.toList = true := by
        rw [hh.out, List.drop_of_length_le (by simp; omega)]; rfl
      have HF : Hid (allCont s.data.toList = true) := hf
      clear hf hh
      go_wp2_with fail
      go_ret
      exact ⟨ret_bool HF.out.symm, rfl⟩
theorem name_any (s : ByteArray) (w : World) : Calls Tryz.prog 139 #[.string s] w fun e w' => e = .returned (.bool (nameB s.data.toList)) ∧ w' = w := by
  by_cases h0 : s.size = 0
  · rw [empty_of s h0]; exact name_empty w
  · have h1 : 0 < s.size := by omega
    have hne := nonempty_of s h1
    by_cases h : s.size ≤ 20
    · rw [nameB_of s h1 h]
      cases hst : startB ((s[0]).toNat : Int)
      · exact name_other s w h1 h hne hst
      · exact name_start s w h1 h hne hst
    · rw [nameB_long s (by omega)]
      exact name_long s w (by omega) hne

/-! ### closed texts -/
def tail92 (l : List UInt8) : Nat := (l.reverse.takeWhile (· == 92)).length
theorem tail92_le (l : List UInt8) : tail92 l ≤ l.length := by
  unfold tail92
  have := (List.takeWhile_sublist (l := l.reverse) (· == 92)).length_le
  simpa using this
theorem tail92_snoc (l : List UInt8) (c : UInt8) : tail92 (l ++ [c]) = if c = 92 then tail92 l + 1 else 0 := by
  unfold tail92
  rw [List.reverse_append, List.reverse_singleton, List.singleton_append, List.takeWhile_cons]
  by_cases h : c = 92 <;> simp [h]
theorem take_snoc (s : ByteArray) (k : Nat) (h : k < s.size) : s.data.toList.take (k + 1) = s.data.toList.take k ++ [s[k]] := by
  rw [List.take_add_one, s_get s k h]
  rfl
theorem extract_z (s : ByteArray) (k : Nat) (h : k ≤ s.size) : (s.extract 0 k).size = k := by rw [ByteArray.size_extract]; omega
theorem extract_at (s : ByteArray) (k j : Nat) (h : k ≤ s.size) (hj : j < k) : (s.extract 0 k)[j]'(by rw [extract_z s k h]; exact hj) = s[j]'(by omega) := by
  simp [ByteArray.getElem_extract]
theorem extract_two (s : ByteArray) (k j : Nat) (hj : j ≤ k) : (s.extract 0 k).extract 0 j = s.extract 0 j := by
  rw [ByteArray.extract_extract]
  congr 1 <;> omega
set_option maxHeartbeats 400000 in
theorem trim_byte (s : ByteArray) (hs : s.size < 4611686018427387904) (w : World) : Calls Tryz.prog 53 #[.string s, .int .u8 92] w fun e w' => e = .returned (.string (s.extract 0 (s.size - tail92 s.data.toList))) ∧ w' = w := by
  have e0 : s = s.extract 0 s.size := by simp
  have hle : tail92 s.data.toList ≤ s.size := by have := tail92_le s.data.toList; simpa using this
  go_enter Tryz.func53, Tryz.ntmps53
  go_wp2_with fail
  go_loop [0] (fun v => ∃ k : Nat, k ≤ s.size ∧ v = .string (s.extract 0 k) ∧ Hid (tail92 s.data.toList = tail92 (s.data.toList.take k) + (s.size - k))) (fun v => match v with | .string t => t.size | _ => 0)
  case atStart => exact ⟨s.size, by omega, by rw [← e0], by rw [List.take_of_length_le (by simp)]; simp [Hid]⟩
  case round =>
    obtain ⟨k, hk, rfl, hh⟩ := hrel
    clear e0
    have hz := extract_z s k hk
    by_cases h0 : 0 < k
    · obtain ⟨j, rfl⟩ : ∃ j, k = j + 1 := ⟨k - 1, by omega⟩
      have hx := extract_at s (j + 1) j hk (by omega)
      have HT : Hid (tail92 (s.data.toList.take (j + 1)) = if s[j] = 92 then tail92 (s.data.toList.take j) + 1 else 0) := by rw [take_snoc s j (by omega)]; exact tail92_snoc _ _
      have hxe : (s.extract 0 (j + 1)).extract 0 j = s.extract 0 j := extract_two s (j + 1) j (by omega)
      by_cases hc : s[j] = 92
      · go_wp2_with fail
        refine ⟨⟨j, by omega, rfl, ?_⟩, ?_⟩
        · have := HT.out
          rw [if_pos hc] at this
          have h1 := hh.out
          show tail92 s.data.toList = _
          omega
        · show (s.extract 0 j).size < (s.extract 0 (j + 1)).size
          rw [hz, extract_z s j (by omega)]
          omega
      · have hcn : ¬ ((s[j]).toNat : Int) = 92 := by intro h; apply hc; apply UInt8.toNat_inj.1; have : (92 : UInt8).toNat = 92 := rfl; omega
        go_wp2_with fail
        go_ret
        refine ⟨?_, rfl⟩
        have h1 := hh.out
        have := HT.out
        rw [if_neg hc] at this
        show Ending.returned (.string (s.extract 0 (j + 1))) = _
        rw [show s.size - tail92 s.data.toList = j + 1 by omega]
    · obtain rfl : k = 0 := by omega
      have h1 := hh.out
      have h2 : tail92 (s.data.toList.take 0) = 0 := rfl
      have h3 : s.size - tail92 s.data.toList = 0 := by omega
      have H3 : Hid (s.size - tail92 s.data.toList = 0) := h3
      clear h1 h2 h3 hh
      go_wp2_with fail
      go_ret
      refine ⟨?_, rfl⟩
      rw [H3.out]
      simp
set_option maxRecDepth 100000 in
theorem trimRight_any (s : ByteArray) (hs : s.size < 4611686018427387904) (w : World) : Calls Tryz.prog 37 #[.string s, .string ⟨#[92]⟩] w fun e w' => e = .returned (.string (s.extract 0 (s.size - tail92 s.data.toList))) ∧ w' = w := by
  by_cases h0 : s.size = 0
  · obtain rfl := empty_of s h0
    clear h0 hs
    go_enter Tryz.func37, Tryz.ntmps37
    go_wp2_with fail
    go_ret
    exact ⟨rfl, rfl⟩
  · have hne := nonempty_of s (by omega)
    go_enter Tryz.func37, Tryz.ntmps37
    go_wp2_with fail
    refine (trim_byte s hs _).mono ?_
    rintro e w1 ⟨rfl, rfl⟩
    go_wp2_with fail
    go_ret
    exact ⟨rfl, rfl⟩
theorem closed_any (s : ByteArray) (hs : s.size < 4611686018427387904) (w : World) : Calls Tryz.prog 138 #[.string s] w fun e w' => e = .returned (.bool (closedL s.data.toList)) ∧ w' = w := by
  have hle : tail92 s.data.toList ≤ s.size := by have := tail92_le s.data.toList; simpa using this
  have hz := extract_z s (s.size - tail92 s.data.toList) (by omega)
  have hcl : closedL s.data.toList = decide (tail92 s.data.toList % 2 = 0) := rfl
  rw [hcl]
  have hT := trimRight_any s hs
  obtain ⟨m, hm⟩ : ∃ m, tail92 s.data.toList = m := ⟨_, rfl⟩
  rw [hm] at hle hz ⊢
  have HT : Hid (∀ w : World, Calls Tryz.prog 37 #[.string s, .string ⟨#[92]⟩] w fun e w' => e = .returned (.string (s.extract 0 (s.size - m))) ∧ w' = w) := by rw [hm] at hT; exact hT
  clear hT hm hcl
  go_enter Tryz.func138, Tryz.ntmps138
  go_wp2_with fail
  refine (HT.out _).mono ?_
  rintro e w1 ⟨rfl, rfl⟩
  go_wp2_with fail
  go_ret
  exact ⟨ret_b (by simp; omega), rfl⟩
theorem str_sizeC (s : Txt) : (⟨s.toArray⟩ : ByteArray).size = s.length := by simp [ByteArray.size]
theorem string_any (x : Nd) (hs : x.s.length < 4611686018427387904) (w : World) : Calls Tryz.prog 94 #[ndV x] w fun e w' => e = .returned (.bool (strB x.kind x.n x.s)) ∧ Below w.heap.size w w' := by
  obtain ⟨kd, n, k, sz, s⟩ := x
  have hz := str_sizeC s
  have HS : Hid (s.length < 4611686018427387904) := hs
  clear hs
  by_cases h1 : kd = 1
  · subst h1
    by_cases hl : s.length ≤ 2000
    · by_cases hn : n = 0
      · subst hn
        go_enter Tryz.func94, Tryz.ntmps94
        go_wp2_with fail
        go_ret
        exact ⟨ret_b (by simp [strB, hl]), below_new _ _⟩
      · go_enter Tryz.func94, Tryz.ntmps94
        go_wp2_with fail
        refine (closed_any _ (by rw [hz]; exact HS.out) _).mono ?_
        rintro e w1 ⟨rfl, hw1⟩
        subst hw1
        go_wp2_with fail
        go_ret
        exact ⟨ret_b (by simp [strB, hl, hn]), below_new _ _⟩
    · go_enter Tryz.func94, Tryz.ntmps94
      go_wp2_with fail
      go_ret
      exact ⟨ret_b (by simp [strB, hl]), below_new _ _⟩
  by_cases h2 : kd = 2
  · subst h2
    by_cases he : s = [42]
    · subst he
      go_enter Tryz.func94, Tryz.ntmps94
      go_wp2_with fail
      go_ret
      exact ⟨ret_b (by simp [strB]), below_new _ _⟩
    · go_enter Tryz.func94, Tryz.ntmps94
      go_wp2_with fail
      refine (name_any _ _).mono ?_
      rintro e w1 ⟨rfl, hw1⟩
      subst hw1
      go_wp2_with fail
      go_ret
      exact ⟨ret_b (by simp [strB, he]), below_new _ _⟩
  by_cases h3 : kd = 22 ∨ kd = 29 ∨ kd = 35 ∨ kd = 31
  · rcases h3 with rfl | rfl | rfl | rfl
    all_goals
      go_enter Tryz.func94, Tryz.ntmps94
      go_wp2_with fail
      refine (name_any _ _).mono ?_
      rintro e w1 ⟨rfl, hw1⟩
      subst hw1
      go_wp2_with fail
      go_ret
      exact ⟨ret_b (by simp [strB]), below_new _ _⟩
  simp only [not_or] at h3
  obtain ⟨a1, a2, a3, a4⟩ := h3
  go_enter Tryz.func94, Tryz.ntmps94
  go_wp2_with fail
  go_ret
  exact ⟨ret_b (by simp [strB, h1, h2, a1, a2, a3, a4]), below_new _ _⟩
end Go.Proofs.YtfafhjglcaikoaaGreatDoor
/-! What is asked of nodes, in memory. -/
namespace Go.Proofs.YtfafhjglcaikoaaGreatDoor
open Go.RowKit
attribute [local go_sem] Oper.semAt_some

abbrev akC (a : Ak) : List Value := [.int .i64 a.fin, .int .i64 a.dep, .bool a.last, .bool a.word]
def akCs (A : List Ak) : List Value := A.flatMap akC
def akA (A : List Ak) : Array Value := (akCs A).toArray
theorem akCs_length (A : List Ak) : (akCs A).length = A.length * 4 := by
  induction A with
  | nil => rfl
  | cons x X ih => simp [akCs] at ih ⊢; omega
theorem akCs_at : ∀ (A : List Ak) (j i : Nat) (a : Ak), A[j]? = some a → i < 4 → (akCs A)[j * 4 + i]? = (akC a)[i]?
  | [], j, i, a, h, _ => by simp at h
  | b :: A, 0, i, a, h, hi => by
    simp at h
    subst h
    unfold akCs
    rw [List.flatMap_cons, Nat.zero_mul, Nat.zero_add, List.getElem?_append_left (by simpa using hi)]
  | b :: A, j + 1, i, a, h, hi => by
    have := akCs_at A j i a (by simpa using h) hi
    unfold akCs at this ⊢
    rw [List.flatMap_cons, List.getElem?_append_right (by simp; omega)]
    rw [← this]
    congr 1
    simp
    omega
theorem akCs_set : ∀ (A : List Ak) (j : Nat) (a : Ak), j < A.length → akCs (A.set j a) = ((((akCs A).set (j * 4) (.int .i64 a.fin)).set (j * 4 + 1) (.int .i64 a.dep)).set (j * 4 + 2) (.bool a.last)).set (j * 4 + 3) (.bool a.word)
  | [], j, a, h => by simp at h
  | b :: A, 0, a, h => by simp [akCs]
  | b :: A, j + 1, a, h => by
    have := akCs_set A j a (by simpa using h)
    have e0 : (j + 1) * 4 = (j * 4) + 1 + 1 + 1 + 1 := by omega
    simp only [akCs, List.flatMap_cons, List.set_cons_succ, e0] at this ⊢
    simp only [akC, List.cons_append, List.nil_append, List.set_cons_succ]
    rw [this]
/-- What is asked, in block b. -/
def AkAt (W : World) (b : Nat) (A : List Ak) : Prop := Cel W b 121 (akA A)
theorem AkAt.at {W : World} {b : Nat} {A : List Ak} (h : AkAt W b A) {j : Nat} {a : Ak} (hj : A[j]? = some a) :
    W.cell? ⟨b, j * 4, none⟩ = some (.int .i64 a.fin) ∧ W.cell? ⟨b, j * 4 + 1, none⟩ = some (.int .i64 a.dep) ∧ W.cell? ⟨b, j * 4 + 2, none⟩ = some (.bool a.last) ∧ W.cell? ⟨b, j * 4 + 3, none⟩ = some (.bool a.word) := by
  have hc := fun i hi => (Cel.cell h (j * 4 + i)).trans ((List.getElem?_toArray).trans (akCs_at A j i a hj hi))
  exact ⟨hc 0 (by omega), hc 1 (by omega), hc 2 (by omega), hc 3 (by omega)⟩
theorem AkAt.set {W : World} {b : Nat} {A : List Ak} (h : AkAt W b A) {j : Nat} (hj : j < A.length) (a : Ak) :
    AkAt ((((W.setCell ⟨b, j * 4, none⟩ (.int .i64 a.fin)).setCell ⟨b, j * 4 + 1, none⟩ (.int .i64 a.dep)).setCell ⟨b, j * 4 + 2, none⟩ (.bool a.last)).setCell ⟨b, j * 4 + 3, none⟩ (.bool a.word)) b (A.set j a) := by
  have h4 := ((((Cel.set h (j := j * 4) (.int .i64 a.fin)).set (j := j * 4 + 1) (.int .i64 a.dep)).set (j := j * 4 + 2) (.bool a.last)).set (j := j * 4 + 3) (.bool a.word))
  unfold AkAt akA
  rw [akCs_set A j a hj]
  simpa [akA] using h4
theorem AkAt.ok {W : World} {b : Nat} {A : List Ak} (h : AkAt W b A) {j : Nat} (hj : j < A.length) :
    (∃ u, W.cell? ⟨b, j * 4, none⟩ = some u) ∧ (∃ u, W.cell? ⟨b, j * 4 + 1, none⟩ = some u) ∧ (∃ u, W.cell? ⟨b, j * 4 + 2, none⟩ = some u) ∧ (∃ u, W.cell? ⟨b, j * 4 + 3, none⟩ = some u) := by
  obtain ⟨h0, h1, h2, h3⟩ := h.at (List.getElem?_eq_getElem hj)
  exact ⟨⟨_, h0⟩, ⟨_, h1⟩, ⟨_, h2⟩, ⟨_, h3⟩⟩
/-- One of them may be written. -/
theorem AkAt.store {W : World} {b : Nat} {A : List Ak} (h : AkAt W b A) {j : Nat} (hj : j < A.length) :
    ∃ u0 u1 u2 u3, W.cell? ⟨b, j * 4, none⟩ = some u0 ∧ W.frozen? ⟨b, j * 4, none⟩ = false ∧ (∀ v, (W.setCell ⟨b, j * 4, none⟩ v).cell? ⟨b, j * 4 + 1, none⟩ = some u1) ∧ (∀ v, (W.setCell ⟨b, j * 4, none⟩ v).frozen? ⟨b, j * 4 + 1, none⟩ = false) ∧
      (∀ v v', ((W.setCell ⟨b, j * 4, none⟩ v).setCell ⟨b, j * 4 + 1, none⟩ v').cell? ⟨b, j * 4 + 2, none⟩ = some u2) ∧ (∀ v v', ((W.setCell ⟨b, j * 4, none⟩ v).setCell ⟨b, j * 4 + 1, none⟩ v').frozen? ⟨b, j * 4 + 2, none⟩ = false) ∧
      (∀ v v' v'', (((W.setCell ⟨b, j * 4, none⟩ v).setCell ⟨b, j * 4 + 1, none⟩ v').setCell ⟨b, j * 4 + 2, none⟩ v'').cell? ⟨b, j * 4 + 3, none⟩ = some u3) ∧ (∀ v v' v'', (((W.setCell ⟨b, j * 4, none⟩ v).setCell ⟨b, j * 4 + 1, none⟩ v').setCell ⟨b, j * 4 + 2, none⟩ v'').frozen? ⟨b, j * 4 + 3, none⟩ = false) := by
  obtain ⟨⟨u0, h0⟩, ⟨u1, h1⟩, ⟨u2, h2⟩, ⟨u3, h3⟩⟩ := h.ok hj
  have q1 := fun v => Cel.set h (j := j * 4) v
  have q2 := fun v v' => (q1 v).set (j := j * 4 + 1) v'
  have q3 := fun v v' v'' => (q2 v v').set (j := j * 4 + 2) v''
  rw [Cel.cell h] at h1 h2 h3
  refine ⟨u0, u1, u2, u3, h0, Cel.frozen h _, fun v => ?_, fun v => (q1 v).frozen _, fun v v' => ?_, fun v v' => (q2 v v').frozen _, fun v v' v'' => ?_, fun v v' v'' => (q3 v v' v'').frozen _⟩
  · rw [(q1 v).cell, Array.getElem?_setIfInBounds_ne (by omega)]; exact h1
  · rw [(q2 v v').cell, Array.getElem?_setIfInBounds_ne (by omega), Array.getElem?_setIfInBounds_ne (by omega)]; exact h2
  · rw [(q3 v v' v'').cell, Array.getElem?_setIfInBounds_ne (by omega), Array.getElem?_setIfInBounds_ne (by omega), Array.getElem?_setIfInBounds_ne (by omega)]; exact h3
theorem info64 : (Tryz.prog.info? 121).map (fun i => (i.zero, i.size, i.bytes)) = some (some (.agg #[.int .i64 0, .int .i64 0, .bool false, .bool false]), 4, 24) := by kernel_rfl
theorem madeCells_get (zs : Array Value) (n j : Nat) (h : j < n) : (madeCells zs n)[j]? = some zs[j % zs.size]! := by
  unfold madeCells
  simp [h]
theorem made_ak (n : Nat) : madeCells (Value.agg #[.int .i64 0, .int .i64 0, .bool false, .bool false]).cells (n * 4) = akA (List.replicate n ak0) := by
  have e1 : (Value.agg #[.int .i64 0, .int .i64 0, .bool false, .bool false]).cells = #[.int .i64 0, .int .i64 0, .bool false, .bool false] := by rfl
  apply Array.ext'
  apply List.ext_getElem?
  intro j
  rw [Array.getElem?_toList]
  by_cases hj : j < n * 4
  · rw [madeCells_get _ _ _ hj]
    have hA : (List.replicate n ak0)[j / 4]? = some ak0 := by rw [List.getElem?_replicate, if_pos (by omega)]
    have := akCs_at _ (j / 4) (j % 4) ak0 hA (by omega)
    rw [show j / 4 * 4 + j % 4 = j by omega] at this
    show _ = (akCs _)[j]?
    rw [this, e1]
    have h4 : j % 4 < 4 := by omega
    show some (#[Value.int .i64 0, .int .i64 0, .bool false, .bool false][j % 4]!) = _
    generalize j % 4 = i at h4
    match i, h4 with
    | 0, _ => rfl
    | 1, _ => rfl
    | 2, _ => rfl
    | 3, _ => rfl
  · have h1 : (madeCells (Value.agg #[.int .i64 0, .int .i64 0, .bool false, .bool false]).cells (n * 4)).size ≤ j := by unfold madeCells; simp; omega
    rw [Array.getElem?_eq_none h1]
    show _ = (akCs _)[j]?
    rw [List.getElem?_eq_none (by rw [akCs_length]; simp; omega)]
theorem make_asked (n : Nat) (hn : n < 4294967296) (w : World) : (Instr.makeSlice 122 (.int .i64 (n : Int)) (.int .i64 (n : Int))).run Tryz.prog w = .ok (.slice (some ⟨w.heap.size, 0, none⟩) n n) (w.alloc (.cells (akA (List.replicate n ak0)) 121)) := by
  obtain ⟨i0, hi0, hz0, hz1, hz2⟩ := info_parts info64
  have h := run_make (P := Tryz.prog) w 122 121 i0 _ Tryz.underlying122 hi0 hz0 .i64 .i64 (n : Int) (n : Int) (by omega) (Int.le_refl _) (by rw [hz2]; omega) (by omega)
  rw [hz1, show ((n : Int)).toNat = n by omega, made_ak] at h
  exact h
/-- A program in memory: its nodes, and what is asked of them. -/
structure PrAt (W : World) (pb ab : Nat) (v : Value) (n : Nat) (A : List Ak) : Prop where
  len : A.length = n
  prog : Cel W pb 124 #[v, .slice (some ⟨ab, 0, none⟩) n n]
  ask : AkAt W ab A

set_option maxHeartbeats 1000000 in
theorem newProgram_any (v : Value) (ad : Option Addr) (n cap : Nat) (hv : v = .slice ad n cap) (h0 : 0 < n) (hn : n < 4294967296) (w : World) :
    Calls Tryz.prog 57 #[v] w fun e w' => ∃ pb ab, e = .returned (.pointer (some ⟨pb, 0, none⟩)) ∧ PrAt w' pb ab v n (aks n) ∧ w.heap.size ≤ pb ∧ w.heap.size ≤ ab ∧ Below w.heap.size w w' := by
  subst hv
  have hmk := make_asked n hn
  go_enter Tryz.func57, Tryz.ntmps57
  go_upto_region 2 with fail
  obtain ⟨w1, hw1⟩ : ∃ w1, w1 = w.alloc (.cells (akA (List.replicate n ak0)) 121) := ⟨_, rfl⟩
  have hz1 : w1.heap.size = w.heap.size + 1 := by rw [hw1]; simp
  have hb1 : Below w.heap.size w w1 := by rw [hw1]; exact below_new _ _
  have hA1 : AkAt w1 w.heap.size (List.replicate n ak0) := by rw [hw1]; exact Cel.new _ _ _
  obtain ⟨w2, hw2⟩ : ∃ w2, w2 = w1.alloc (.cells #[.slice ad n cap, .slice (some ⟨w.heap.size, 0, none⟩) n n] 124) := ⟨_, rfl⟩
  have hP2 : Cel w2 (w.heap.size + 1) 124 #[.slice ad n cap, .slice (some ⟨w.heap.size, 0, none⟩) n n] := by rw [hw2, ← hz1]; exact Cel.new _ _ _
  have hA2 : AkAt w2 w.heap.size (List.replicate n ak0) := by rw [hw2]; exact Cel.below hA1 (below_new _ _) (by omega)
  have hb2 : Below w.heap.size w w2 := by rw [hw2]; exact hb1.alloc hb1.size _
  rw [← hw1, ← hw2]
  obtain ⟨u0, u1, u2, u3, c0, f0, c1, f1, c2, f2, c3, f3⟩ := hA2.store (j := 0) (by simpa using h0)
  simp only [Nat.zero_mul, Nat.zero_add] at c0 f0 c1 f1 c2 f2 c3 f3
  have p1 : w2.cell? ⟨w.heap.size + 1, 1, none⟩ = some (.slice (some ⟨w.heap.size, 0, none⟩) n n) := hP2.cell 1
  have HA : Hid (AkAt w2 w.heap.size (List.replicate n ak0)) := hA2
  have HP : Hid (Cel w2 (w.heap.size + 1) 124 #[.slice ad n cap, .slice (some ⟨w.heap.size, 0, none⟩) n n]) := hP2
  clear hA2 hP2 hA1 hw1 hw2 hz1 hb1 hmk w1
  go_wp2_with fail
  go_ret
  refine ⟨w.heap.size + 1, w.heap.size, rfl, ⟨aks_len n h0, ?_, ?_⟩, by omega, Nat.le_refl _, ?_⟩
  · exact (((HP.out.other (by omega) _).other (by omega) _).other (by omega) _).other (by omega) _
  · have := HA.out.set (j := 0) (by simpa using h0) ⟨n, 1, true, false⟩
    have e : (List.replicate n ak0).set 0 ⟨n, 1, true, false⟩ = aks n := by
      obtain ⟨m, rfl⟩ : ∃ m, n = m + 1 := ⟨n - 1, by omega⟩
      simp [aks, List.replicate_succ]
    rw [e] at this
    simpa using this
  · exact (((hb2.setCell (p := ⟨w.heap.size, 0, none⟩) (Nat.le_refl _) _).setCell (p := ⟨w.heap.size, 1, none⟩) (Nat.le_refl _) _).setCell (p := ⟨w.heap.size, 2, none⟩) (Nat.le_refl _) _).setCell (p := ⟨w.heap.size, 3, none⟩) (Nat.le_refl _) _
end Go.Proofs.YtfafhjglcaikoaaGreatDoor
/-! May a node be what is asked of it? -/
namespace Go.Proofs.YtfafhjglcaikoaaGreatDoor
open Go.RowKit
attribute [local go_sem] Oper.semAt_some

theorem two_new (W : World) (t1 t2 : TypeId) (c1 c2 : Array Value) : Cel ((W.alloc (.cells c1 t1)).alloc (.cells c2 t2)).drew W.heap.size t1 c1 ∧ Cel ((W.alloc (.cells c1 t1)).alloc (.cells c2 t2)).drew (W.heap.size + 1) t2 c2 ∧ Below W.heap.size W ((W.alloc (.cells c1 t1)).alloc (.cells c2 t2)).drew := by
  have hb := below_new W (.cells c1 t1)
  have e : (W.alloc (.cells c1 t1)).heap.size = W.heap.size + 1 := by simp
  refine ⟨?_, ?_, (hb.alloc hb.size _).drew⟩
  · exact Cel.below (B := W.heap.size + 1) (Cel.new W t1 c1) (by rw [← e]; exact (below_new _ _).drew) (by omega)
  · have := Cel.new (W.alloc (.cells c1 t1)) t2 c2
    rw [e] at this
    exact this
set_option maxRecDepth 100000 in
set_option maxHeartbeats 4000000 in
theorem mayBe_any (X : List Nd) (A : List Ak) (pb ab : Nat) (v : Value) (i : Nat) (x : Nd) (a : Ak) (W : World) (hP : PrAt W pb ab v X.length A) (hN : NdAt W v X) (hx : X[i]? = some x) (ha : A[i]? = some a) (hi : i < 4294967296) (hs : x.s.length < 4611686018427387904) (hf0 : -4294967296 ≤ a.fin) (hf1 : a.fin ≤ 4294967296) :
    Calls Tryz.prog 58 #[.pointer (some ⟨pb, 0, none⟩), .int .i64 i] W fun e w' => e = .returned (.bool (mayB x a i)) ∧ Below W.heap.size W w' := by
  obtain ⟨g, o, cap, hv, hg, c0, c1, c2, c3, c4⟩ := hN.at hx
  subst hv
  have hlt : i < X.length := (List.getElem?_eq_some_iff.1 hx).1
  have p0 : W.cell? ⟨pb, 0, none⟩ = some (.slice (some ⟨g, o, none⟩) X.length cap) := hP.prog.cell 0
  have p1 : W.cell? ⟨pb, 1, none⟩ = some (.slice (some ⟨ab, 0, none⟩) X.length X.length) := hP.prog.cell 1
  obtain ⟨a0, a1, a2, a3⟩ := hP.ask.at ha
  have hpb : pb < W.heap.size := hP.prog.lt
  have hab : ab < W.heap.size := Cel.lt hP.ask
  clear hP hN hx ha
  obtain ⟨kd, n, k, sz, s⟩ := x
  obtain ⟨fin, dep, last, word⟩ := a
  simp only at c0 c1 c2 c3 c4 a0 a1 a2 a3 hf0 hf1 hs
  have hlt' : (i : Int) < (X.length : Int) := by omega
  go_enter Tryz.func58, Tryz.ntmps58
  go_upto_region 1 with fail
  go_cut [5, 6] from 7 to 20 (fun v5 v6 wx => ∃ b5 b6, v5 = .pointer (some ⟨b5, 0, none⟩) ∧ v6 = .pointer (some ⟨b6, 0, none⟩) ∧ Cel wx b5 40 #[.int .i64 kd, .int .i64 n, .int .i64 k, .int .i64 sz, str s] ∧ Cel wx b6 121 #[.int .i64 fin, .int .i64 dep, .bool last, .bool word] ∧ Below W.heap.size W wx)
  case first => as_aux_lemma =>
    go_region
    all_goals (go_wp2_with fail; go_meet)
    · obtain ⟨q1, q2, q3⟩ := two_new W 40 121 #[.int .i64 kd, .int .i64 n, .int .i64 k, .int .i64 sz, str s] #[.int .i64 fin, .int .i64 dep, .bool last, .bool word]
      exact ⟨_, _, rfl, rfl, q1, q2, q3⟩
    · obtain ⟨q1, q2, q3⟩ := two_new W 121 40 #[.int .i64 fin, .int .i64 dep, .bool last, .bool word] #[.int .i64 kd, .int .i64 n, .int .i64 k, .int .i64 sz, str s]
      exact ⟨_, _, rfl, rfl, q2, q1, q3⟩
  case rest =>
    obtain ⟨b5, b6, rfl, rfl, q5, q6, hbc⟩ := hcut
    clear c0 c1 c2 c3 c4 a0 a1 a2 a3 p0 p1
    have Q5 : Hid (∀ W', Below wc.heap.size wc W' → Cel W' b5 40 #[.int .i64 kd, .int .i64 n, .int .i64 k, .int .i64 sz, str s]) := fun W' hb => Cel.below q5 hb q5.lt
    have Q6 : Hid (∀ W', Below wc.heap.size wc W' → Cel W' b6 121 #[.int .i64 fin, .int .i64 dep, .bool last, .bool word]) := fun W' hb => Cel.below q6 hb q6.lt
    have d0 := q5.cell 0
    have d1 := q5.cell 1
    have d2 := q5.cell 2
    have d3 := q5.cell 3
    have d4 := q5.cell 4
    have e3 := q6.cell 3
    simp only [List.getElem?_toArray, List.getElem?_cons_zero, List.getElem?_cons_succ] at d0 d1 d2 d3 d4 e3
    clear q5 q6
    have HM : Hid (mayB ⟨kd, n, k, sz, s⟩ ⟨fin, dep, last, word⟩ i = (isOneB kd word && numB kd n && strB kd n s && cntB kd k && sizB k sz (fin - i) last)) := rfl
    go_wp2_with fail
    refine (isOne_any _ _ _).mono ?_
    rintro e w1 ⟨rfl, hw1⟩
    subst hw1
    cases h1 : isOneB kd word with
    | false =>
      go_wp2_with fail
      go_ret
      exact ⟨ret_bool (by rw [HM.out, h1]; rfl), hbc⟩
    | true =>
      go_wp2_with fail
      refine (number_any ⟨kd, n, k, sz, s⟩ _).mono ?_
      rintro e w2 ⟨rfl, hw2⟩
      have HW2 : Hid (Below w1.heap.size w1 w2) := hw2
      obtain ⟨b2, hb2⟩ : ∃ b2, numB kd n = b2 := ⟨_, rfl⟩
      simp only [hb2]
      clear d0 d1 d2 d3 d4 e3 hw2
      have d0 := (Q5.out _ HW2.out).cell 0
      have d1 := (Q5.out _ HW2.out).cell 1
      have d2 := (Q5.out _ HW2.out).cell 2
      have d3 := (Q5.out _ HW2.out).cell 3
      have d4 := (Q5.out _ HW2.out).cell 4
      simp only [List.getElem?_toArray, List.getElem?_cons_zero, List.getElem?_cons_succ] at d0 d1 d2 d3 d4
      cases b2 with
      | false =>
        go_wp2_with fail
        go_ret
        exact ⟨ret_bool (by rw [HM.out, h1, hb2]; rfl), hbc.trans (HW2.out.mono hbc.size)⟩
      | true =>
        go_wp2_with fail
        refine (string_any ⟨kd, n, k, sz, s⟩ hs _).mono ?_
        rintro e w3 ⟨rfl, hw3⟩
        have HW3 : Hid (Below w1.heap.size w1 w3) := HW2.out.trans (hw3.mono HW2.out.size)
        obtain ⟨b3, hb3⟩ : ∃ b3, strB kd n s = b3 := ⟨_, rfl⟩
        simp only [hb3]
        clear d0 d1 d2 d3 d4 hw3
        have d0 := (Q5.out _ HW3.out).cell 0
        have d1 := (Q5.out _ HW3.out).cell 1
        have d2 := (Q5.out _ HW3.out).cell 2
        have d3 := (Q5.out _ HW3.out).cell 3
        have d4 := (Q5.out _ HW3.out).cell 4
        simp only [List.getElem?_toArray, List.getElem?_cons_zero, List.getElem?_cons_succ] at d0 d1 d2 d3 d4
        cases b3 with
        | false =>
          go_wp2_with fail
          go_ret
          exact ⟨ret_bool (by rw [HM.out, h1, hb2, hb3]; rfl), hbc.trans (HW3.out.mono hbc.size)⟩
        | true =>
          go_wp2_with fail
          refine (count_any ⟨kd, n, k, sz, s⟩ _).mono ?_
          rintro e w4 ⟨rfl, hw4⟩
          have HW4 : Hid (Below w1.heap.size w1 w4) := HW3.out.trans (hw4.mono HW3.out.size)
          obtain ⟨b4, hb4⟩ : ∃ b4, cntB kd k = b4 := ⟨_, rfl⟩
          simp only [hb4]
          clear d0 d1 d2 d3 d4 hw4
          have d0 := (Q5.out _ HW4.out).cell 0
          have d1 := (Q5.out _ HW4.out).cell 1
          have d2 := (Q5.out _ HW4.out).cell 2
          have d3 := (Q5.out _ HW4.out).cell 3
          have d4 := (Q5.out _ HW4.out).cell 4
          have e0 := (Q6.out _ HW4.out).cell 0
          have e2 := (Q6.out _ HW4.out).cell 2
          simp only [List.getElem?_toArray, List.getElem?_cons_zero, List.getElem?_cons_succ] at d0 d1 d2 d3 d4 e0 e2
          cases b4 with
          | false =>
            go_wp2_with fail
            go_ret
            exact ⟨ret_bool (by rw [HM.out, h1, hb2, hb3, hb4]; rfl), hbc.trans (HW4.out.mono hbc.size)⟩
          | true =>
            go_wp2_with fail
            refine (size_any ⟨kd, n, k, sz, s⟩ (fin - i) last _).mono ?_
            rintro e w5 ⟨rfl, hw5⟩
            have HW5 : Hid (Below w1.heap.size w1 w5) := HW4.out.trans (hw5.mono HW4.out.size)
            clear d0 d1 d2 d3 d4 hw5
            go_wp2_with fail
            go_ret
            exact ⟨ret_bool (by rw [HM.out, h1, hb2, hb3, hb4]; simp), hbc.trans (HW5.out.mono hbc.size)⟩
end Go.Proofs.YtfafhjglcaikoaaGreatDoor
namespace Go.Proofs.YtfafhjglcaikoaaGreatDoor
open Go.RowKit
attribute [local go_sem] Oper.semAt_some

/-- What is read while a child is told. -/
def Told (pb ab n i b5 : Nat) (dep kd nn K sz : Int) (s : Txt) (w : World) : Prop :=
  w.cell? ⟨pb, 1, none⟩ = some (.slice (some ⟨ab, 0, none⟩) n n) ∧ w.cell? ⟨ab, i * 4 + 1, none⟩ = some (.int .i64 dep) ∧
  w.cell? ⟨b5, 0, none⟩ = some (.int .i64 kd) ∧ w.cell? ⟨b5, 1, none⟩ = some (.int .i64 nn) ∧ w.cell? ⟨b5, 2, none⟩ = some (.int .i64 K) ∧ w.cell? ⟨b5, 3, none⟩ = some (.int .i64 sz) ∧ w.cell? ⟨b5, 4, none⟩ = some (str s)
theorem PrAt.turn {W W' : World} {pb ab n : Nat} {v : Value} {A : List Ak} {S : Nat → Prop} (h : PrAt W pb ab v n A) (hT : Turn S W W') (h1 : ¬ S pb) (h2 : ¬ S ab) : PrAt W' pb ab v n A :=
  ⟨h.len, h.prog.turn hT h1, Cel.turn h.ask hT h2⟩
theorem PrAt.drew {W : World} {pb ab n : Nat} {v : Value} {A : List Ak} (h : PrAt W pb ab v n A) : PrAt W.drew pb ab v n A := ⟨h.len, h.prog, h.ask⟩
theorem PrAt.apart {W : World} {pb ab n : Nat} {v : Value} {A : List Ak} (h : PrAt W pb ab v n A) : pb ≠ ab := by
  intro e
  have h1 := h.prog
  rw [e] at h1
  have := (show W.heap[ab]? = _ from h1).symm.trans (show W.heap[ab]? = _ from h.ask)
  simp at this
theorem told_of {W : World} {pb ab n i b5 : Nat} {v : Value} {A : List Ak} {a : Ak} {x : Nd} (h : PrAt W pb ab v n A) (ha : A[i]? = some a) (h5 : Cel W b5 40 (ndC x).toArray) : Told pb ab n i b5 a.dep x.kind x.n x.k x.size x.s W :=
  ⟨h.prog.cell 1, (h.ask.at ha).2.1, h5.cell 0, h5.cell 1, h5.cell 2, h5.cell 3, h5.cell 4⟩
theorem PrAt.told {W : World} {pb ab n : Nat} {v : Value} {A : List Ak} (h : PrAt W pb ab v n A) {j : Nat} (hj : j < n) (a : Ak) :
    PrAt ((((W.setCell ⟨ab, j * 4, none⟩ (.int .i64 a.fin)).setCell ⟨ab, j * 4 + 1, none⟩ (.int .i64 a.dep)).setCell ⟨ab, j * 4 + 2, none⟩ (.bool a.last)).setCell ⟨ab, j * 4 + 3, none⟩ (.bool a.word)) pb ab v n (A.set j a) :=
  ⟨by rw [List.length_set]; exact h.len, (((h.prog.other h.apart _).other h.apart _).other h.apart _).other h.apart _, h.ask.set (by rw [h.len]; exact hj) a⟩
theorem Turn.told {W W1 : World} {ab : Nat} (h : Turn (fun b => b = ab) W W1) (j : Nat) (v0 v1 v2 v3 : Value) :
    Turn (fun b => b = ab) W ((((W1.setCell ⟨ab, j * 4, none⟩ v0).setCell ⟨ab, j * 4 + 1, none⟩ v1).setCell ⟨ab, j * 4 + 2, none⟩ v2).setCell ⟨ab, j * 4 + 3, none⟩ v3) :=
  (((h.setCell (p := ⟨ab, j * 4, none⟩) (fun _ => rfl) v0).setCell (p := ⟨ab, j * 4 + 1, none⟩) (fun _ => rfl) v1).setCell (p := ⟨ab, j * 4 + 2, none⟩) (fun _ => rfl) v2).setCell (p := ⟨ab, j * 4 + 3, none⟩) (fun _ => rfl) v3
theorem askG_false (l : List Nd) (x : Nd) (dep : Int) (fin f k at_ : Nat) (A : List Ak) (hf : fin - at_ < f) (hk : (k : Int) < x.k) (h : fin ≤ at_) : askG l x dep fin f k at_ A = (false, A) := by
  obtain ⟨f, rfl⟩ : ∃ f', f = f' + 1 := ⟨f - 1, by omega⟩
  rw [askG, if_pos hk, if_pos h]
theorem askG_end (l : List Nd) (x : Nd) (dep : Int) (fin f k at_ : Nat) (A : List Ak) (hk : ¬ (k : Int) < x.k) : askG l x dep fin f k at_ A = (true, A) := by
  cases f with
  | zero => rfl
  | succ f => rw [askG, if_neg hk]
theorem askG_small (l : List Nd) (x y : Nd) (dep : Int) (fin f k at_ : Nat) (A : List Ak) (hf : fin - at_ < f) (hk : (k : Int) < x.k) (h : at_ < fin) (hy : l[at_]? = some y) (hs : y.size < 1) : askG l x dep fin f k at_ A = (true, A.set at_ ⟨fin, dep + 1, decide ((k : Int) = x.k - 1), wordAtB x.kind x.k k⟩) := by
  obtain ⟨f, rfl⟩ : ∃ f', f = f' + 1 := ⟨f - 1, by omega⟩
  rw [askG, if_pos hk, if_neg (by omega), hy]
  simp only [if_pos hs]
theorem askG_more (l : List Nd) (x y : Nd) (dep : Int) (fin f k at_ : Nat) (A : List Ak) (hk : (k : Int) < x.k) (h : at_ < fin) (hy : l[at_]? = some y) (hs : ¬ y.size < 1) : askG l x dep fin (f + 1) k at_ A = askG l x dep fin f (k + 1) (at_ + (min y.size ((fin - at_ : Nat) : Int)).toNat) (A.set at_ ⟨fin, dep + 1, decide ((k : Int) = x.k - 1), wordAtB x.kind x.k k⟩) := by
  rw [askG, if_pos hk, if_neg (by omega), hy]
  simp only [if_neg hs]

set_option maxRecDepth 100000 in
set_option maxHeartbeats 4000000 in
theorem askKids_any (X : List Nd) (A : List Ak) (pb ab g o cap : Nat) (i : Nat) (x : Nd) (a : Ak) (W : World) (hP : PrAt W pb ab (.slice (some ⟨g, o, none⟩) X.length cap) X.length A) (hN : NdAt W (.slice (some ⟨g, o, none⟩) X.length cap) X) (hgab : g ≠ ab) (hx : X[i]? = some x) (ha : A[i]? = some a) (hl : X.length < 4294967296)
    (fin : Nat) (h1 : 1 ≤ x.size) (hfin : x.size = (fin : Int) - i) (h2 : fin ≤ X.length) (hK2 : x.k ≤ 9223372036854775807) (hd0 : -4294967296 ≤ a.dep) (hd1 : a.dep ≤ 4294967296) (R : Bool × List Ak) (hR : askG X x a.dep fin (fin + 1) 0 (i + 1) A = R) :
    Calls Tryz.prog 59 #[.pointer (some ⟨pb, 0, none⟩), .int .i64 i] W fun e w' => e = .returned (.bool R.1) ∧ PrAt w' pb ab (.slice (some ⟨g, o, none⟩) X.length cap) X.length R.2 ∧ Turn (fun b => b = ab) W w' := by
  have hlt : i < X.length := (List.getElem?_eq_some_iff.1 hx).1
  obtain ⟨g', o', cap', hv, hg, c0, c1, c2, c3, c4⟩ := hN.at hx
  cases hv
  have p0 : W.cell? ⟨pb, 0, none⟩ = some (.slice (some ⟨g, o, none⟩) X.length cap) := hP.prog.cell 0
  have HN : Hid (∀ W', Turn (fun b => b = ab) W W' → NdAt W' (.slice (some ⟨g, o, none⟩) X.length cap) X) := fun W' hT => hN.turn hT (by simpa [Value.ownBlock] using hgab)
  have HP : Hid (PrAt W pb ab (.slice (some ⟨g, o, none⟩) X.length cap) X.length A) := hP
  have HA : Hid (A[i]? = some a) := ha
  have HR : Hid (askG X x a.dep fin (fin + 1) 0 (i + 1) A = R) := hR
  have hpab := hP.apart
  have hab : ab < W.heap.size := Cel.lt hP.ask
  have hpb : pb < W.heap.size := hP.prog.lt
  clear hP hN hx ha hR
  obtain ⟨kd, nn, K, sz, s⟩ := x
  obtain ⟨afin, dep, alast, aword⟩ := a
  simp only at c0 c1 c2 c3 c4 h1 hfin hK2 hd0 hd1
  have hlt' : (i : Int) < (X.length : Int) := by omega
  have hsum : (i : Int) + sz = (fin : Int) := by omega
  have hif : i < fin := by omega
  clear hfin h1
  go_enter Tryz.func59, Tryz.ntmps59
  go_upto_region 2 with fail
  obtain ⟨b5, hb5⟩ : ∃ b5, W.heap.size = b5 := ⟨_, rfl⟩
  obtain ⟨w1, hw1⟩ : ∃ w1, w1 = W.alloc (.cells #[.int .i64 kd, .int .i64 nn, .int .i64 K, .int .i64 sz, str s] 40) := ⟨_, rfl⟩
  have H5 : Hid (Cel w1 b5 40 #[.int .i64 kd, .int .i64 nn, .int .i64 K, .int .i64 sz, str s]) := by unfold Hid; rw [hw1, ← hb5]; exact Cel.new _ _ _
  have HT1 : Hid (Turn (fun b => b = ab) W w1) := by unfold Hid; rw [hw1]; exact (Turn.refl _ W).alloc _
  have HP1 : Hid (PrAt w1 pb ab (.slice (some ⟨g, o, none⟩) X.length cap) X.length A) := by unfold Hid; rw [hw1]; exact HP.out.turn (S := fun _ => False) ((Turn.refl _ W).alloc _) (fun h => h) (fun h => h)
  rw [← hw1, hb5]
  have d2 := H5.out.cell 2
  have d3 := H5.out.cell 3
  simp only [List.getElem?_toArray, List.getElem?_cons_zero, List.getElem?_cons_succ] at d2 d3
  clear c0 c1 c2 c3 c4 p0 hw1
  go_wp2_with fail
  clear d2 d3 hsum
  go_loopw [7, 24] (fun v7 v24 wr => ∃ (k at_ f : Nat) (A' : List Ak), v7 = .int .i64 at_ ∧ v24 = .int .i64 k ∧ at_ ≤ fin ∧ i < at_ ∧ k ≤ at_ ∧ fin - at_ < f ∧ Hid (askG X ⟨kd, nn, K, sz, s⟩ dep fin f k at_ A' = R) ∧ Hid (A'[i]? = some ⟨afin, dep, alast, aword⟩) ∧ Hid (PrAt wr pb ab (.slice (some ⟨g, o, none⟩) X.length cap) X.length A') ∧ Hid (Turn (fun b => b = ab) W wr) ∧ Hid (Cel wr b5 40 #[.int .i64 kd, .int .i64 nn, .int .i64 K, .int .i64 sz, str s])) (fun v7 _ _ => fin - (intOf v7).toNat)
  case atStart => exact ⟨0, i + 1, fin + 1, A, by simp, rfl, by omega, by omega, by omega, by omega, HR.out, HA.out, HP1.out, HT1.out, H5.out⟩
  case round =>
    obtain ⟨k, at_, f, A', rfl, rfl, hat, hia, hka, hff, HRR, HAA, HPP, HTT, HBB⟩ := hrel
    by_cases hk : (k : Int) < K
    · by_cases hge : fin ≤ at_
      · have hr := HRR.out.symm.trans (askG_false X ⟨kd, nn, K, sz, s⟩ dep fin f k at_ A' hff hk hge)
        have hge' : (fin : Int) ≤ (at_ : Int) := by omega
        have HRF : Hid (R = (false, A')) := hr
        clear hr
        go_wp2_with fail
        go_ret
        rw [HRF.out]
        exact ⟨rfl, HPP.out, HTT.out⟩
      · have hlt2 : at_ < X.length := by omega
        obtain ⟨y, hy⟩ : ∃ y, X[at_]? = some y := ⟨_, List.getElem?_eq_getElem hlt2⟩
        have hAl : A'.length = X.length := HPP.out.len
        have hat' : (at_ : Int) < (X.length : Int) := by omega
        have hge' : ¬ (fin : Int) ≤ (at_ : Int) := by omega
        have HYY : Hid (X[at_]? = some y) := hy
        obtain ⟨A2, hA2⟩ : ∃ A2, A2 = A'.set at_ ⟨fin, dep + 1, decide ((k : Int) = K - 1), wordAtB kd K k⟩ := ⟨_, rfl⟩
        have HA2 : Hid (A2 = A'.set at_ ⟨fin, dep + 1, decide ((k : Int) = K - 1), wordAtB kd K k⟩) := hA2
        clear hy hA2
        go_upto_region 9 with fail
        go_cut [24] from 24 to 78 (fun v24 wx => v24 = .int .i64 k ∧ Hid (PrAt wx pb ab (.slice (some ⟨g, o, none⟩) X.length cap) X.length A2) ∧ Hid (Turn (fun b => b = ab) W wx) ∧ Hid (Cel wx b5 40 #[.int .i64 kd, .int .i64 nn, .int .i64 K, .int .i64 sz, str s]))
        case first => as_aux_lemma =>
          refine wp_region_held (S := Told pb ab X.length i b5 dep kd nn K sz s) (by kernel_rfl) ?_
          change wpAnyH _ _ _ _ _ _ _ _ (World.drew _)
          have hS0 : Told pb ab X.length i b5 dep kd nn K sz s (World.drew wr) := told_of (a := ⟨afin, dep, alast, aword⟩) (x := ⟨kd, nn, K, sz, s⟩) HPP.out.drew HAA.out HBB.out
          refine wpAnyH_take (i := 0) (v := .pointer (some ⟨pb, 0, none⟩)) rfl (by kernel_rfl) (by kernel_rfl) (by kernel_rfl) (fun _ _ _ h => h) (Yields.yieldsIf (Or.inl ⟨by rfl, by intro wz; go_simp⟩)) hS0 ?_
          try simp only [Act.put, List.getElem_toArray, List.getElem_cons_zero, List.setIfInBounds_toArray, List.set_cons_zero, List.set_cons_succ]
          refine wpAnyH_take (i := 1) (v := .pointer (some ⟨pb, 0, none⟩)) rfl (by kernel_rfl) (by kernel_rfl) (by kernel_rfl) (fun _ _ _ h => h) (Yields.yieldsIf (Or.inl ⟨by rfl, by intro wz; go_simp⟩)) hS0 ?_
          try simp only [Act.put, List.getElem_toArray, List.getElem_cons_succ, List.getElem_cons_zero, List.setIfInBounds_toArray, List.set_cons_zero, List.set_cons_succ]
          refine wpAnyH_take (i := 2) (v := .pointer (some ⟨pb, 1, none⟩)) rfl (by kernel_rfl) (by kernel_rfl) (by kernel_rfl) (fun _ _ _ h => h) (Yields.yieldsIf (Or.inl ⟨by rfl, by intro wz; go_simp⟩)) hS0 ?_
          try simp only [Act.put, List.getElem_toArray, List.getElem_cons_succ, List.getElem_cons_zero, List.setIfInBounds_toArray, List.set_cons_zero, List.set_cons_succ]
          refine wpAnyH_take (i := 3) (v := .slice (some ⟨ab, 0, none⟩) X.length X.length) rfl (by kernel_rfl) (by kernel_rfl) (by kernel_rfl) (fun _ _ _ h => h) (Or.inl ⟨by rfl, fun wz hS => by obtain ⟨s1, s2, t0, t1, t2, t3, t4⟩ := hS; go_simp⟩) hS0 ?_
          try simp only [Act.put, List.getElem_toArray, List.getElem_cons_succ, List.getElem_cons_zero, List.setIfInBounds_toArray, List.set_cons_zero, List.set_cons_succ]
          refine wpAnyH_take (i := 4) (v := .int .i64 (at_ : Int)) rfl (by kernel_rfl) (by kernel_rfl) (by kernel_rfl) (fun _ _ _ h => h) (Yields.yieldsIf (Or.inl ⟨by rfl, by intro wz; go_simp⟩)) hS0 ?_
          try simp only [Act.put, List.getElem_toArray, List.getElem_cons_succ, List.getElem_cons_zero, List.setIfInBounds_toArray, List.set_cons_zero, List.set_cons_succ]
          refine wpAnyH_take (i := 5) (v := .int .i64 (fin : Int)) rfl (by kernel_rfl) (by kernel_rfl) (by kernel_rfl) (fun _ _ _ h => h) (Yields.yieldsIf (Or.inl ⟨by rfl, by intro wz; go_simp⟩)) hS0 ?_
          try simp only [Act.put, List.getElem_toArray, List.getElem_cons_succ, List.getElem_cons_zero, List.setIfInBounds_toArray, List.set_cons_zero, List.set_cons_succ]
          refine wpAnyH_take (i := 6) (v := .pointer (some ⟨pb, 0, none⟩)) rfl (by kernel_rfl) (by kernel_rfl) (by kernel_rfl) (fun _ _ _ h => h) (Yields.yieldsIf (Or.inl ⟨by rfl, by intro wz; go_simp⟩)) hS0 ?_
          try simp only [Act.put, List.getElem_toArray, List.getElem_cons_succ, List.getElem_cons_zero, List.setIfInBounds_toArray, List.set_cons_zero, List.set_cons_succ]
          refine wpAnyH_take (i := 7) (v := .pointer (some ⟨pb, 0, none⟩)) rfl (by kernel_rfl) (by kernel_rfl) (by kernel_rfl) (fun _ _ _ h => h) (Yields.yieldsIf (Or.inl ⟨by rfl, by intro wz; go_simp⟩)) hS0 ?_
          try simp only [Act.put, List.getElem_toArray, List.getElem_cons_succ, List.getElem_cons_zero, List.setIfInBounds_toArray, List.set_cons_zero, List.set_cons_succ]
          refine wpAnyH_take (i := 8) (v := .pointer (some ⟨pb, 1, none⟩)) rfl (by kernel_rfl) (by kernel_rfl) (by kernel_rfl) (fun _ _ _ h => h) (Yields.yieldsIf (Or.inl ⟨by rfl, by intro wz; go_simp⟩)) hS0 ?_
          try simp only [Act.put, List.getElem_toArray, List.getElem_cons_succ, List.getElem_cons_zero, List.setIfInBounds_toArray, List.set_cons_zero, List.set_cons_succ]
          refine wpAnyH_take (i := 9) (v := .slice (some ⟨ab, 0, none⟩) X.length X.length) rfl (by kernel_rfl) (by kernel_rfl) (by kernel_rfl) (fun _ _ _ h => h) (Or.inl ⟨by rfl, fun wz hS => by obtain ⟨s1, s2, t0, t1, t2, t3, t4⟩ := hS; go_simp⟩) hS0 ?_
          try simp only [Act.put, List.getElem_toArray, List.getElem_cons_succ, List.getElem_cons_zero, List.setIfInBounds_toArray, List.set_cons_zero, List.set_cons_succ]
          refine wpAnyH_take (i := 10) (v := .int .i64 (i : Int)) rfl (by kernel_rfl) (by kernel_rfl) (by kernel_rfl) (fun _ _ _ h => h) (Yields.yieldsIf (Or.inl ⟨by rfl, by intro wz; go_simp⟩)) hS0 ?_
          try simp only [Act.put, List.getElem_toArray, List.getElem_cons_succ, List.getElem_cons_zero, List.setIfInBounds_toArray, List.set_cons_zero, List.set_cons_succ]
          refine wpAnyH_take (i := 11) (v := .pointer (some ⟨ab, i * 4, none⟩)) rfl (by kernel_rfl) (by kernel_rfl) (by kernel_rfl) (fun _ _ _ h => h) (Yields.yieldsIf (Or.inl ⟨by rfl, by intro wz; go_simp⟩)) hS0 ?_
          try simp only [Act.put, List.getElem_toArray, List.getElem_cons_succ, List.getElem_cons_zero, List.setIfInBounds_toArray, List.set_cons_zero, List.set_cons_succ]
          refine wpAnyH_take (i := 12) (v := .pointer (some ⟨ab, i * 4 + 1, none⟩)) rfl (by kernel_rfl) (by kernel_rfl) (by kernel_rfl) (fun _ _ _ h => h) (Yields.yieldsIf (Or.inl ⟨by rfl, by intro wz; go_simp⟩)) hS0 ?_
          try simp only [Act.put, List.getElem_toArray, List.getElem_cons_succ, List.getElem_cons_zero, List.setIfInBounds_toArray, List.set_cons_zero, List.set_cons_succ]
          refine wpAnyH_take (i := 13) (v := .int .i64 dep) rfl (by kernel_rfl) (by kernel_rfl) (by kernel_rfl) (fun _ _ _ h => h) (Or.inl ⟨by rfl, fun wz hS => by obtain ⟨s1, s2, t0, t1, t2, t3, t4⟩ := hS; go_simp⟩) hS0 ?_
          try simp only [Act.put, List.getElem_toArray, List.getElem_cons_succ, List.getElem_cons_zero, List.setIfInBounds_toArray, List.set_cons_zero, List.set_cons_succ]
          refine wpAnyH_take (i := 14) (v := .int .i64 (dep + 1)) rfl (by kernel_rfl) (by kernel_rfl) (by kernel_rfl) (fun _ _ _ h => h) (Yields.yieldsIf (Or.inl ⟨by rfl, by intro wz; go_simp; rw [IntKind.wrap_i64]; omega⟩)) hS0 ?_
          try simp only [Act.put, List.getElem_toArray, List.getElem_cons_succ, List.getElem_cons_zero, List.setIfInBounds_toArray, List.set_cons_zero, List.set_cons_succ]
          refine wpAnyH_take (i := 15) (v := .int .i64 (k : Int)) rfl (by kernel_rfl) (by kernel_rfl) (by kernel_rfl) (fun _ _ _ h => h) (Yields.yieldsIf (Or.inl ⟨by rfl, by intro wz; go_simp⟩)) hS0 ?_
          try simp only [Act.put, List.getElem_toArray, List.getElem_cons_succ, List.getElem_cons_zero, List.setIfInBounds_toArray, List.set_cons_zero, List.set_cons_succ]
          refine wpAnyH_take (i := 16) (v := .pointer (some ⟨b5, 2, none⟩)) rfl (by kernel_rfl) (by kernel_rfl) (by kernel_rfl) (fun _ _ _ h => h) (Yields.yieldsIf (Or.inl ⟨by rfl, by intro wz; go_simp⟩)) hS0 ?_
          try simp only [Act.put, List.getElem_toArray, List.getElem_cons_succ, List.getElem_cons_zero, List.setIfInBounds_toArray, List.set_cons_zero, List.set_cons_succ]
          refine wpAnyH_take (i := 17) (v := .int .i64 K) rfl (by kernel_rfl) (by kernel_rfl) (by kernel_rfl) (fun _ _ _ h => h) (Or.inl ⟨by rfl, fun wz hS => by obtain ⟨s1, s2, t0, t1, t2, t3, t4⟩ := hS; go_simp⟩) hS0 ?_
          try simp only [Act.put, List.getElem_toArray, List.getElem_cons_succ, List.getElem_cons_zero, List.setIfInBounds_toArray, List.set_cons_zero, List.set_cons_succ]
          refine wpAnyH_take (i := 18) (v := .int .i64 (K - 1)) rfl (by kernel_rfl) (by kernel_rfl) (by kernel_rfl) (fun _ _ _ h => h) (Yields.yieldsIf (Or.inl ⟨by rfl, by intro wz; go_simp; rw [IntKind.wrap_i64]; omega⟩)) hS0 ?_
          try simp only [Act.put, List.getElem_toArray, List.getElem_cons_succ, List.getElem_cons_zero, List.setIfInBounds_toArray, List.set_cons_zero, List.set_cons_succ]
          refine wpAnyH_take (i := 19) (v := .bool (decide ((k : Int) = K - 1))) rfl (by kernel_rfl) (by kernel_rfl) (by kernel_rfl) (fun _ _ _ h => h) (Yields.yieldsIf (Or.inl ⟨by rfl, by intro wz; go_simp; rfl⟩)) hS0 ?_
          try simp only [Act.put, List.getElem_toArray, List.getElem_cons_succ, List.getElem_cons_zero, List.setIfInBounds_toArray, List.set_cons_zero, List.set_cons_succ]
          refine wpAnyH_take (i := 20) (v := .agg #[.int .i64 kd, .int .i64 nn, .int .i64 K, .int .i64 sz, str s]) rfl (by kernel_rfl) (by kernel_rfl) (by kernel_rfl) (fun _ _ _ h => h) (Or.inl ⟨by rfl, fun wz hS => by obtain ⟨s1, s2, t0, t1, t2, t3, t4⟩ := hS; go_simp⟩) hS0 ?_
          try simp only [Act.put, List.getElem_toArray, List.getElem_cons_succ, List.getElem_cons_zero, List.setIfInBounds_toArray, List.set_cons_zero, List.set_cons_succ]
          refine wpAnyH_take (i := 21) (v := .int .i64 (k : Int)) rfl (by kernel_rfl) (by kernel_rfl) (by kernel_rfl) (fun _ _ _ h => h) (Yields.yieldsIf (Or.inl ⟨by rfl, by intro wz; go_simp⟩)) hS0 ?_
          try simp only [Act.put, List.getElem_toArray, List.getElem_cons_succ, List.getElem_cons_zero, List.setIfInBounds_toArray, List.set_cons_zero, List.set_cons_succ]
          refine wpAnyH_ready (rs := [22]) (by kernel_rfl) (by simp) ?_
          refine AllReadyH.cons rfl (fun K' hK => ?_) AllReadyH.nil
          go_simp
          refine (wordAt_any ⟨kd, nn, K, sz, s⟩ K rfl (by omega) hK2 k _).mono ?_
          rintro e w2 ⟨rfl, hb2⟩
          have hP2 : PrAt w2 pb ab (.slice (some ⟨g, o, none⟩) X.length cap) X.length A' := HPP.out.drew.turn (S := fun _ => False) (Turn.ofBelow hb2) (fun h => h) (fun h => h)
          have hB2 : Cel w2 b5 40 #[.int .i64 kd, .int .i64 nn, .int .i64 K, .int .i64 sz, str s] := Cel.below (W := World.drew wr) HBB.out hb2 (Cel.lt HBB.out)
          have hT2 : Turn (fun b => b = ab) W w2 := HTT.out.drew.trans (Turn.ofBelow (S := fun _ => False) hb2) (fun _ h => h.elim)
          have hS2 : Told pb ab X.length i b5 dep kd nn K sz s w2 := told_of (a := ⟨afin, dep, alast, aword⟩) (x := ⟨kd, nn, K, sz, s⟩) hP2 HAA.out hB2
          refine hK.out _ _ hS2 (fun _ => ?_)
          clear hK K' hb2 hS0
          refine wpAnyH_take (i := 23) (v := .agg #[.int .i64 (fin : Int), .int .i64 (dep + 1), .bool (decide ((k : Int) = K - 1)), .bool (wordAtB kd K k)]) rfl (by kernel_rfl) (by kernel_rfl) (by kernel_rfl) (fun _ _ _ h => h) (Yields.yieldsIf (Or.inl ⟨by rfl, by intro wz; go_simp⟩)) hS2 ?_
          try simp only [Act.put, List.getElem_toArray, List.getElem_cons_succ, List.getElem_cons_zero, List.setIfInBounds_toArray, List.set_cons_zero, List.set_cons_succ]
          refine wpAnyH_take (i := 24) (v := .pointer (some ⟨ab, at_ * 4, none⟩)) rfl (by kernel_rfl) (by kernel_rfl) (by kernel_rfl) (fun _ _ _ h => h) (Yields.yieldsIf (Or.inl ⟨by rfl, by intro wz; go_simp⟩)) hS2 ?_
          try simp only [Act.put, List.getElem_toArray, List.getElem_cons_succ, List.getElem_cons_zero, List.setIfInBounds_toArray, List.set_cons_zero, List.set_cons_succ]
          refine wpAnyH_ready (rs := [25]) (by kernel_rfl) (by simp) ?_
          refine AllReadyH.cons rfl (fun K' hK => ?_) AllReadyH.nil
          obtain ⟨u0, u1, u2, u3, c0, f0, c1, f1, c2, f2, c3, f3⟩ := hP2.ask.store (j := at_) (by rw [hAl]; exact hlt2)
          have hP3 := hP2.told (j := at_) hlt2 ⟨fin, dep + 1, decide ((k : Int) = K - 1), wordAtB kd K k⟩
          have hT3 := hT2.told at_ (.int .i64 (fin : Int)) (.int .i64 (dep + 1)) (.bool (decide ((k : Int) = K - 1))) (.bool (wordAtB kd K k))
          have hne5 : b5 ≠ ab := by omega
          have hB3 := (((hB2.other hne5 (j := at_ * 4) (.int .i64 (fin : Int))).other hne5 (j := at_ * 4 + 1) (.int .i64 (dep + 1))).other hne5 (j := at_ * 4 + 2) (.bool (decide ((k : Int) = K - 1)))).other hne5 (j := at_ * 4 + 3) (.bool (wordAtB kd K k))
          have hS3 := told_of (a := ⟨afin, dep, alast, aword⟩) (x := ⟨kd, nn, K, sz, s⟩) hP3 ((List.getElem?_set_ne (show at_ ≠ i by omega)).trans HAA.out) hB3
          have HP3 : Hid (PrAt _ _ _ _ _ _) := hP3
          have HT3 : Hid (Turn _ _ _) := hT3
          have HB3 : Hid (Cel _ _ _ _) := hB3
          have HS3 : Hid (Told _ _ _ _ _ _ _ _ _ _ _ _) := hS3
          clear hP3 hT3 hB3 hS3
          go_simp
          refine hK.out _ _ HS3.out (fun _ => ?_)
          clear hK K'
          refine wpAnyH_done (by kernel_rfl) ?_ _
          go_wp2_with fail
          go_meet
          case rel => exact ⟨rfl, by rw [HA2.out]; exact HP3.out, HT3.out, HB3.out⟩
        case rest =>
          obtain ⟨rfl, HP2, HT2, HB2⟩ := hcut
          obtain ⟨g', o', cap', hv, hg', c0, c1, c2, c3, c4⟩ := (HN.out _ HT2.out).at HYY.out
          cases hv
          have p0 : wc.cell? ⟨pb, 0, none⟩ = some (.slice (some ⟨g, o, none⟩) X.length cap) := HP2.out.prog.cell 0
          clear c0 c1 c2 c4
          obtain ⟨ykd, yn, yk, ysz, ys⟩ := y
          simp only at c3
          by_cases hs1 : ysz < 1
          · have hr := HRR.out.symm.trans (askG_small X ⟨kd, nn, K, sz, s⟩ ⟨ykd, yn, yk, ysz, ys⟩ dep fin f k at_ A' hff hk (by omega) HYY.out hs1)
            have HRF : Hid (R = (true, A2)) := by unfold Hid; rw [HA2.out]; exact hr
            clear hr
            go_wp2_with fail
            go_ret
            rw [HRF.out]
            exact ⟨rfl, HP2.out, HT2.out⟩
          · obtain ⟨f', rfl⟩ : ∃ f', f = f' + 1 := ⟨f - 1, by omega⟩
            have hr := askG_more X ⟨kd, nn, K, sz, s⟩ ⟨ykd, yn, yk, ysz, ys⟩ dep fin f' k at_ A' hk (by omega) HYY.out hs1
            obtain ⟨m, hm1, hm2, hm, hm'⟩ : ∃ m : Nat, 1 ≤ m ∧ at_ + m ≤ fin ∧ min ysz ((fin - at_ : Nat) : Int) = m ∧ (if (fin : Int) - (at_ : Int) < ysz then (fin : Int) - (at_ : Int) else ysz) = m := by
              by_cases h : (fin : Int) - (at_ : Int) < ysz
              · exact ⟨fin - at_, by omega, by omega, by rw [Int.min_eq_right (by omega)], by rw [if_pos h]; omega⟩
              · exact ⟨ysz.toNat, by omega, by omega, by rw [Int.min_eq_left (by omega)]; omega, by rw [if_neg h]; omega⟩
            have HRF : Hid (askG X ⟨kd, nn, K, sz, s⟩ dep fin f' (k + 1) (at_ + m) A2 = R) := by
              unfold Hid
              rw [← HRR.out, hr, HA2.out]
              simp only [hm]
              rfl
            have HA3 : Hid (A2[i]? = some ⟨afin, dep, alast, aword⟩) := by unfold Hid; rw [HA2.out, List.getElem?_set_ne (by omega)]; exact HAA.out
            have HM : Hid ((if (fin : Int) - (at_ : Int) < ysz then (fin : Int) - (at_ : Int) else ysz) = m) := hm'
            have hm3 : ((at_ : Int) + (if (fin : Int) - (at_ : Int) < ysz then (fin : Int) - (at_ : Int) else ysz)) ≤ 9223372036854775807 := by rw [hm']; omega
            have hm4 : -9223372036854775808 ≤ ((at_ : Int) + (if (fin : Int) - (at_ : Int) < ysz then (fin : Int) - (at_ : Int) else ysz)) := by rw [hm']; omega
            clear hr hm hm'
            go_wp2_with fail
            rw [show min ysz ((fin : Int) - (at_ : Int)) = m by have h := HM.out; split at h <;> omega]
            exact ⟨⟨k + 1, at_ + m, f', A2, by simp, by simp, hm2, by omega, by omega, by omega, HRF.out, HA3.out, HP2.out, HT2.out, HB2.out⟩, by simp [intOf]; omega⟩
    · have hr := HRR.out.symm.trans (askG_end X ⟨kd, nn, K, sz, s⟩ dep fin f k at_ A' hk)
      have HRF : Hid (R = (true, A')) := hr
      clear hr
      go_wp2_with fail
      go_ret
      rw [HRF.out]
      exact ⟨rfl, HPP.out, HTT.out⟩
end Go.Proofs.YtfafhjglcaikoaaGreatDoor

/- The shell's own commands, one by one. -/
import Derived.Test.YtiddlineklfhfaaDoorTx
import Derived.Lib.Join
namespace Go.Proofs.YtiddlineklfhfaaDoor
open Go.RowKit Go.Shelf
attribute [local go_sem] Oper.semAt_some

/-- The library's table of powers lies in the world. -/
def Pow (w : World) : Prop := Lib.TabIs Tryd.prog w "internal/strconv.uint64pow10" .u64 Lib.pow10Tab
theorem number_any (n : Int) (w : World) (h0 : -9223372036854775808 ≤ n) (h1 : n ≤ 9223372036854775807) (ht : Pow w) :
    Calls Tryd.prog 15 #[.int .i64 n] w fun e w' => e = .returned (str (Lib.itoa n)) ∧ Below w.heap.size w w' := by
  go_enter Tryd.func15, Tryd.ntmps15
  go_wp2_with (go_at_call 30; refine (Tryd.strconv_Itoa _ h0 h1 _ ht).mono ?_; rintro e w' ⟨rfl, k, os, rfl⟩)
  go_ret
  exact ⟨rfl, Lib.below_grow _ _ (Nat.le_refl _) _ _⟩
theorem status_any (b : Bool) (w : World) : Calls Tryd.prog 19 #[.bool b] w fun e w' => e = .returned (.int .i64 (stB b)) ∧ w' = w := by
  cases b
  all_goals
    go_enter Tryd.func19, Tryd.ntmps19
    go_wp2_with fail
    go_ret
    exact ⟨rfl, rfl⟩
set_option maxRecDepth 100000 in
theorem index_nl (s : ByteArray) (w : World) : Calls Tryd.prog 63 #[.string s, .string ⟨#[10]⟩] w fun e w' => ∃ i, e = .returned (.int .i64 i) ∧ w' = w ∧ i = Lib.indexByte s.data.toList 10 := by
  cases hs : ([10] == s.toList)
  · go_enter Tryd.func63, Tryd.ntmps63
    go_wp2_with fail
    refine (Tryd.stringslite_IndexByte _ _ _).mono ?_
    rintro e w1 ⟨rfl, hw⟩
    obtain rfl := hw.symm
    go_wp2_with fail
    go_ret
    exact ⟨_, rfl, rfl, rfl⟩
  · go_enter Tryd.func63, Tryd.ntmps63
    go_wp2_with fail
    go_ret
    have e : s.data.toList = [10] := by rw [← ByteArray.toList_eq]; exact (eq_of_beq hs).symm
    exact ⟨0, rfl, rfl, by rw [e]; decide⟩
theorem extract_take (s : ByteArray) (k : Nat) : Value.string (s.extract 0 k) = str (s.data.toList.take k) := by
  have : (s.extract 0 k) = ⟨(s.data.toList.take k).toArray⟩ := by
    apply ByteArray.ext
    apply Array.ext'
    simp [ByteArray.data_extract]
  rw [this]
theorem extract_drop (s : ByteArray) (k : Nat) : Value.string (s.extract k s.size) = str (s.data.toList.drop k) := by
  rw [str_eq, extract_tail]
theorem ret3 {a b c a' b' c' : Value} (h1 : a = a') (h2 : b = b') (h3 : c = c') : Ending.returned (.tuple #[a, b, c]) = .returned (.tuple #[a', b', c']) := by rw [h1, h2, h3]
theorem below_drewN (w : World) (n : Nat) : Below w.heap.size w (w.drewN n) := ⟨rfl, rfl, rfl, Nat.le_refl _, fun _ _ => rfl⟩
set_option maxRecDepth 100000 in
theorem scut_nl (s : ByteArray) (w : World) (hs : s.size < 35184372088832) : Calls Tryd.prog 58 #[.string s, .string ⟨#[10]⟩] w fun e w' => ∃ b, e = .returned (.tuple #[str (lineL s.data.toList), str (restL s.data.toList), .bool b]) ∧ Below w.heap.size w w' := by
  go_enter Tryd.func58, Tryd.ntmps58
  go_wp2_with fail
  refine (index_nl _ _).mono ?_
  rintro e w1 ⟨i, rfl, hw, hi⟩
  obtain rfl := hw.symm
  have hge := Lib.indexByte_ge s.data.toList 10
  by_cases hn : i = -1
  · subst hn
    obtain ⟨h1, h2⟩ := line_none _ hi.symm
    have H1 : Hid (lineL s.data.toList = s.data.toList) := h1
    have H2 : Hid (restL s.data.toList = []) := h2
    clear h1 h2 hge hi
    go_wp2_with fail
    go_ret3
    exact ⟨false, by rw [H1.out, H2.out]; rfl, Below.refl _ _⟩
  · obtain ⟨k, rfl⟩ : ∃ k : Nat, i = k := ⟨i.toNat, by omega⟩
    obtain ⟨h1, h2, h3⟩ := line_some _ k hi.symm
    have h4 : k < s.size := by simpa using h3
    have H1 : Hid (lineL s.data.toList = s.data.toList.take k) := h1
    have H2 : Hid (restL s.data.toList = s.data.toList.drop (k + 1)) := h2
    clear h1 h2 hge hi h3 hn
    go_wp2_with fail
    go_quiet (fail)
    go_wp2_with fail
    go_ret3
    exact ⟨true, by rw [H1.out, H2.out]; exact ret3 (extract_take s k) (extract_drop s (k + 1)) rfl, below_drewN _ _⟩
set_option maxRecDepth 100000 in
theorem cut_nl (s : ByteArray) (w : World) (hs : s.size < 35184372088832) : Calls Tryd.prog 37 #[.string s, .string ⟨#[10]⟩] w fun e w' => ∃ b, e = .returned (.tuple #[str (lineL s.data.toList), str (restL s.data.toList), .bool b]) ∧ Below w.heap.size w w' := by
  go_enter Tryd.func37, Tryd.ntmps37
  go_wp2_with fail
  refine (scut_nl _ _ hs).mono ?_
  rintro e w1 ⟨b, rfl, hw⟩
  go_wp2_with fail
  go_ret3
  exact ⟨b, rfl, hw⟩
end Go.Proofs.YtiddlineklfhfaaDoor

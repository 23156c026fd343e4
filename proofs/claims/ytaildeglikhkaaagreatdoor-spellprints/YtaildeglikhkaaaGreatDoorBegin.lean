/- A node's text up to its children. -/
import Derived.Test.YtaildeglikhkaaaGreatDoorQuote
import Derived.Test.YtaildeglikhkaaaGreatDoorKindAll
import Derived.Test.YtaildeglikhkaaaGreatDoorShelf2
import Derived.Lib.AppendIntMem
import Derived.Lib.ItoaLen
namespace Go.Proofs.YtaildeglikhkaaaGreatDoor
open Go.RowKit
attribute [local go_sem] Oper.semAt_some

/-- The library's table of powers lies in the world. -/
def Pow (w : World) : Prop := Lib.TabIs Tryz.prog w "internal/strconv.uint64pow10" .u64 Lib.pow10Tab
set_option maxHeartbeats 400000 in
theorem decimal_any (n : Int) (w : World) (h0 : -9223372036854775808 ≤ n) (h1 : n ≤ 9223372036854775807) (ht : Pow w) :
    Calls Tryz.prog 61 #[.int .i64 n] w fun e w' => e = .returned (.string ⟨(Lib.itoa n).toArray⟩) ∧ Below w.heap.size w w' := by
  go_enter Tryz.func61, Tryz.ntmps61
  go_wp2_with (go_at_call 80; refine (Tryz.strconv_Itoa _ h0 h1 _ ht).mono ?_; rintro e w' ⟨rfl, k, os, rfl⟩)
  go_ret
  exact ⟨rfl, Lib.below_grow _ _ (Nat.le_refl _) _ _⟩
/-- A node's text up to its children. -/
def beginL (x : Nd) : List UInt8 := [40] ++ kindN x.kind ++ (if x.n = 0 then [] else [32] ++ Lib.itoa x.n) ++ (if strK x.kind then [32] ++ quoteL x.s else [])
theorem kindN_length (k : Int) : (kindN k).length ≤ 5 := by
  unfold kindN
  split
  · rw [List.getD_eq_getElem?_getD]
    cases h : kindL[k.toNat]? with
    | none => simp
    | some a => exact kindL_small a (List.mem_of_getElem? h)
  · simp
theorem quoteL_length (l : List UInt8) : (quoteL l).length ≤ 2 + 3 * l.length := by
  have := bodyQ_length l
  simp only [quoteL, List.length_append, List.length_cons, List.length_nil]
  omega
theorem str_app (a c : List UInt8) : (⟨a.toArray⟩ : ByteArray) ++ ⟨c.toArray⟩ = ⟨(a ++ c).toArray⟩ := by
  apply ByteArray.ext
  simp
set_option maxHeartbeats 2000000 in
theorem begin_any (x : Nd) (w : World) (hK : KnAt w) (hP : ∀ w', Below w.heap.size w w' → Pow w') (h0 : -9223372036854775808 ≤ x.n) (h1 : x.n ≤ 9223372036854775807) (hs : x.s.length < 8796093022208) :
    Calls Tryz.prog 40 #[.agg (ndC x).toArray] w fun e w' => e = .returned (str (beginL x)) ∧ Below w.heap.size w w' := by
  obtain ⟨kd, n, kk, sz, s⟩ := x
  have HC : Hid (Cel (w.alloc (.cells (ndC ⟨kd, n, kk, sz, s⟩).toArray 50)) w.heap.size 50 (ndC ⟨kd, n, kk, sz, s⟩).toArray) := Cel.new w 50 _
  have HB : Hid (Below w.heap.size w (w.alloc (.cells (ndC ⟨kd, n, kk, sz, s⟩).toArray 50))) := (Below.refl _ w).alloc (Nat.le_refl _) _
  have HK : Hid (KnAt (w.alloc (.cells (ndC ⟨kd, n, kk, sz, s⟩).toArray 50))) := KnAt.alloc hK _
  have hkl := kindN_length kd
  have hil := Lib.itoa_length_le n h0 h1
  have hql := quoteL_length s
  by_cases hn : n = 0
  · subst hn
    cases hst : strK kd with
    | false =>
      have hst2 := hst
      go_enter Tryz.func40, Tryz.ntmps40
      go_wp2_with fail
      generalize (w.alloc (.cells (ndC ⟨kd, 0, kk, sz, s⟩).toArray 50)) = W0 at HC HB HK ⊢
      have HS : Hid (∀ w, Calls Tryz.prog 62 #[.int .i64 kd] w fun e w' => e = .returned (.bool false) ∧ w' = w) := fun w => by have := hasString_any kd w; rw [hst] at this; exact this
      clear hst
      refine Calls.mono (kindName_any kd W0 HK.out) ?_
      rintro e w1 ⟨rfl, hw⟩
      have hw' := hw.symm
      subst hw'
      clear hw
      have c0 : W0.cell? ⟨w.heap.size, 0, none⟩ = some (.int .i64 kd) := HC.out.cell 0
      have c1 : W0.cell? ⟨w.heap.size, 1, none⟩ = some (.int .i64 0) := HC.out.cell 1
      have c4 : W0.cell? ⟨w.heap.size, 4, none⟩ = some (str s) := HC.out.cell 4
      go_wp2_with fail
      refine Calls.mono (HS.out _) ?_
      rintro e w3 ⟨rfl, hw⟩
      have hw' := hw.symm
      subst hw'
      clear hw
      go_wp2_with fail
      go_ret
      refine ⟨?_, HB.out⟩
      simp only [beginL, hst2, Bool.false_eq_true, if_false, if_true, str_app, List.append_nil]
      rfl
    | true =>
      have hst2 := hst
      go_enter Tryz.func40, Tryz.ntmps40
      go_wp2_with fail
      generalize (w.alloc (.cells (ndC ⟨kd, 0, kk, sz, s⟩).toArray 50)) = W0 at HC HB HK ⊢
      have HS : Hid (∀ w, Calls Tryz.prog 62 #[.int .i64 kd] w fun e w' => e = .returned (.bool true) ∧ w' = w) := fun w => by have := hasString_any kd w; rw [hst] at this; exact this
      clear hst
      refine Calls.mono (kindName_any kd W0 HK.out) ?_
      rintro e w1 ⟨rfl, hw⟩
      have hw' := hw.symm
      subst hw'
      clear hw
      have c0 : W0.cell? ⟨w.heap.size, 0, none⟩ = some (.int .i64 kd) := HC.out.cell 0
      have c1 : W0.cell? ⟨w.heap.size, 1, none⟩ = some (.int .i64 0) := HC.out.cell 1
      have c4 : W0.cell? ⟨w.heap.size, 4, none⟩ = some (str s) := HC.out.cell 4
      go_wp2_with fail
      refine Calls.mono (HS.out _) ?_
      rintro e w3 ⟨rfl, hw⟩
      have hw' := hw.symm
      subst hw'
      clear hw
      go_wp2_with fail
      refine Calls.mono (quote_any ⟨s.toArray⟩ (by simpa [ByteArray.size] using hs) _) ?_
      rintro e w4 ⟨rfl, hb4⟩
      have HB4 : Hid (Below w.heap.size w w4) := HB.out.trans (hb4.mono HB.out.size)
      clear hb4
      go_wp2_with fail
      go_ret
      refine ⟨?_, HB4.out⟩
      simp only [beginL, hst2, if_true, str_app, List.append_assoc, List.append_nil]
      rfl
  · have hnb : (n == 0) = false := by simpa using hn
    cases hst : strK kd with
    | false =>
      have hst2 := hst
      go_enter Tryz.func40, Tryz.ntmps40
      go_wp2_with fail
      generalize (w.alloc (.cells (ndC ⟨kd, n, kk, sz, s⟩).toArray 50)) = W0 at HC HB HK ⊢
      have HS : Hid (∀ w, Calls Tryz.prog 62 #[.int .i64 kd] w fun e w' => e = .returned (.bool false) ∧ w' = w) := fun w => by have := hasString_any kd w; rw [hst] at this; exact this
      clear hst
      refine Calls.mono (kindName_any kd W0 HK.out) ?_
      rintro e w1 ⟨rfl, hw⟩
      have hw' := hw.symm
      subst hw'
      clear hw
      have c0 : W0.cell? ⟨w.heap.size, 0, none⟩ = some (.int .i64 kd) := HC.out.cell 0
      have c1 : W0.cell? ⟨w.heap.size, 1, none⟩ = some (.int .i64 n) := HC.out.cell 1
      have c4 : W0.cell? ⟨w.heap.size, 4, none⟩ = some (str s) := HC.out.cell 4
      go_wp2_with fail
      refine Calls.mono (decimal_any n W0 h0 h1 (hP _ HB.out)) ?_
      rintro e w2 ⟨rfl, hb2⟩
      have HC2 : Hid (Cel w2 w.heap.size 50 (ndC ⟨kd, n, kk, sz, s⟩).toArray) := Cel.below HC.out hb2 HC.out.lt
      have HB2 : Hid (Below w.heap.size w w2) := HB.out.trans (hb2.mono HB.out.size)
      have d0 : w2.cell? ⟨w.heap.size, 0, none⟩ = some (.int .i64 kd) := HC2.out.cell 0
      have d4 : w2.cell? ⟨w.heap.size, 4, none⟩ = some (str s) := HC2.out.cell 4
      clear hb2 c0 c1 c4 HC HB HK
      go_wp2_with fail
      refine Calls.mono (HS.out _) ?_
      rintro e w3 ⟨rfl, hw⟩
      have hw' := hw.symm
      subst hw'
      clear hw
      go_wp2_with fail
      go_ret
      refine ⟨?_, HB2.out⟩
      simp only [beginL, hst2, Bool.false_eq_true, if_false, if_neg hn, str_app, List.append_assoc, List.append_nil]
      rfl
    | true =>
      have hst2 := hst
      go_enter Tryz.func40, Tryz.ntmps40
      go_wp2_with fail
      generalize (w.alloc (.cells (ndC ⟨kd, n, kk, sz, s⟩).toArray 50)) = W0 at HC HB HK ⊢
      have HS : Hid (∀ w, Calls Tryz.prog 62 #[.int .i64 kd] w fun e w' => e = .returned (.bool true) ∧ w' = w) := fun w => by have := hasString_any kd w; rw [hst] at this; exact this
      clear hst
      refine Calls.mono (kindName_any kd W0 HK.out) ?_
      rintro e w1 ⟨rfl, hw⟩
      have hw' := hw.symm
      subst hw'
      clear hw
      have c0 : W0.cell? ⟨w.heap.size, 0, none⟩ = some (.int .i64 kd) := HC.out.cell 0
      have c1 : W0.cell? ⟨w.heap.size, 1, none⟩ = some (.int .i64 n) := HC.out.cell 1
      have c4 : W0.cell? ⟨w.heap.size, 4, none⟩ = some (str s) := HC.out.cell 4
      go_wp2_with fail
      refine Calls.mono (decimal_any n W0 h0 h1 (hP _ HB.out)) ?_
      rintro e w2 ⟨rfl, hb2⟩
      have HC2 : Hid (Cel w2 w.heap.size 50 (ndC ⟨kd, n, kk, sz, s⟩).toArray) := Cel.below HC.out hb2 HC.out.lt
      have HB2 : Hid (Below w.heap.size w w2) := HB.out.trans (hb2.mono HB.out.size)
      have d0 : w2.cell? ⟨w.heap.size, 0, none⟩ = some (.int .i64 kd) := HC2.out.cell 0
      have d4 : w2.cell? ⟨w.heap.size, 4, none⟩ = some (str s) := HC2.out.cell 4
      clear hb2 c0 c1 c4 HC HB HK
      go_wp2_with fail
      refine Calls.mono (HS.out _) ?_
      rintro e w3 ⟨rfl, hw⟩
      have hw' := hw.symm
      subst hw'
      clear hw
      go_wp2_with fail
      refine Calls.mono (quote_any ⟨s.toArray⟩ (by simpa [ByteArray.size] using hs) _) ?_
      rintro e w4 ⟨rfl, hb4⟩
      have HB4 : Hid (Below w.heap.size w w4) := HB2.out.trans (hb4.mono HB2.out.size)
      clear hb4
      go_wp2_with fail
      go_ret
      refine ⟨?_, HB4.out⟩
      simp only [beginL, hst2, if_neg hn, str_app, List.append_assoc]
      rfl
end Go.Proofs.YtaildeglikhkaaaGreatDoor

/- The document's own Print. -/
import Derived.Test.YtaildeglikhkaaaGreatDoorCut5
import Derived.Test.YtaildeglikhkaaaGreatDoorNewAll
import Derived.Test.YtaildeglikhkaaaGreatDoorTree
import Derived.Test.YtaildeglikhkaaaGreatDoorPlainAll
import Derived.Deep.RegionHeld3
import Derived.Laws.IdiomStrings
import Derived.Test.YtaildeglikhkaaaGreatDoorBndAll
/-! The document's own Kind and Quote. -/
namespace Go.Proofs.YtaildeglikhkaaaGreatDoor
open Go.RowKit
attribute [local go_sem] Oper.semAt_some

theorem hexC_val : ∀ v : Fin 16, ((hexC v.val).toNat : Int) = if v.val < 10 then 48 + (v.val : Int) else 87 + (v.val : Int) := by decide +kernel
theorem rhex_any (n : Nat) (h : n < 16) (w : World) : Calls Tryz.prog 35 #[.int .u8 (n : Int)] w fun e w' => e = .returned (.int .u8 ((hexC n).toNat : Int)) ∧ w' = w := by
  have hv := hexC_val ⟨n, h⟩
  simp only at hv
  rw [hv]
  clear hv
  by_cases h1 : n < 10
  · rw [if_pos h1]
    have h2 : (n : Int) < 10 := by omega
    go_enter Tryz.func35, Tryz.ntmps35
    go_wp2_with fail
    go_ret
    exact ⟨rfl, rfl⟩
  · rw [if_neg h1]
    have h2 : ¬ (n : Int) < 10 := by omega
    go_enter Tryz.func35, Tryz.ntmps35
    go_wp2_with fail
    go_ret
    exact ⟨by rw [show (87 : Int) + n = 97 + n - 10 by omega]; rfl, rfl⟩
theorem esc_parts (c : UInt8) : escB ((c.toNat : Nat) : Int) = (((c.toNat : Int) == 34) || ((c.toNat : Int) == 92) || decide ((c.toNat : Int) < 32) || decide ((126 : Int) < (c.toNat : Int))) := by
  unfold escB
  rw [Bool.eq_iff_iff]
  simp
  omega
theorem bytes_cat (a b : List UInt8) : Lib.byteCells (a ++ b) = Lib.byteCells a ++ Lib.byteCells b := by simp [Lib.byteCells]
theorem body_snoc (l : List UInt8) (c : UInt8) : bodyQ (l ++ [c]) = bodyQ l ++ quoteB c := by simp [bodyQ]
theorem built_row (w : World) (l : List UInt8) (hl : l.length ≤ 100) : (w.alloc (.cells (Lib.byteCells l).toArray 5)).ownsRow w.heap.size 5 1 (.slice (some ⟨w.heap.size, 0, none⟩) l.length l.length) l.length (Lib.byteCells l) := by
  have hb : (Lib.byteCells l).length = l.length := by simp [Lib.byteCells]
  refine ⟨by omega, .inr ⟨w.heap.size, l.length, (Lib.byteCells l).toArray, rfl, Nat.le_refl _, World.alloc_heap_new w _, Nat.le_refl _, by have := maxLen_big; omega, by simp [hb], ?_⟩⟩
  rw [List.take_of_length_le (by simp [hb])]
/-- Bytes of one's own, made a text. -/
theorem conv_own {W : World} {B n : Nat} {v : Value} {l : List UInt8} (ho : W.ownsRow B 5 1 v n (Lib.byteCells l)) (hn : n = l.length) (h0 : l ≠ []) : (convert 43 9 v).run Tryz.prog W = .ok (.string ⟨l.toArray⟩) W := by
  subst hn
  rcases ho.2 with ⟨_, h⟩ | ⟨g, cap, cur, rfl, _, hc, _, _, _, h3⟩
  · exact absurd (List.eq_nil_of_length_eq_zero h) h0
  · refine run_convert_bytes_back (P := Tryz.prog) W 43 9 5 ⟨g, 0, none⟩ cap l Tryz.underlying43 Tryz.underlying5 Tryz.underlying9 ?_
    intro j hj
    have hx : (Lib.byteCells l)[j]? = some (.int .u8 ((l[j]'hj).toNat : Int)) := by simp [Lib.byteCells, List.getElem?_eq_getElem hj]
    rw [← h3, Nat.mul_one, List.getElem?_take_of_lt hj, Array.getElem?_toList] at hx
    have hadd : (⟨g, 0, none⟩ : Addr).add j = ⟨g, j, none⟩ := by unfold Addr.add; split <;> simp_all
    rw [hadd, show W.cell? ⟨g, j, none⟩ = cur[j]? by simp [World.cell?, hc]]
    exact hx
set_option maxHeartbeats 2000000 in
set_option maxRecDepth 100000 in
theorem rquote_any (s : ByteArray) (hs : s.size < 1000000) (w : World) : Calls Tryz.prog 13 #[.string s] w fun e w' => e = .returned (str (quoteL s.data.toList)) ∧ Below w.heap.size w w' := by
  obtain ⟨i0, hi, hz0, hz1, hz2⟩ := info_parts info5
  go_enter Tryz.func13, Tryz.ntmps13
  go_wp2_with fail
  go_loopw [3, 4] (fun v3 v4 wr => ∃ (k : Nat) (L : List UInt8), v4 = .int .i64 k ∧ k ≤ s.size ∧ L.length ≤ 3 * k + 1 ∧ Hid (L = 34 :: bodyQ (s.data.toList.take k)) ∧ Hid (wr.ownsRow w.heap.size 5 1 v3 L.length (Lib.byteCells L)) ∧ Below w.heap.size w wr) (fun _ v4 _ => s.size - (intOf v4).toNat)
  case atStart => exact ⟨0, [34], rfl, by omega, by simp, rfl, built_row w [34] (by decide), (Below.refl _ w).alloc (Nat.le_refl _) _⟩
  case round =>
    obtain ⟨k, L, rfl, hk, hL, HL, HO, hbr⟩ := hrel
    have ho := HO.out
    by_cases hkl : k < s.size
    · have hts := take_snoc s k hkl
      have hba : ∀ o, Below w.heap.size w (wr.alloc o) := fun o => hbr.alloc hbr.size o
      have ways : (escB (((s[k]).toNat : Nat) : Int) = true ∧ ((((s[k]).toNat : Int) == 34) = true ∨ ((((s[k]).toNat : Int) == 34) = false ∧ (((s[k]).toNat : Int) == 92) = true) ∨ ((((s[k]).toNat : Int) == 34) = false ∧ (((s[k]).toNat : Int) == 92) = false ∧ ((s[k]).toNat : Int) < 32) ∨ ((((s[k]).toNat : Int) == 34) = false ∧ (((s[k]).toNat : Int) == 92) = false ∧ ¬ ((s[k]).toNat : Int) < 32 ∧ 126 < ((s[k]).toNat : Int)))) ∨ (escB (((s[k]).toNat : Nat) : Int) = false ∧ (((s[k]).toNat : Int) == 34) = false ∧ (((s[k]).toNat : Int) == 92) = false ∧ ¬ ((s[k]).toNat : Int) < 32 ∧ ¬ 126 < ((s[k]).toNat : Int)) := by
        rw [esc_parts]
        cases h34 : (((s[k]).toNat : Int) == 34) <;> cases h92 : (((s[k]).toNat : Int) == 92) <;> by_cases h32 : ((s[k]).toNat : Int) < 32 <;> by_cases h126 : 126 < ((s[k]).toNat : Int) <;> simp [h32, h126]
      have HTS : Hid (s.data.toList.take (k + 1) = s.data.toList.take k ++ [s[k]]) := hts
      have hlt := (s[k]).toNat_lt
      clear hts
      rcases ways with ⟨he, hw⟩ | ⟨he, w1, w2, w3, w4⟩
      · have HQ : Hid (quoteB s[k] = [92, hexC ((s[k]).toNat / 16), hexC ((s[k]).toNat % 16)]) := by unfold Hid quoteB; rw [he, if_pos rfl]
        have HX1 : Hid (∀ W, Calls Tryz.prog 35 #[.int .u8 (((s[k]).toNat : Int) / 16)] W fun e w' => e = .returned (.int .u8 ((hexC ((s[k]).toNat / 16)).toNat : Int)) ∧ w' = W) := fun W => rhex_any ((s[k]).toNat / 16) (by omega) W
        have HX2 : Hid (∀ W, Calls Tryz.prog 35 #[.int .u8 (((s[k]).toNat : Int) % 16)] W fun e w' => e = .returned (.int .u8 ((hexC ((s[k]).toNat % 16)).toNat : Int)) ∧ w' = W) := fun W => rhex_any ((s[k]).toNat % 16) (by omega) W
        clear he
        rcases hw with w1 | ⟨w1, w2⟩ | ⟨w1, w2, w3⟩ | ⟨w1, w2, w3, w4⟩
        all_goals
          go_wp2_with fail
          refine (HX1.out _).mono ?_
          rintro e wx ⟨rfl, hwx⟩
          obtain rfl := hwx.symm
          go_wp2_with fail
          refine (HX2.out _).mono ?_
          rintro e wx ⟨rfl, hwx⟩
          obtain rfl := hwx.symm
          go_wp2_with (at_builtin; refine wpList_append_own _ rfl _ _ 43 rfl w.heap.size 5 i0 (.int .u8 0) 1 1 Tryz.underlying43 hi hz0 hz1 hz2 rfl (by decide) _ _ _ rfl (ho.alloc _) ⟨wr.heap.size, 0, none⟩ 3 3 [.int .u8 92, .int .u8 ((hexC ((s[k]).toNat / 16)).toNat : Int), .int .u8 ((hexC ((s[k]).toNat % 16)).toNat : Int)] rfl rfl (cells_new _ [.int .u8 92, .int .u8 ((hexC ((s[k]).toNat / 16)).toNat : Int), .int .u8 ((hexC ((s[k]).toNat % 16)).toNat : Int)] _) (by simp [Value.oneCell']) (by have := maxLen_big; omega) (by omega) (by have := hbr.size; simp; omega) ?_; intro v' w2 hown' hgrow _)
          refine ⟨⟨k + 1, L ++ quoteB s[k], by simp, by omega, ?_, ?_, ?_, grown_own (hba _).size (hba _) (ho.alloc _) hgrow⟩, by simp [intOf]; omega⟩
          · rw [HQ.out]; simp; omega
          · unfold Hid; rw [HTS.out, body_snoc, HL.out]; rfl
          · unfold Hid; rw [bytes_cat, List.length_append, HQ.out]; exact hown'
      · have HQ : Hid (quoteB s[k] = [s[k]]) := by unfold Hid quoteB; rw [he, if_neg (by decide)]
        clear he
        go_wp2_with (at_builtin; refine wpList_append_own _ rfl _ _ 43 rfl w.heap.size 5 i0 (.int .u8 0) 1 1 Tryz.underlying43 hi hz0 hz1 hz2 rfl (by decide) _ _ _ rfl (ho.alloc _) ⟨wr.heap.size, 0, none⟩ 1 1 [.int .u8 ((s[k]).toNat : Int)] rfl rfl (cells_new _ [.int .u8 ((s[k]).toNat : Int)] _) (by simp [Value.oneCell']) (by have := maxLen_big; omega) (by omega) (by have := hbr.size; simp; omega) ?_; intro v' w2 hown' hgrow _)
        refine ⟨⟨k + 1, L ++ quoteB s[k], by simp, by omega, ?_, ?_, ?_, grown_own (hba _).size (hba _) (ho.alloc _) hgrow⟩, by simp [intOf]; omega⟩
        · rw [HQ.out]; simp; omega
        · unfold Hid; rw [HTS.out, body_snoc, HL.out]; rfl
        · unfold Hid; rw [bytes_cat, List.length_append, HQ.out]; exact hown'
    · have hkz : s.data.toList.take k = s.data.toList := List.take_of_length_le (by simp; omega)
      have HL2 : Hid (quoteL s.data.toList = L ++ [34]) := by
        unfold Hid
        rw [HL.out, hkz]
        simp [quoteL]
      have hba : ∀ o, Below w.heap.size w (wr.alloc o) := fun o => hbr.alloc hbr.size o
      clear hkz
      go_wp2_with (at_builtin; refine wpList_append_own _ rfl _ _ 43 rfl w.heap.size 5 i0 (.int .u8 0) 1 1 Tryz.underlying43 hi hz0 hz1 hz2 rfl (by decide) _ _ _ rfl (ho.alloc _) ⟨wr.heap.size, 0, none⟩ 1 1 [.int .u8 (34)] rfl rfl (cells_new _ [.int .u8 (34)] _) (by simp [Value.oneCell']) (by have := maxLen_big; omega) (by omega) (by have := hbr.size; simp; omega) ?_; intro v' w2 hown' hgrow _; have hcv := conv_own (l := L ++ [34]) (by rw [bytes_cat]; exact hown') (by simp) (by simp))
      have hgb := grown_own (hba _).size (hba _) (ho.alloc _) hgrow
      go_ret
      exact ⟨by rw [HL2.out]; rfl, hgb⟩
end Go.Proofs.YtaildeglikhkaaaGreatDoor
/-! The document's own Kind; its reader's small parts. -/
namespace Go.Proofs.YtaildeglikhkaaaGreatDoor
open Go.RowKit
attribute [local go_sem] Oper.semAt_some

theorem rword_any (k : Int) (w : World) : Calls Tryz.prog 29 #[.int .i64 k] w fun e w' => e = .returned (.bool (wordK k)) ∧ w' = w := by
  by_cases h1 : 1 ≤ k
  all_goals
    go_enter Tryz.func29, Tryz.ntmps29
    go_wp2_with fail
    go_ret
    exact ⟨ret_b (by simp [wordK]; omega), rfl⟩
theorem rcommand_any (k : Int) (w : World) : Calls Tryz.prog 30 #[.int .i64 k] w fun e w' => e = .returned (.bool (cmdK k)) ∧ w' = w := by
  by_cases h1 : 20 ≤ k
  all_goals
    go_enter Tryz.func30, Tryz.ntmps30
    go_wp2_with fail
    go_ret
    exact ⟨ret_b (by simp [cmdK]; omega), rfl⟩
set_option maxRecDepth 100000 in
set_option maxHeartbeats 1000000 in
theorem rnames_any (w : World) : Calls Tryz.prog 31 #[] w fun e w' => e = .returned (.slice (some ⟨w.heap.size, 0, none⟩) 37 37) ∧ w' = w.alloc (.cells (kindL.tail.map str).toArray 9) := by
  go_enter Tryz.func31, Tryz.ntmps31
  go_wp2_with fail
  go_ret
  exact ⟨rfl, rfl⟩
theorem kind_tail (j : Nat) : (kindL.tail.map str)[j]? = (kindL[j + 1]?).map str := by
  rw [List.getElem?_map, List.getElem?_tail]
theorem kind_cell (w : World) (j : Nat) (hj : j < 37) : (w.alloc (.cells (kindL.tail.map str).toArray 9)).cell? ⟨w.heap.size, j, none⟩ = some (str (kindL.getD (j + 1) [])) := by
  rw [(Cel.new w 9 _).cell, List.getElem?_toArray, kind_tail, List.getD_eq_getElem?_getD]
  cases e : kindL[j + 1]? with
  | none =>
    rw [List.getElem?_eq_none_iff, show kindL.length = 38 by decide] at e
    omega
  | some a => rfl
theorem rkind_yes (j : Nat) (hj : j < 37) (hk : (wordK ((j + 1 : Nat) : Int) || cmdK ((j + 1 : Nat) : Int)) = true) (w : World) : Calls Tryz.prog 11 #[.int .i64 ((j + 1 : Nat) : Int)] w fun e w' => e = .returned (str (kindL.getD (j + 1) [])) ∧ Below w.heap.size w w' := by
  have HN : Hid (Calls Tryz.prog 31 #[] w fun e w' => e = .returned (.slice (some ⟨w.heap.size, 0, none⟩) 37 37) ∧ w' = w.alloc (.cells (kindL.tail.map str).toArray 9)) := rnames_any w
  have hc := kind_cell w j hj
  have hbn := below_new w (.cells (kindL.tail.map str).toArray 9)
  generalize w.alloc (.cells (kindL.tail.map str).toArray 9) = W at *
  generalize w.heap.size = g at *
  generalize kindL.getD (j + 1) [] = nm at *
  cases hw : wordK ((j + 1 : Nat) : Int) with
  | true =>
    have HW : Hid (Calls Tryz.prog 29 #[.int .i64 ((j + 1 : Nat) : Int)] w fun e w' => e = .returned (.bool true) ∧ w' = w) := by have := rword_any ((j + 1 : Nat) : Int) w; rw [hw] at this; exact this
    clear hk hw
    go_enter Tryz.func11, Tryz.ntmps11
    go_wp2_with fail
    refine HW.out.mono ?_
    rintro e w1 ⟨rfl, hw1⟩
    obtain rfl := hw1.symm
    go_wp2_with fail
    refine HN.out.mono ?_
    rintro e w2 ⟨rfl, hw2⟩
    obtain rfl := hw2.symm
    go_wp2_with fail
    go_ret
    exact ⟨rfl, hbn⟩
  | false =>
    have hcm : cmdK ((j + 1 : Nat) : Int) = true := by rw [hw, Bool.false_or] at hk; exact hk
    have HW : Hid (Calls Tryz.prog 29 #[.int .i64 ((j + 1 : Nat) : Int)] w fun e w' => e = .returned (.bool false) ∧ w' = w) := by have := rword_any ((j + 1 : Nat) : Int) w; rw [hw] at this; exact this
    have HM : Hid (Calls Tryz.prog 30 #[.int .i64 ((j + 1 : Nat) : Int)] w fun e w' => e = .returned (.bool true) ∧ w' = w) := by have := rcommand_any ((j + 1 : Nat) : Int) w; rw [hcm] at this; exact this
    clear hk hw hcm
    go_enter Tryz.func11, Tryz.ntmps11
    go_wp2_with fail
    refine HW.out.mono ?_
    rintro e w1 ⟨rfl, hw1⟩
    obtain rfl := hw1.symm
    go_wp2_with fail
    refine HM.out.mono ?_
    rintro e w1 ⟨rfl, hw1⟩
    obtain rfl := hw1.symm
    go_wp2_with fail
    refine HN.out.mono ?_
    rintro e w2 ⟨rfl, hw2⟩
    obtain rfl := hw2.symm
    go_wp2_with fail
    go_ret
    exact ⟨rfl, hbn⟩
theorem rkind_any (k : Int) (w : World) : Calls Tryz.prog 11 #[.int .i64 k] w fun e w' => e = .returned (str (kindN k)) ∧ Below w.heap.size w w' := by
  cases hk : (wordK k || cmdK k) with
  | true =>
    obtain ⟨i, hi, hlt⟩ := kind_range k hk
    have hb : (1 ≤ k ∧ k ≤ 12) ∨ (20 ≤ k ∧ k ≤ 37) := by simpa [wordK, cmdK] using hk
    obtain ⟨j, rfl⟩ : ∃ j : Nat, k = ((j + 1 : Nat) : Int) := ⟨(k - 1).toNat, by omega⟩
    have e : kindN ((j + 1 : Nat) : Int) = kindL.getD (j + 1) [] := by unfold kindN; rw [hk, if_pos rfl, Int.toNat_natCast]
    rw [e]
    exact rkind_yes j (by omega) hk w
  | false =>
    have e : kindN k = [63] := by unfold kindN; rw [hk]; rfl
    rw [e]
    have h1 : wordK k = false := by cases h : wordK k <;> simp_all
    have h2 : cmdK k = false := by cases h : cmdK k <;> simp_all
    have HW : Hid (Calls Tryz.prog 29 #[.int .i64 k] w fun e w' => e = .returned (.bool false) ∧ w' = w) := by have := rword_any k w; rw [h1] at this; exact this
    have HM : Hid (Calls Tryz.prog 30 #[.int .i64 k] w fun e w' => e = .returned (.bool false) ∧ w' = w) := by have := rcommand_any k w; rw [h2] at this; exact this
    clear hk h1 h2 e
    go_enter Tryz.func11, Tryz.ntmps11
    go_wp2_with fail
    refine HW.out.mono ?_
    rintro e w1 ⟨rfl, hw1⟩
    obtain rfl := hw1.symm
    go_wp2_with fail
    refine HM.out.mono ?_
    rintro e w1 ⟨rfl, hw1⟩
    obtain rfl := hw1.symm
    go_wp2_with fail
    go_ret
    exact ⟨rfl, Below.refl _ _⟩
/-- The number of a hexadecimal digit, or -1. -/
def hexI (c : UInt8) : Int := match hexV c with
  | some v => v
  | none => -1
theorem rhexed_any (c : UInt8) (w : World) : Calls Tryz.prog 56 #[.int .u8 (c.toNat : Int)] w fun e w' => e = .returned (.int .i64 (hexI c)) ∧ w' = w := by
  have hlt := c.toNat_lt
  by_cases h1 : 48 ≤ c.toNat ∧ c.toNat ≤ 57
  · have hv : hexI c = (c.toNat : Int) - 48 := by unfold hexI hexV; rw [if_pos h1]; simp only; omega
    rw [hv]
    obtain ⟨a1, a2⟩ := h1
    go_enter Tryz.func56, Tryz.ntmps56
    go_wp2_with fail
    go_ret
    exact ⟨rfl, rfl⟩
  · by_cases h2 : 97 ≤ c.toNat ∧ c.toNat ≤ 102
    · have hv : hexI c = (c.toNat : Int) - 97 + 10 := by unfold hexI hexV; rw [if_neg h1, if_pos h2]; simp only; omega
      rw [hv]
      obtain ⟨a1, a2⟩ := h2
      have b1 : ¬ ((c.toNat : Int) ≤ 57) := by omega
      clear h1
      go_enter Tryz.func56, Tryz.ntmps56
      go_wp2_with fail
      go_ret
      exact ⟨rfl, rfl⟩
    · have hv : hexI c = -1 := by unfold hexI hexV; rw [if_neg h1, if_neg h2]
      rw [hv]
      by_cases b1 : 48 ≤ c.toNat <;> by_cases b2 : 97 ≤ c.toNat
      all_goals
        first
        | (exfalso; omega)
        | skip
      all_goals
        try have d1 : decide ((c.toNat : Int) ≤ 57) = false := decide_eq_false (by omega)
        try have d2 : decide ((c.toNat : Int) ≤ 102) = false := decide_eq_false (by omega)
        clear h1 h2
        go_enter Tryz.func56, Tryz.ntmps56
        go_wp2_with fail
        go_ret
        exact ⟨rfl, rfl⟩
end Go.Proofs.YtaildeglikhkaaaGreatDoor
/-! Lists of programs of one's own. -/
namespace Go.Proofs.YtaildeglikhkaaaGreatDoor
open Go.RowKit
attribute [local go_sem] Oper.semAt_some

theorem info25 : (Tryz.prog.info? 22).map (fun i => (i.zero, i.size, i.bytes)) = some (some (.slice none 0 0), 1, 24) := by kernel_rfl
/-- Lists of nodes of one's own. -/
def KdOwn (W : World) (B : Nat) (v : Value) (K : List (Value × List Nd)) : Prop := W.ownsRow B 22 1 v K.length (K.map Prod.fst) ∧ ∀ p ∈ K, NdOwn W B p.1 p.2
theorem KdOwn.nil (W : World) (B : Nat) : KdOwn W B (.slice none 0 0) [] := ⟨World.ownsRow_nil _ _ _ _, fun p hp => by simp at hp⟩
theorem KdOwn.below {W W' : World} {B : Nat} {v : Value} {K : List (Value × List Nd)} (h : KdOwn W B v K) (hb : Below W.heap.size W W') : KdOwn W' B v K :=
  ⟨owns_turn h.1 (Turn.ofBelow (S := fun _ => False) hb) (fun _ _ h => h), fun p hp => (h.2 p hp).below hb⟩
theorem ones_flat (K : List (Value × List Nd)) : (K.map fun p => [p.1]).flatMap id = K.map Prod.fst := by
  induction K with
  | nil => rfl
  | cons a K ih =>
    rw [List.map_cons, List.flatMap_cons, ih]
    rfl
theorem KdOwn.at {W : World} {B : Nat} {v : Value} {K : List (Value × List Nd)} (h : KdOwn W B v K) : KdAt W v K := by
  refine ⟨RowAt.owned (e := 22) (B := B) ?_ (fun cs hcs => ?_), fun p hp => (h.2 p hp).at⟩
  · rw [ones_flat, List.length_map]
    exact h.1
  · obtain ⟨p, _, rfl⟩ := List.mem_map.1 hcs
    rfl
theorem KdOwn.snoc {W w2 w4 : World} {B B' : Nat} {v v' pv : Value} {K : List (Value × List Nd)} {X : List Nd} {o : Obj} (h : KdOwn W B v K) (hb2 : Below W.heap.size W w2) (hB : B ≤ W.heap.size) (hB' : B ≤ B') (hp : NdOwn w2 B' pv X)
    (hown : w4.ownsRow B 22 1 v' (K.length + 1) (K.map Prod.fst ++ [pv])) (hg : (w2.alloc o).grownBy w4 v.ownBlock) : KdOwn w4 B v' (K ++ [(pv, X)]) ∧ Below B W w4 := by
  have h3 : KdOwn (w2.alloc o) B v K := h.below (hb2.alloc hb2.size o)
  have hp3 : NdOwn (w2.alloc o) B pv X := owns_lower (hp.below (below_new w2 o)) hB'
  have hT := Turn.ofGrown hg
  refine ⟨⟨by rw [List.map_append, List.length_append]; exact hown, fun p hq => ?_⟩, ?_⟩
  · rcases List.mem_append.1 hq with hq | hq
    · exact owns_turn (h3.2 p hq) hT (fun b hb e' => owns_apart2 h3.1 (h3.2 p hq) (by decide) b e' hb)
    · simp only [List.mem_singleton] at hq
      subst hq
      exact owns_turn hp3 hT (fun b hb e' => owns_apart2 h3.1 hp3 (by decide) b e' hb)
  · exact ((hb2.alloc hb2.size o).mono hB).grown hg (Nat.le_trans hB (Nat.le_trans hb2.size (below_new w2 o).size)) (fun b hb => (h3.1.lt b hb).1)
theorem slice_one (v : Value) (h : ∃ ad n cap, v = .slice ad n cap) : ∀ u ∈ [v], u.oneCell' = true := by
  obtain ⟨ad, n, cap, rfl⟩ := h
  intro u hu
  simp only [List.mem_singleton] at hu
  subst hu
  rfl
theorem check_nil (W : World) (ea : Nat → Addr) (hE : Ers W ea) : Calls Tryz.prog 17 #[.slice none 0 0] W fun e w' => e = .returned (errV (ea 0)) ∧ w' = W := by
  have c0 : W.cell? ⟨1, 0, none⟩ = some (errV (ea 0)) := hE.cell 0 (by omega)
  clear hE
  go_enter Tryz.func17, Tryz.ntmps17
  go_wp2_with fail
  go_ret
  exact ⟨rfl, rfl⟩
end Go.Proofs.YtaildeglikhkaaaGreatDoor
/-! The document's own Kids. -/
namespace Go.Proofs.YtaildeglikhkaaaGreatDoor
open Go.RowKit
attribute [local go_sem] Oper.semAt_some

theorem NdAt.sub {W : World} {g o cap : Nat} {X : List Nd} (h : NdAt W (.slice (some ⟨g, o, none⟩) X.length cap) X) (p m : Nat) (h1 : 1 ≤ m) (h2 : p + m ≤ X.length) : NdAt W (.slice (some ⟨g, o + p * 5, none⟩) m (cap - p)) ((X.drop p).take m) := by
  have hlen : ((X.drop p).take m).length = m := by rw [List.length_take, List.length_drop]; omega
  rcases h with ⟨h0, _⟩ | ⟨g', o', cap', hv, hc, hg, hcs⟩
  · have : X = [] := by simpa using h0
    subst this
    simp at h2
    omega
  · rw [List.length_map] at hv hc
    cases hv
    refine .inr ⟨g, o + p * 5, cap - p, by rw [List.length_map, hlen], by rw [List.length_map, hlen]; omega, hg, fun j cs hj i u hu => ?_⟩
    have hjm : j < m := by
      have := (List.getElem?_eq_some_iff.1 hj).1
      rw [List.length_map, hlen] at this
      exact this
    rw [List.getElem?_map, List.getElem?_take_of_lt hjm, List.getElem?_drop] at hj
    have := hcs (p + j) cs (by rw [List.getElem?_map]; exact hj) i u hu
    rw [show o + p * 5 + j * 5 + i = o + (p + j) * 5 + i by omega]
    exact this
/-- What stands where a child begins. -/
theorem kid_at (d : Nat) (kind n : Int) (s : Txt) (Ys1 : List (List Nd)) (Y : List Nd) (Ys2 : List (List Nd)) (h : Seg d Y) : ∃ y : Nd, (newN kind n s (Ys1 ++ Y :: Ys2))[1 + Ys1.flatten.length]? = some y ∧ y.size = (Y.length : Int) ∧ 1 ≤ Y.length ∧ 1 + Ys1.flatten.length + Y.length ≤ (newN kind n s (Ys1 ++ Y :: Ys2)).length ∧ ((newN kind n s (Ys1 ++ Y :: Ys2)).drop (1 + Ys1.flatten.length)).take Y.length = Y := by
  obtain ⟨y, h1, h2, h3⟩ := h.head
  have e : newN kind n s (Ys1 ++ Y :: Ys2) = (⟨kind, n, (Ys1 ++ Y :: Ys2).length, (Ys1 ++ Y :: Ys2).flatten.length + 1, s⟩ :: Ys1.flatten) ++ (Y ++ Ys2.flatten) := by simp [newN]
  have el : (⟨kind, n, (Ys1 ++ Y :: Ys2).length, (Ys1 ++ Y :: Ys2).flatten.length + 1, s⟩ :: Ys1.flatten : List Nd).length = 1 + Ys1.flatten.length := by simp; omega
  refine ⟨y, ?_, h2, h3, ?_, ?_⟩
  · rw [e, List.getElem?_append_right (by omega), el, Nat.sub_self, List.getElem?_append_left (by omega), h1]
  · rw [e, List.length_append, el, List.length_append]; omega
  · rw [e, List.drop_append_of_le_length (by omega), ← el, List.drop_length, List.nil_append, List.take_append_of_le_length (Nat.le_refl _), List.take_length]
/-- A round's state: so many children are in the row. -/
def KidSt (w : World) (Ys : List (List Nd)) (v3 v4 v6 : Value) (wr : World) : Prop := ∃ (Ys1 Ys2 : List (List Nd)) (K : List (Value × List Nd)) (at_ : Nat), Hid (Ys = Ys1 ++ Ys2) ∧ Hid (K.map Prod.snd = Ys1) ∧ Hid (at_ = 1 + Ys1.flatten.length) ∧ v4 = .int .i64 (at_ : Int) ∧ v6 = .int .i64 (Ys1.length : Nat) ∧ Hid (wr.ownsRow w.heap.size 22 1 v3 K.length (K.map Prod.fst)) ∧ Below w.heap.size w wr ∧ Hid (∀ p ∈ K, NdAt w p.1 p.2)
set_option maxHeartbeats 4000000 in
set_option maxRecDepth 100000 in
theorem rkids_any (d : Nat) (kind n : Int) (s : Txt) (Ys : List (List Nd)) (hY : ∀ Y ∈ Ys, Seg d Y) (hl : (newN kind n s Ys).length ≤ 100000) (v : Value) (w : World) (hN : NdAt w v (newN kind n s Ys)) :
    Calls Tryz.prog 43 #[v] w fun e w' => ∃ v' K, e = .returned v' ∧ K.map Prod.snd = Ys ∧ KdAt w' v' K ∧ Below w.heap.size w w' := by
  obtain ⟨i0, hi, hz0, hz1, hz2⟩ := info_parts info25
  obtain ⟨X, hX⟩ : ∃ X, newN kind n s Ys = X := ⟨_, rfl⟩
  have hXl : Ys.flatten.length + 1 = X.length := by rw [← hX]; simp [newN]
  have hKl : Ys.length ≤ Ys.flatten.length := by
    clear hX hXl hN hl
    induction Ys with
    | nil => simp
    | cons Y Ys ih =>
      have := ih (fun Z hZ => hY Z (by simp [hZ]))
      obtain ⟨y, _, _, h3⟩ := (hY Y (by simp)).head
      rw [List.flatten_cons, List.length_append, List.length_cons]
      omega
  obtain ⟨g, o, cap, rfl, hg, -, -, a2, a3, -⟩ := hN.at (j := 0) (x := ⟨kind, n, Ys.length, Ys.flatten.length + 1, s⟩) rfl
  simp only at a2 a3
  rw [Nat.zero_mul, Nat.add_zero] at a2 a3
  rw [show ((Ys.flatten.length : Int) + 1) = (X.length : Int) by omega] at a3
  rw [hX] at hN hl ⊢
  have hcap : X.length ≤ cap := by
    rcases hN with ⟨h0, _⟩ | ⟨g', o', cap', hv, hc, _⟩
    · have : X = [] := by simpa using h0
      rw [this] at hXl
      simp at hXl
    · rw [List.length_map] at hv hc
      cases hv
      exact hc
  have HK : Hid (∀ Ys1 Y Ys2, Ys = Ys1 ++ Y :: Ys2 → ∃ y : Nd, X[1 + Ys1.flatten.length]? = some y ∧ y.size = (Y.length : Int) ∧ 1 ≤ Y.length ∧ 1 + Ys1.flatten.length + Y.length ≤ X.length ∧ (X.drop (1 + Ys1.flatten.length)).take Y.length = Y) := fun Ys1 Y Ys2 e => by
    subst hX; subst e; exact kid_at d kind n s Ys1 Y Ys2 (hY Y (by simp))
  have hX0 : 1 ≤ X.length := by omega
  have hYX : Ys.length < X.length := by omega
  clear hX hY hXl hKl
  go_enter Tryz.func43, Tryz.ntmps43
  go_wp2_with fail
  go_loopw [3, 4, 6] (fun v3 v4 v6 wr => KidSt w Ys v3 v4 v6 wr) (fun _ _ v6 _ => Ys.length - (intOf v6).toNat)
  case atStart => exact ⟨[], Ys, [], 1, rfl, rfl, rfl, rfl, rfl, World.ownsRow_nil _ _ _ _, Below.refl _ _, fun p hp => by simp at hp⟩
  case round =>
    obtain ⟨Ys1, Ys2, K, at_, HE, HS, HT, rfl, rfl, HO, hbr, HA⟩ := hrel
    have hle : Ys1.length + Ys2.length = Ys.length := by rw [HE.out]; simp
    have hKs : K.length = Ys1.length := by rw [← HS.out]; simp
    have b2 : wr.cell? ⟨g, o + 2, none⟩ = some (.int .i64 (Ys.length : Nat)) := (hbr.cell (p := ⟨g, o + 2, none⟩) hg).trans a2
    obtain ⟨i, hi_⟩ : ∃ i, i = Ys1.length := ⟨_, rfl⟩
    rw [← hi_] at hle hKs ⊢
    have HI : Hid (i = Ys1.length) := hi_
    clear hi_
    cases Ys2 with
    | nil =>
      have HF : Hid (K.map Prod.snd = Ys) := by unfold Hid; rw [HS.out, HE.out]; simp
      have HG : Hid (KdAt wr u3 K) := ⟨RowAt.owned (e := 22) (B := w.heap.size) (by rw [List.length_map]; simpa [List.flatMap_map, ← List.map_eq_flatMap] using HO.out) (fun cs hcs => by obtain ⟨p, _, rfl⟩ := List.mem_map.1 hcs; rfl), fun p hp => (HA.out p hp).below hbr (Nat.le_refl _)⟩
      simp only [List.length_nil] at hle
      have hni : ¬ (i : Int) < (Ys.length : Int) := by omega
      go_wp2_with fail
      go_ret
      exact ⟨_, rfl, K, HF.out, HG.out, hbr⟩
    | cons Y Ys2 =>
      obtain ⟨y, hy, hys, hy1, hyl, hyt⟩ := HK.out Ys1 Y Ys2 HE.out
      simp only [List.length_cons] at hle
      rw [← HT.out] at hy hyl hyt
      obtain ⟨m, hm⟩ : ∃ m, m = Y.length := ⟨_, rfl⟩
      rw [← hm] at hys hy1 hyl hyt
      have b3 : wr.cell? ⟨g, o + at_ * 5 + 3, none⟩ = some (.int .i64 (m : Int)) := by
        obtain ⟨g', o', cap', hv, _, _, _, _, c3, _⟩ := (hN.below hbr (Nat.le_refl _)).at hy
        cases hv
        rw [hys] at c3
        exact c3
      have HV : Hid (NdAt w (.slice (some ⟨g, o + at_ * 5, none⟩) m (cap - at_)) Y) := by
        have := hN.sub at_ m hy1 hyl
        rw [hyt] at this
        exact this
      have d1 : (i : Int) < (Ys.length : Int) := by omega
      have d2 : (at_ : Int) < (X.length : Int) := by omega
      have d3 : ¬ (m : Int) < 1 := by omega
      have d4 : ¬ (X.length : Int) - at_ < m := by omega
      have ho := HO.out
      have HM : Hid (m = Y.length) := hm
      have hba : ∀ o, Below w.heap.size w (wr.alloc o) := fun o => hbr.alloc hbr.size o
      have hsz := hbr.size
      clear hyt hy hys hm
      go_wp2_with (at_builtin; refine wpList_append_own _ rfl _ _ 75 rfl w.heap.size 22 i0 (.slice none 0 0) 1 24 Tryz.underlying75 hi hz0 hz1 hz2 rfl (by decide) _ _ _ rfl (ho.alloc _) ⟨wr.heap.size, 0, none⟩ 1 1 [.slice (some ⟨g, o + at_ * 5, none⟩) m (cap - at_)] rfl rfl (cells_new _ [.slice (some ⟨g, o + at_ * 5, none⟩) m (cap - at_)] _) (by simp [Value.oneCell']) (by have := maxLen_big; omega) (by omega) (by simp; omega) ?_; intro v' w2 hown' hgrow _)
      refine ⟨⟨_, _, _, _, ?st, rfl, rfl, rfl, rfl⟩, ?me⟩
      case me => simp [intOf]; omega
      case st =>
        refine ⟨Ys1 ++ [Y], Ys2, K ++ [(.slice (some ⟨g, o + at_ * 5, none⟩) m (cap - at_), Y)], at_ + m, ?_, ?_, ?_, by simp, ?_, ?_, grown_own (hba _).size (hba _) (ho.alloc _) hgrow, ?_⟩
        · unfold Hid; rw [HE.out]; simp
        · unfold Hid; rw [List.map_append, HS.out]; rfl
        · unfold Hid; rw [HT.out, HM.out, List.flatten_append, List.length_append]; simp; omega
        · rw [List.length_append, ← HI.out]; simp
        · unfold Hid; rw [List.map_append, List.length_append]; exact hown'
        · intro p hp
          rcases List.mem_append.1 hp with hp | hp
          · exact HA.out p hp
          · obtain rfl := List.mem_singleton.1 hp
            exact HV.out
end Go.Proofs.YtaildeglikhkaaaGreatDoor
/-! The document's own Number. -/
namespace Go.Proofs.YtaildeglikhkaaaGreatDoor
open Go.RowKit

theorem eq_of_data {a b : ByteArray} (h : a.data.toList = b.data.toList) : a = b := by
  obtain ⟨⟨x⟩⟩ := a; obtain ⟨⟨y⟩⟩ := b
  have h' : x = y := h
  rw [h']
theorem ret_str {a b : ByteArray} (h : a = b) : Ending.returned (.string a) = .returned (.string b) := by rw [h]

/-- A digit's byte. -/
def dig8 (d : Nat) : UInt8 := UInt8.ofNat (48 + d)
theorem conv_dig (W : World) (b d : Nat) (hd : d < 10) (h : W.cell? ⟨b, 0, none⟩ = some (.int .u8 (48 + (d : Int)))) :
    (convert 43 9 (.slice (some ⟨b, 0, none⟩) 1 1)).run Tryz.prog W = .ok (.string ⟨#[dig8 d]⟩) W :=
  conv_at W b (dig8 d) (by rw [h, dig8, u8_of d hd]; simp)

set_option maxRecDepth 100000 in
set_option maxHeartbeats 400000 in
theorem rnum_small (n : Nat) (w : World) (hn : n < 10) :
    Calls Tryz.prog 41 #[.int .i64 n] w fun e w' => e = .returned (.string ⟨(Lib.decDigits n).toArray⟩) ∧ Below w.heap.size w w' := by
  rw [dec_small n hn, show UInt8.ofNat (48 + n) = dig8 n from rfl]
  have hcv := conv_dig (w.alloc (.cells #[.int .u8 (48 + (n : Int))] 5)) w.heap.size n hn (by simp [go_sem])
  go_enter Tryz.func41, Tryz.ntmps41
  go_wp2
  go_ret
  exact ⟨rfl, (Below.refl _ _).alloc (Nat.le_refl _) _⟩

set_option linter.unusedSimpArgs false in
set_option maxHeartbeats 1000000 in
theorem rnum_pos : ∀ (m n : Nat), n ≤ m → n < 9223372036854775808 → ∀ w : World,
    Calls Tryz.prog 41 #[.int .i64 n] w fun e w' => e = .returned (.string ⟨(Lib.decDigits n).toArray⟩) ∧ Below w.heap.size w w' := by
  intro m
  induction m with
  | zero => intro n hn _ w; exact rnum_small n w (by omega)
  | succ m ih =>
    intro n hn hb w
    by_cases h10 : n < 10
    · exact rnum_small n w h10
    · obtain ⟨q, hq⟩ : ∃ q : Nat, q = n / 10 := ⟨_, rfl⟩
      obtain ⟨d, hd0⟩ : ∃ d : Nat, d = n % 10 := ⟨_, rfl⟩
      have hd : d < 10 := by omega
      have hlen := dec_len q 18 (by omega) (by omega)
      obtain ⟨A, hA⟩ : ∃ A : ByteArray, A = ⟨(Lib.decDigits q).toArray⟩ := ⟨_, rfl⟩
      have hAs : A.size ≤ 18 := by rw [hA]; show (Lib.decDigits q).toArray.size ≤ 18; simpa using hlen
      have hAs2 : A.size ≤ 9223372036854775806 := by omega
      have hfin : A ++ ⟨#[dig8 d]⟩ = ⟨(Lib.decDigits n).toArray⟩ := by
        apply eq_of_data
        rw [dec_big n h10, ← hq, ← hd0, ByteArray.data_append, hA]
        simp [dig8]
      have ih2 := ih q (by omega) (by omega)
      rw [← hA] at ih2
      have hq1 : IntKind.i64.wrap ((n : Int) / 10) = (q : Int) := by rw [IntKind.wrap_i64]; omega
      have ht : (n : Int).tmod 10 = (d : Int) := by rw [Int.tmod_eq_emod_of_nonneg (by omega)]; omega
      have h5 : IntKind.i64.wrap (48 + (d : Int)) = 48 + (d : Int) := by rw [IntKind.wrap_i64]; omega
      have h6 : IntKind.u8.wrap (48 + (d : Int)) = 48 + (d : Int) := by rw [IntKind.wrap_u8]; omega
      have IH : Hid _ := ih2
      have HA : Hid _ := hfin
      have hb0 : Below w.heap.size w w.drew := (Below.refl _ _).drew
      have hb2 : Below w.heap.size w (w.alloc (.cells #[.int .u8 (48 + (d : Int))] 5)).drew := ((Below.refl _ _).alloc (Nat.le_refl _) _).drew
      have hlt : decide ((n : Int) < 0) = false := decide_eq_false (by omega)
      have h10' : decide ((n : Int) < 10) = false := decide_eq_false (by omega)
      have hlt2 : ¬ (n : Int) < 0 := by omega
      have h102 : ¬ (n : Int) < 10 := by omega
      clear ih ih2 hfin hA hq hd0 hlen hn hb
      go_enter Tryz.func41, Tryz.ntmps41
      go_wp2_with fail
      refine wp_region_noPanic ?_
      refine wp_region_any (by kernel_rfl) ?_
      try (change wpAny _ _ _ _ _ _ _ (World.drew _))
      refine wpAny_take (i := 0) (v := .int .i64 (n : Int)) rfl (by kernel_rfl) (by kernel_rfl) (by kernel_rfl) (fun _ _ _ h => h) (Or.inl ⟨by rfl, by intro wz; go_simp⟩) ?_
      try simp only [Act.put, List.getElem_toArray, List.getElem_cons_succ, List.getElem_cons_zero, List.setIfInBounds_toArray, List.set_cons_zero, List.set_cons_succ]
      refine wpAny_take (i := 1) (v := .int .i64 (q : Int)) rfl (by kernel_rfl) (by kernel_rfl) (by kernel_rfl) (fun _ _ _ h => h) (Or.inl ⟨by rfl, by intro wz; go_simp⟩) ?_
      try simp only [Act.put, List.getElem_toArray, List.getElem_cons_succ, List.getElem_cons_zero, List.setIfInBounds_toArray, List.set_cons_zero, List.set_cons_succ]
      refine wpAny_take (i := 3) (v := .int .i64 (n : Int)) rfl (by kernel_rfl) (by kernel_rfl) (by kernel_rfl) (fun _ _ _ h => h) (Or.inl ⟨by rfl, by intro wz; go_simp⟩) ?_
      try simp only [Act.put, List.getElem_toArray, List.getElem_cons_succ, List.getElem_cons_zero, List.setIfInBounds_toArray, List.set_cons_zero, List.set_cons_succ]
      refine wpAny_take (i := 4) (v := .int .i64 (d : Int)) rfl (by kernel_rfl) (by kernel_rfl) (by kernel_rfl) (fun _ _ _ h => h) (Or.inl ⟨by rfl, by intro wz; go_simp⟩) ?_
      try simp only [Act.put, List.getElem_toArray, List.getElem_cons_succ, List.getElem_cons_zero, List.setIfInBounds_toArray, List.set_cons_zero, List.set_cons_succ]
      refine wpAny_take (i := 5) (v := .int .i64 (48 + (d : Int))) rfl (by kernel_rfl) (by kernel_rfl) (by kernel_rfl) (fun _ _ _ h => h) (Or.inl ⟨by rfl, by intro wz; go_simp⟩) ?_
      try simp only [Act.put, List.getElem_toArray, List.getElem_cons_succ, List.getElem_cons_zero, List.setIfInBounds_toArray, List.set_cons_zero, List.set_cons_succ]
      refine wpAny_take (i := 6) (v := .int .u8 (48 + (d : Int))) rfl (by kernel_rfl) (by kernel_rfl) (by kernel_rfl) (fun _ _ _ h => h) (Or.inl ⟨by rfl, by intro wz; go_simp⟩) ?_
      try simp only [Act.put, List.getElem_toArray, List.getElem_cons_succ, List.getElem_cons_zero, List.setIfInBounds_toArray, List.set_cons_zero, List.set_cons_succ]
      refine wpAny_ready (rs := [2, 7]) (by kernel_rfl) (by simp) ?_
      refine AllReady.cons rfl (fun K hK => ?_) ?_
      · go_simp
        refine (IH.out _).mono ?_
        rintro e w1 ⟨rfl, hb1⟩
        go_wp2_with fail
        try simp only [Act.put, List.getElem_toArray, List.getElem_cons_succ, List.getElem_cons_zero, List.setIfInBounds_toArray, List.set_cons_zero, List.set_cons_succ]
        refine wpAny_ready (rs := [7]) (by kernel_rfl) (by simp) ?_
        refine AllReady.cons rfl (fun K hK => ?_) ?_
        · go_simp
          refine hK _ _ ?_
          clear hK K
          try simp only [Act.put, List.getElem_toArray, List.getElem_cons_succ, List.getElem_cons_zero, List.setIfInBounds_toArray, List.set_cons_zero, List.set_cons_succ]
          refine wpAny_ready (rs := [8]) (by kernel_rfl) (by simp) ?_
          refine AllReady.cons rfl (fun K hK => ?_) ?_
          · have hcv := conv_dig (w1.alloc (.cells #[.int .u8 (48 + (d : Int))] 5)) w1.heap.size d hd (by simp [go_sem])
            go_simp
            refine hK _ _ ?_
            clear hK K
            try simp only [Act.put, List.getElem_toArray, List.getElem_cons_succ, List.getElem_cons_zero, List.setIfInBounds_toArray, List.set_cons_zero, List.set_cons_succ]
            refine wpAny_take (i := 9) (v := .string (A ++ ⟨#[dig8 d]⟩)) rfl (by kernel_rfl) (by kernel_rfl) (by kernel_rfl) (fun _ _ _ h => h) (Or.inl ⟨by rfl, by intro wz; go_simp⟩) ?_
            try simp only [Act.put, List.getElem_toArray, List.getElem_cons_succ, List.getElem_cons_zero, List.setIfInBounds_toArray, List.set_cons_zero, List.set_cons_succ]
            refine wpAny_take (i := 10) (v := .string (A ++ ⟨#[dig8 d]⟩)) rfl (by kernel_rfl) (by kernel_rfl) (by kernel_rfl) (fun _ _ _ h => h) (Or.inl ⟨by rfl, by intro wz; go_simp⟩) ?_
            try simp only [Act.put, List.getElem_toArray, List.getElem_cons_succ, List.getElem_cons_zero, List.setIfInBounds_toArray, List.set_cons_zero, List.set_cons_succ]
            refine wpAny_done (by kernel_rfl) ?_ _
            refine NoPanic.normal ?_
            go_wp2_with fail
            go_ret
            exact ⟨ret_str HA.out, (hb0.trans hb1).alloc (hb0.trans hb1).size _⟩
          exact AllReady.nil
        exact AllReady.nil
      refine AllReady.cons rfl (fun K hK => ?_) ?_
      · go_simp
        refine hK _ _ ?_
        clear hK K
        try simp only [Act.put, List.getElem_toArray, List.getElem_cons_succ, List.getElem_cons_zero, List.setIfInBounds_toArray, List.set_cons_zero, List.set_cons_succ]
        refine wpAny_ready (rs := [2, 8]) (by kernel_rfl) (by simp) ?_
        refine AllReady.cons rfl (fun K hK => ?_) ?_
        · go_simp
          refine (IH.out _).mono ?_
          rintro e w1 ⟨rfl, hb1⟩
          go_wp2_with fail
          try simp only [Act.put, List.getElem_toArray, List.getElem_cons_succ, List.getElem_cons_zero, List.setIfInBounds_toArray, List.set_cons_zero, List.set_cons_succ]
          refine wpAny_ready (rs := [8]) (by kernel_rfl) (by simp) ?_
          refine AllReady.cons rfl (fun K hK => ?_) ?_
          · have hcv := conv_dig w1 w.heap.size d hd (by rw [hb1.cell (by simp)]; simp [go_sem])
            go_simp
            refine hK _ _ ?_
            clear hK K
            try simp only [Act.put, List.getElem_toArray, List.getElem_cons_succ, List.getElem_cons_zero, List.setIfInBounds_toArray, List.set_cons_zero, List.set_cons_succ]
            refine wpAny_take (i := 9) (v := .string (A ++ ⟨#[dig8 d]⟩)) rfl (by kernel_rfl) (by kernel_rfl) (by kernel_rfl) (fun _ _ _ h => h) (Or.inl ⟨by rfl, by intro wz; go_simp⟩) ?_
            try simp only [Act.put, List.getElem_toArray, List.getElem_cons_succ, List.getElem_cons_zero, List.setIfInBounds_toArray, List.set_cons_zero, List.set_cons_succ]
            refine wpAny_take (i := 10) (v := .string (A ++ ⟨#[dig8 d]⟩)) rfl (by kernel_rfl) (by kernel_rfl) (by kernel_rfl) (fun _ _ _ h => h) (Or.inl ⟨by rfl, by intro wz; go_simp⟩) ?_
            try simp only [Act.put, List.getElem_toArray, List.getElem_cons_succ, List.getElem_cons_zero, List.setIfInBounds_toArray, List.set_cons_zero, List.set_cons_succ]
            refine wpAny_done (by kernel_rfl) ?_ _
            refine NoPanic.normal ?_
            go_wp2_with fail
            go_ret
            exact ⟨ret_str HA.out, hb2.trans (hb1.mono (by simp))⟩
          exact AllReady.nil
        refine AllReady.cons rfl (fun K hK => ?_) ?_
        · have hcv := conv_dig (w.alloc (.cells #[.int .u8 (48 + (d : Int))] 5)).drew w.heap.size d hd (by simp [go_sem])
          go_simp
          refine hK _ _ ?_
          clear hK K
          try simp only [Act.put, List.getElem_toArray, List.getElem_cons_succ, List.getElem_cons_zero, List.setIfInBounds_toArray, List.set_cons_zero, List.set_cons_succ]
          refine wpAny_ready (rs := [2]) (by kernel_rfl) (by simp) ?_
          refine AllReady.cons rfl (fun K hK => ?_) ?_
          · go_simp
            refine (IH.out _).mono ?_
            rintro e w1 ⟨rfl, hb1⟩
            go_wp2_with fail
            try simp only [Act.put, List.getElem_toArray, List.getElem_cons_succ, List.getElem_cons_zero, List.setIfInBounds_toArray, List.set_cons_zero, List.set_cons_succ]
            refine wpAny_take (i := 9) (v := .string (A ++ ⟨#[dig8 d]⟩)) rfl (by kernel_rfl) (by kernel_rfl) (by kernel_rfl) (fun _ _ _ h => h) (Or.inl ⟨by rfl, by intro wz; go_simp⟩) ?_
            try simp only [Act.put, List.getElem_toArray, List.getElem_cons_succ, List.getElem_cons_zero, List.setIfInBounds_toArray, List.set_cons_zero, List.set_cons_succ]
            refine wpAny_take (i := 10) (v := .string (A ++ ⟨#[dig8 d]⟩)) rfl (by kernel_rfl) (by kernel_rfl) (by kernel_rfl) (fun _ _ _ h => h) (Or.inl ⟨by rfl, by intro wz; go_simp⟩) ?_
            try simp only [Act.put, List.getElem_toArray, List.getElem_cons_succ, List.getElem_cons_zero, List.setIfInBounds_toArray, List.set_cons_zero, List.set_cons_succ]
            refine wpAny_done (by kernel_rfl) ?_ _
            refine NoPanic.normal ?_
            go_wp2_with fail
            go_ret
            exact ⟨ret_str HA.out, hb2.trans (hb1.mono (by simp))⟩
          exact AllReady.nil
        exact AllReady.nil
      exact AllReady.nil

theorem dec_min : Lib.decDigits 9223372036854775808 = [57, 50, 50, 51, 51, 55, 50, 48, 51, 54, 56, 53, 52, 55, 55, 53, 56, 48, 56] := by
  have h := (dec_of 18 [57, 50, 50, 51, 51, 55, 50, 48, 51, 54, 56, 53, 52, 55, 55, 53, 56, 48, 56] rfl (by decide) (by decide)).1
  rwa [show valOf [57, 50, 50, 51, 51, 55, 50, 48, 51, 54, 56, 53, 52, 55, 55, 53, 56, 48, 56] = 9223372036854775808 from by decide] at h
set_option maxHeartbeats 400000 in
theorem rnum_min (w : World) :
    Calls Tryz.prog 41 #[.int .i64 (-9223372036854775808)] w fun e w' => e = .returned (.string ⟨#[45, 57, 50, 50, 51, 51, 55, 50, 48, 51, 54, 56, 53, 52, 55, 55, 53, 56, 48, 56]⟩) ∧ w' = w := by
  go_enter Tryz.func41, Tryz.ntmps41
  go_wp2
  go_ret
  exact ⟨rfl, rfl⟩
set_option maxHeartbeats 1000000 in
theorem rnum_neg (k : Nat) (w : World) (h0 : 0 < k) (h1 : k < 9223372036854775808) :
    Calls Tryz.prog 41 #[.int .i64 (-(k : Int))] w fun e w' => e = .returned (.string ⟨(45 :: Lib.decDigits k).toArray⟩) ∧ Below w.heap.size w w' := by
  obtain ⟨A, hA⟩ : ∃ A : ByteArray, A = ⟨(Lib.decDigits k).toArray⟩ := ⟨_, rfl⟩
  have hlen := dec_len k 19 (by omega) (by omega)
  have hAs : A.size ≤ 19 := by rw [hA]; show (Lib.decDigits k).toArray.size ≤ 19; simpa using hlen
  have hfin : (⟨#[45]⟩ : ByteArray) ++ A = ⟨(45 :: Lib.decDigits k).toArray⟩ := by
    apply eq_of_data
    rw [ByteArray.data_append, hA]
    simp
  have hp := rnum_pos k k (Nat.le_refl _) h1
  rw [← hA] at hp
  have HP : Hid _ := hp
  have HA : Hid _ := hfin
  clear hp hfin hA hlen
  have hn1 : (-(k : Int)) < 0 := by omega
  have hn2 : ¬ (-(k : Int)) < -9223372036854775807 := by omega
  go_enter Tryz.func41, Tryz.ntmps41
  go_wp2_with fail
  refine (HP.out _).mono ?_
  rintro e w1 ⟨rfl, hb1⟩
  go_wp2_with fail
  go_ret
  exact ⟨ret_str HA.out, hb1⟩
theorem rnumber_any (n : Int) (w : World) (h0 : -9223372036854775808 ≤ n) (h1 : n ≤ 9223372036854775807) :
    Calls Tryz.prog 41 #[.int .i64 n] w fun e w' => e = .returned (.string ⟨(Lib.itoa n).toArray⟩) ∧ Below w.heap.size w w' := by
  by_cases hn : n < 0
  · by_cases hm : n = -9223372036854775808
    · subst hm
      refine (rnum_min w).mono ?_
      rintro e w' ⟨rfl, rfl⟩
      refine ⟨ret_str ?_, Below.refl _ _⟩
      unfold Lib.itoa
      rw [if_pos (by omega), show (-9223372036854775808 : Int).natAbs = 9223372036854775808 from rfl, dec_min]
    · obtain ⟨k, rfl⟩ : ∃ k : Nat, n = -(k : Int) := ⟨n.natAbs, by omega⟩
      refine (rnum_neg k w (by omega) (by omega)).mono ?_
      rintro e w' ⟨rfl, hb⟩
      refine ⟨ret_str ?_, hb⟩
      unfold Lib.itoa
      rw [if_pos hn, show (-(k : Int)).natAbs = k by omega]
  · obtain ⟨k, rfl⟩ := Int.eq_ofNat_of_zero_le (show 0 ≤ n by omega)
    refine (rnum_pos k k (Nat.le_refl _) (by omega) w).mono ?_
    rintro e w' ⟨rfl, hb⟩
    refine ⟨ret_str ?_, hb⟩
    unfold Lib.itoa
    rw [if_neg hn, Int.toNat_natCast]
end Go.Proofs.YtaildeglikhkaaaGreatDoor
namespace Go.Proofs.YtaildeglikhkaaaGreatDoor
open Go.RowKit
attribute [local go_sem] Oper.semAt_some

set_option maxHeartbeats 1000000 in
theorem rnamed_any (k : Int) (w : World) : Calls Tryz.prog 42 #[.int .i64 k] w fun e w' => e = .returned (.bool (strK k)) ∧ w' = w := by
  by_cases h1 : k = 1
  · subst h1; go_enter Tryz.func42, Tryz.ntmps42; go_wp2_with fail; go_ret; exact ⟨rfl, rfl⟩
  by_cases h2 : k = 2
  · subst h2; go_enter Tryz.func42, Tryz.ntmps42; go_wp2_with fail; go_ret; exact ⟨rfl, rfl⟩
  by_cases h3 : k = 22
  · subst h3; go_enter Tryz.func42, Tryz.ntmps42; go_wp2_with fail; go_ret; exact ⟨rfl, rfl⟩
  by_cases h4 : k = 29
  · subst h4; go_enter Tryz.func42, Tryz.ntmps42; go_wp2_with fail; go_ret; exact ⟨rfl, rfl⟩
  by_cases h5 : k = 31
  · subst h5; go_enter Tryz.func42, Tryz.ntmps42; go_wp2_with fail; go_ret; exact ⟨rfl, rfl⟩
  by_cases h6 : k = 35
  · subst h6; go_enter Tryz.func42, Tryz.ntmps42; go_wp2_with fail; go_ret; exact ⟨rfl, rfl⟩
  have e1 : (k == 1) = false := by simpa using h1
  have e2 : (k == 2) = false := by simpa using h2
  have e3 : (k == 22) = false := by simpa using h3
  have e4 : (k == 29) = false := by simpa using h4
  have e5 : (k == 31) = false := by simpa using h5
  have e6 : (k == 35) = false := by simpa using h6
  rw [show strK k = false by unfold strK; rw [e1, e2, e3, e4, e5, e6]; rfl]
  clear h1 h2 h3 h4 h5 h6
  go_enter Tryz.func42, Tryz.ntmps42
  go_wp2_with fail
  go_ret
  exact ⟨rfl, rfl⟩
theorem cat_str (a b : List UInt8) : (⟨a.toArray⟩ : ByteArray) ++ ⟨b.toArray⟩ = ⟨(a ++ b).toArray⟩ := by
  apply eq_of_data
  rw [ByteArray.data_append]
  simp
theorem bs_size (a : List UInt8) : (⟨a.toArray⟩ : ByteArray).size = a.length := by simp [ByteArray.size]
/-- A round's state: so many children are written. -/
def RpSt (wk : World) (Ys : List (List Nd)) (bg : List UInt8) (f : List Nd → List UInt8) (v3 v5 : Value) (wr : World) : Prop := ∃ (i : Nat) (S : ByteArray), v5 = .int .i64 (i : Nat) ∧ v3 = .string S ∧ i ≤ Ys.length ∧ Hid (S = ⟨(bg ++ (Ys.take i).flatMap f).toArray⟩) ∧ Hid (Below wk.heap.size wk wr)
theorem take_flat (f : List Nd → List UInt8) (Ys : List (List Nd)) (i : Nat) (Y : List Nd) (h : Ys[i]? = some Y) : (Ys.take (i + 1)).flatMap f = (Ys.take i).flatMap f ++ f Y ∧ ((Ys.take i).flatMap f).length + (f Y).length ≤ (Ys.flatMap f).length := by
  have hi := (List.getElem?_eq_some_iff.1 h).1
  have e : Ys.take (i + 1) = Ys.take i ++ [Y] := by rw [List.take_add_one, h]; rfl
  refine ⟨by rw [e]; simp, ?_⟩
  have e2 : Ys = Ys.take (i + 1) ++ Ys.drop (i + 1) := (List.take_append_drop _ _).symm
  conv => rhs; rw [e2, e]
  rw [List.flatMap_append, List.flatMap_append, List.length_append, List.length_append]
  simp
theorem ritoa_len (n : Int) (h0 : -9223372036854775808 ≤ n) (h1 : n ≤ 9223372036854775807) : (Lib.itoa n).length ≤ 20 := by
  unfold Lib.itoa
  split
  · have := dec_len n.natAbs 19 (by omega) (by omega)
    simp
    omega
  · have := dec_len n.toNat 19 (by omega) (by omega)
    omega
theorem quote_len (l : List UInt8) : (quoteL l).length ≤ 3 * l.length + 2 := by have := quoteL_length l; omega
theorem flat_le (d : Nat) : ∀ Ys : List (List Nd), (∀ Y ∈ Ys, Seg d Y) → Ys.length ≤ Ys.flatten.length
  | [], _ => by simp
  | Y :: Ys, h => by
    obtain ⟨_, _, _, h1⟩ := (h Y (by simp)).head
    have h2 := flat_le d Ys (fun Z hZ => h Z (by simp [hZ]))
    simp only [List.length_cons, List.flatten_cons, List.length_append]
    omega
/-- What the document's Print answers for a tree. -/
def RpC (d : Nat) (X : List Nd) : Prop := ∀ (v : Value) (w : World), NdAt w v X → X.length ≤ 100000 → (∀ x ∈ X, x.s.length < 1000000 ∧ -9223372036854775808 ≤ x.n ∧ x.n ≤ 9223372036854775807) → (textL beginL d X).length ≤ 1099511627776 →
  Calls Tryz.prog 16 #[v] w fun e w' => e = .returned (str (textL beginL d X)) ∧ Below w.heap.size w w'
set_option maxHeartbeats 4000000 in
set_option maxRecDepth 100000 in
theorem rp_mk (d : Nat) (kind n : Int) (s : Txt) (Ys : List (List Nd)) (hY : ∀ Y ∈ Ys, Seg d Y) (ih : ∀ Y ∈ Ys, RpC d Y) : RpC (d + 1) (newN kind n s Ys) := by
  intro v w hN hl hx hT
  have hRK : Hid (∀ W, Below w.heap.size w W → Calls Tryz.prog 43 #[v] W fun e w' => ∃ v' K, e = .returned v' ∧ K.map Prod.snd = Ys ∧ KdAt w' v' K ∧ Below W.heap.size W w') := fun W hb => rkids_any d kind n s Ys hY hl v W (hN.below hb (Nat.le_refl _))
  obtain ⟨g, o, cap, rfl, hg, a0, a1, -, -, a4⟩ := hN.at (j := 0) (x := ⟨kind, n, Ys.length, Ys.flatten.length + 1, s⟩) rfl
  simp only at a0 a1 a4
  rw [Nat.zero_mul, Nat.add_zero] at a0 a1 a4
  obtain ⟨hs1, hn1, hn2⟩ := hx ⟨kind, n, Ys.length, Ys.flatten.length + 1, s⟩ (by simp [newN])
  simp only at hs1 hn1 hn2
  rw [textL_new beginL d kind n s Ys hY] at hT ⊢
  obtain ⟨bg, hbg⟩ : ∃ bg, bg = beginL ⟨kind, n, Ys.length, Ys.flatten.length + 1, s⟩ := ⟨_, rfl⟩
  rw [← hbg] at hT ⊢
  have HBG : Hid (bg = [40] ++ kindN kind ++ (if n = 0 then [] else [32] ++ Lib.itoa n) ++ (if strK kind then [32] ++ quoteL s else [])) := hbg
  clear hbg
  have HT : Hid ((bg ++ (Ys.flatMap fun Y => 32 :: textL beginL d Y) ++ [41]).length ≤ 1099511627776) := hT
  obtain ⟨lx, hlx⟩ : ∃ lx, lx = (newN kind n s Ys).length := ⟨_, rfl⟩
  have HLX : Hid (lx = (newN kind n s Ys).length) := hlx
  rw [← hlx] at hRK ⊢
  have hlx0 : 1 ≤ lx := by rw [hlx]; simp [newN]
  clear hT hN hlx
  have c0 : ∀ W, Below w.heap.size w W → W.cell? ⟨g, o, none⟩ = some (.int .i64 kind) := fun W hb => (hb.cell (p := ⟨g, o, none⟩) hg).trans a0
  have c1 : ∀ W, Below w.heap.size w W → W.cell? ⟨g, o + 1, none⟩ = some (.int .i64 n) := fun W hb => (hb.cell (p := ⟨g, o + 1, none⟩) hg).trans a1
  have c4 : ∀ W, Below w.heap.size w W → W.cell? ⟨g, o + 4, none⟩ = some (str s) := fun W hb => (hb.cell (p := ⟨g, o + 4, none⟩) hg).trans a4
  have C0 : Hid _ := c0
  have C1 : Hid _ := c1
  have C4 : Hid _ := c4
  clear c0 c1 c4
  by_cases hn0 : n = 0
  · have hne : (n != 0) = false := by simpa using hn0
    cases hnm : strK kind
    · go_enter Tryz.func16, Tryz.ntmps16
      go_wp2_with fail
      refine (rkind_any kind w).mono ?_
      rintro e w1 ⟨rfl, hb1⟩
      have k1 := C1.out w1 hb1
      have k0 := C0.out w1 hb1
      have k4 := C4.out w1 hb1
      have hk5 := kindN_length kind
      go_wp2_with fail
      refine (rnamed_any kind w1).mono ?_
      rintro e wx ⟨rfl, hwx⟩
      obtain rfl := hwx.symm
      rw [hnm]
      go_wp2_with fail
      refine (hRK.out w1 hb1).mono ?_
      rintro e wk ⟨v4, K, rfl, hK, hKd, hbk_⟩
      have hbk : Below w.heap.size w wk := hb1.trans (hbk_.mono hb1.size)
      obtain ⟨ad, cp, rfl⟩ := hKd.form
      have hKl : K.length = Ys.length := by rw [← hK]; simp
      have HKD : Hid (KdAt wk (.slice ad K.length cp) K) := hKd
      have HKm : Hid (K.map Prod.snd = Ys) := hK
      rw [hKl] at HKD ⊢
      have hYl : Ys.length ≤ 100000 := by
        have h1 := flat_le d Ys hY
        have h2 : (newN kind n s Ys).length = Ys.flatten.length + 1 := by simp [newN]
        omega
      clear hKd hK
      go_wp2_with fail
      go_loopw [3, 5] (fun v3 v5 wr => RpSt wk Ys bg (fun Y => 32 :: textL beginL d Y) v3 v5 wr) (fun _ v5 _ => Ys.length - (intOf v5).toNat)
      case atStart => exact ⟨0, _, rfl, rfl, Nat.zero_le _, by unfold Hid; rw [HBG.out, hnm, if_pos hn0]; apply eq_of_data; simp [ByteArray.data_append], Below.refl _ _⟩
      case round =>
        obtain ⟨i, S, rfl, rfl, hi, HS, HB⟩ := hrel
        by_cases hii : i < Ys.length
        · obtain ⟨p, hp⟩ : ∃ p, K[i]? = some p := ⟨_, List.getElem?_eq_getElem (by omega)⟩
          have hKD2 := HKD.out.below HB.out (Nat.le_refl _)
          obtain ⟨g2, o2, cp2, hv2, hg2, hc2, hnn⟩ := hKD2.at hp
          rw [hKl] at hv2
          cases hv2
          have hYi : Ys[i]? = some p.2 := by rw [← HKm.out, List.getElem?_map, hp]; rfl
          have hmem : p.2 ∈ Ys := List.mem_of_getElem? hYi
          obtain ⟨t1, t2⟩ := take_flat (fun Y => 32 :: textL beginL d Y) Ys i p.2 hYi
          have hlen : S.size + 1 + (textL beginL d p.2).length ≤ 1099511627776 := by
            have h1 := HT.out
            rw [HS.out, bs_size]
            rw [List.length_append, List.length_append] at h1
            rw [List.length_append]
            simp only [List.length_cons] at t2
            omega
          obtain ⟨T, hTT⟩ : ∃ T : ByteArray, T = ⟨(textL beginL d p.2).toArray⟩ := ⟨_, rfl⟩
          have HC : Hid (Calls Tryz.prog 16 #[p.1] wr fun e w' => e = .returned (.string T) ∧ Below wr.heap.size wr w') := by
            unfold Hid
            rw [hTT]
            refine ih p.2 hmem p.1 wr hnn ?_ ?_ (by omega)
            · have h1 := (List.sublist_flatten_of_mem hmem).length_le
              have h2 : (newN kind n s Ys).length = Ys.flatten.length + 1 := by simp [newN]
              omega
            · intro x hxp
              exact hx x (by simp only [newN, List.mem_cons]; exact .inr (List.mem_flatten.2 ⟨p.2, hmem, hxp⟩))
          have HN2 : Hid (S ++ ⟨#[32]⟩ ++ T = ⟨(bg ++ (Ys.take (i + 1)).flatMap fun Y => 32 :: textL beginL d Y).toArray⟩) := by
            unfold Hid
            rw [t1, HS.out, hTT]
            apply eq_of_data
            simp [ByteArray.data_append]
          have hTs : T.size = (textL beginL d p.2).length := by rw [hTT, bs_size]
          rw [← hTs] at hlen
          clear hTT hTs t1 t2 hYi hnn hKD2
          go_wp2_with fail
          refine HC.out.mono ?_
          rintro e w5 ⟨rfl, hb5⟩
          have HB5 : Hid (Below wk.heap.size wk w5) := HB.out.trans (hb5.mono HB.out.size)
          go_wp2_with fail
          refine ⟨⟨i + 1, _, by simp, rfl, by omega, HN2, HB5⟩, by simp [intOf]; omega⟩
        · have hie : i = Ys.length := by omega
          have HS2 : Hid (S ++ ⟨#[41]⟩ = ⟨(bg ++ (Ys.flatMap fun Y => 32 :: textL beginL d Y) ++ [41]).toArray⟩) := by
            unfold Hid
            rw [HS.out, hie, List.take_length]
            apply eq_of_data
            simp [ByteArray.data_append]
          have hlen : S.size + 1 ≤ 1099511627776 := by
            have h1 := HT.out
            rw [HS.out, bs_size, hie, List.take_length]
            rw [List.length_append] at h1
            simpa using h1
          have HB5 : Hid (Below w.heap.size w wr) := hbk.trans (HB.out.mono hbk.size)
          clear hie
          go_wp2_with fail
          go_ret
          exact ⟨ret_str HS2.out, HB5.out⟩
    · go_enter Tryz.func16, Tryz.ntmps16
      go_wp2_with fail
      refine (rkind_any kind w).mono ?_
      rintro e w1 ⟨rfl, hb1⟩
      have k1 := C1.out w1 hb1
      have k0 := C0.out w1 hb1
      have k4 := C4.out w1 hb1
      have hk5 := kindN_length kind
      go_wp2_with fail
      refine (rnamed_any kind w1).mono ?_
      rintro e wx ⟨rfl, hwx⟩
      obtain rfl := hwx.symm
      rw [hnm]
      go_wp2_with fail
      have hq := rquote_any ⟨s.toArray⟩ (by rw [bs_size]; exact hs1) w1
      simp only at hq
      refine hq.mono ?_
      rintro e w3 ⟨rfl, hb3_⟩
      have hb3 : Below w.heap.size w w3 := hb1.trans (hb3_.mono hb1.size)
      have hql : (quoteL s).length ≤ 3 * s.length + 2 := quote_len s
      clear hq
      go_wp2_with fail
      refine (hRK.out w3 hb3).mono ?_
      rintro e wk ⟨v4, K, rfl, hK, hKd, hbk_⟩
      have hbk : Below w.heap.size w wk := hb3.trans (hbk_.mono hb3.size)
      obtain ⟨ad, cp, rfl⟩ := hKd.form
      have hKl : K.length = Ys.length := by rw [← hK]; simp
      have HKD : Hid (KdAt wk (.slice ad K.length cp) K) := hKd
      have HKm : Hid (K.map Prod.snd = Ys) := hK
      rw [hKl] at HKD ⊢
      have hYl : Ys.length ≤ 100000 := by
        have h1 := flat_le d Ys hY
        have h2 : (newN kind n s Ys).length = Ys.flatten.length + 1 := by simp [newN]
        omega
      clear hKd hK
      go_wp2_with fail
      go_loopw [3, 5] (fun v3 v5 wr => RpSt wk Ys bg (fun Y => 32 :: textL beginL d Y) v3 v5 wr) (fun _ v5 _ => Ys.length - (intOf v5).toNat)
      case atStart => exact ⟨0, _, rfl, rfl, Nat.zero_le _, by unfold Hid; rw [HBG.out, hnm, if_pos hn0]; apply eq_of_data; simp [ByteArray.data_append], Below.refl _ _⟩
      case round =>
        obtain ⟨i, S, rfl, rfl, hi, HS, HB⟩ := hrel
        by_cases hii : i < Ys.length
        · obtain ⟨p, hp⟩ : ∃ p, K[i]? = some p := ⟨_, List.getElem?_eq_getElem (by omega)⟩
          have hKD2 := HKD.out.below HB.out (Nat.le_refl _)
          obtain ⟨g2, o2, cp2, hv2, hg2, hc2, hnn⟩ := hKD2.at hp
          rw [hKl] at hv2
          cases hv2
          have hYi : Ys[i]? = some p.2 := by rw [← HKm.out, List.getElem?_map, hp]; rfl
          have hmem : p.2 ∈ Ys := List.mem_of_getElem? hYi
          obtain ⟨t1, t2⟩ := take_flat (fun Y => 32 :: textL beginL d Y) Ys i p.2 hYi
          have hlen : S.size + 1 + (textL beginL d p.2).length ≤ 1099511627776 := by
            have h1 := HT.out
            rw [HS.out, bs_size]
            rw [List.length_append, List.length_append] at h1
            rw [List.length_append]
            simp only [List.length_cons] at t2
            omega
          obtain ⟨T, hTT⟩ : ∃ T : ByteArray, T = ⟨(textL beginL d p.2).toArray⟩ := ⟨_, rfl⟩
          have HC : Hid (Calls Tryz.prog 16 #[p.1] wr fun e w' => e = .returned (.string T) ∧ Below wr.heap.size wr w') := by
            unfold Hid
            rw [hTT]
            refine ih p.2 hmem p.1 wr hnn ?_ ?_ (by omega)
            · have h1 := (List.sublist_flatten_of_mem hmem).length_le
              have h2 : (newN kind n s Ys).length = Ys.flatten.length + 1 := by simp [newN]
              omega
            · intro x hxp
              exact hx x (by simp only [newN, List.mem_cons]; exact .inr (List.mem_flatten.2 ⟨p.2, hmem, hxp⟩))
          have HN2 : Hid (S ++ ⟨#[32]⟩ ++ T = ⟨(bg ++ (Ys.take (i + 1)).flatMap fun Y => 32 :: textL beginL d Y).toArray⟩) := by
            unfold Hid
            rw [t1, HS.out, hTT]
            apply eq_of_data
            simp [ByteArray.data_append]
          have hTs : T.size = (textL beginL d p.2).length := by rw [hTT, bs_size]
          rw [← hTs] at hlen
          clear hTT hTs t1 t2 hYi hnn hKD2
          go_wp2_with fail
          refine HC.out.mono ?_
          rintro e w5 ⟨rfl, hb5⟩
          have HB5 : Hid (Below wk.heap.size wk w5) := HB.out.trans (hb5.mono HB.out.size)
          go_wp2_with fail
          refine ⟨⟨i + 1, _, by simp, rfl, by omega, HN2, HB5⟩, by simp [intOf]; omega⟩
        · have hie : i = Ys.length := by omega
          have HS2 : Hid (S ++ ⟨#[41]⟩ = ⟨(bg ++ (Ys.flatMap fun Y => 32 :: textL beginL d Y) ++ [41]).toArray⟩) := by
            unfold Hid
            rw [HS.out, hie, List.take_length]
            apply eq_of_data
            simp [ByteArray.data_append]
          have hlen : S.size + 1 ≤ 1099511627776 := by
            have h1 := HT.out
            rw [HS.out, bs_size, hie, List.take_length]
            rw [List.length_append] at h1
            simpa using h1
          have HB5 : Hid (Below w.heap.size w wr) := hbk.trans (HB.out.mono hbk.size)
          clear hie
          go_wp2_with fail
          go_ret
          exact ⟨ret_str HS2.out, HB5.out⟩
  · have hne : (n != 0) = true := by simpa using hn0
    cases hnm : strK kind
    · go_enter Tryz.func16, Tryz.ntmps16
      go_wp2_with fail
      refine (rkind_any kind w).mono ?_
      rintro e w1 ⟨rfl, hb1⟩
      have k1 := C1.out w1 hb1
      have k0 := C0.out w1 hb1
      have k4 := C4.out w1 hb1
      have hk5 := kindN_length kind
      go_wp2_with fail
      refine (rnumber_any n w1 hn1 hn2).mono ?_
      rintro e w2 ⟨rfl, hb2_⟩
      have hb2 : Below w.heap.size w w2 := hb1.trans (hb2_.mono hb1.size)
      have m0 := C0.out w2 hb2
      have m4 := C4.out w2 hb2
      have hi20 : (Lib.itoa n).length ≤ 20 := ritoa_len n hn1 hn2
      go_wp2_with fail
      refine (rnamed_any kind w2).mono ?_
      rintro e wx ⟨rfl, hwx⟩
      obtain rfl := hwx.symm
      rw [hnm]
      go_wp2_with fail
      refine (hRK.out w2 hb2).mono ?_
      rintro e wk ⟨v4, K, rfl, hK, hKd, hbk_⟩
      have hbk : Below w.heap.size w wk := hb2.trans (hbk_.mono hb2.size)
      obtain ⟨ad, cp, rfl⟩ := hKd.form
      have hKl : K.length = Ys.length := by rw [← hK]; simp
      have HKD : Hid (KdAt wk (.slice ad K.length cp) K) := hKd
      have HKm : Hid (K.map Prod.snd = Ys) := hK
      rw [hKl] at HKD ⊢
      have hYl : Ys.length ≤ 100000 := by
        have h1 := flat_le d Ys hY
        have h2 : (newN kind n s Ys).length = Ys.flatten.length + 1 := by simp [newN]
        omega
      clear hKd hK
      go_wp2_with fail
      go_loopw [3, 5] (fun v3 v5 wr => RpSt wk Ys bg (fun Y => 32 :: textL beginL d Y) v3 v5 wr) (fun _ v5 _ => Ys.length - (intOf v5).toNat)
      case atStart => exact ⟨0, _, rfl, rfl, Nat.zero_le _, by unfold Hid; rw [HBG.out, hnm, if_neg hn0]; apply eq_of_data; simp [ByteArray.data_append], Below.refl _ _⟩
      case round =>
        obtain ⟨i, S, rfl, rfl, hi, HS, HB⟩ := hrel
        by_cases hii : i < Ys.length
        · obtain ⟨p, hp⟩ : ∃ p, K[i]? = some p := ⟨_, List.getElem?_eq_getElem (by omega)⟩
          have hKD2 := HKD.out.below HB.out (Nat.le_refl _)
          obtain ⟨g2, o2, cp2, hv2, hg2, hc2, hnn⟩ := hKD2.at hp
          rw [hKl] at hv2
          cases hv2
          have hYi : Ys[i]? = some p.2 := by rw [← HKm.out, List.getElem?_map, hp]; rfl
          have hmem : p.2 ∈ Ys := List.mem_of_getElem? hYi
          obtain ⟨t1, t2⟩ := take_flat (fun Y => 32 :: textL beginL d Y) Ys i p.2 hYi
          have hlen : S.size + 1 + (textL beginL d p.2).length ≤ 1099511627776 := by
            have h1 := HT.out
            rw [HS.out, bs_size]
            rw [List.length_append, List.length_append] at h1
            rw [List.length_append]
            simp only [List.length_cons] at t2
            omega
          obtain ⟨T, hTT⟩ : ∃ T : ByteArray, T = ⟨(textL beginL d p.2).toArray⟩ := ⟨_, rfl⟩
          have HC : Hid (Calls Tryz.prog 16 #[p.1] wr fun e w' => e = .returned (.string T) ∧ Below wr.heap.size wr w') := by
            unfold Hid
            rw [hTT]
            refine ih p.2 hmem p.1 wr hnn ?_ ?_ (by omega)
            · have h1 := (List.sublist_flatten_of_mem hmem).length_le
              have h2 : (newN kind n s Ys).length = Ys.flatten.length + 1 := by simp [newN]
              omega
            · intro x hxp
              exact hx x (by simp only [newN, List.mem_cons]; exact .inr (List.mem_flatten.2 ⟨p.2, hmem, hxp⟩))
          have HN2 : Hid (S ++ ⟨#[32]⟩ ++ T = ⟨(bg ++ (Ys.take (i + 1)).flatMap fun Y => 32 :: textL beginL d Y).toArray⟩) := by
            unfold Hid
            rw [t1, HS.out, hTT]
            apply eq_of_data
            simp [ByteArray.data_append]
          have hTs : T.size = (textL beginL d p.2).length := by rw [hTT, bs_size]
          rw [← hTs] at hlen
          clear hTT hTs t1 t2 hYi hnn hKD2
          go_wp2_with fail
          refine HC.out.mono ?_
          rintro e w5 ⟨rfl, hb5⟩
          have HB5 : Hid (Below wk.heap.size wk w5) := HB.out.trans (hb5.mono HB.out.size)
          go_wp2_with fail
          refine ⟨⟨i + 1, _, by simp, rfl, by omega, HN2, HB5⟩, by simp [intOf]; omega⟩
        · have hie : i = Ys.length := by omega
          have HS2 : Hid (S ++ ⟨#[41]⟩ = ⟨(bg ++ (Ys.flatMap fun Y => 32 :: textL beginL d Y) ++ [41]).toArray⟩) := by
            unfold Hid
            rw [HS.out, hie, List.take_length]
            apply eq_of_data
            simp [ByteArray.data_append]
          have hlen : S.size + 1 ≤ 1099511627776 := by
            have h1 := HT.out
            rw [HS.out, bs_size, hie, List.take_length]
            rw [List.length_append] at h1
            simpa using h1
          have HB5 : Hid (Below w.heap.size w wr) := hbk.trans (HB.out.mono hbk.size)
          clear hie
          go_wp2_with fail
          go_ret
          exact ⟨ret_str HS2.out, HB5.out⟩
    · go_enter Tryz.func16, Tryz.ntmps16
      go_wp2_with fail
      refine (rkind_any kind w).mono ?_
      rintro e w1 ⟨rfl, hb1⟩
      have k1 := C1.out w1 hb1
      have k0 := C0.out w1 hb1
      have k4 := C4.out w1 hb1
      have hk5 := kindN_length kind
      go_wp2_with fail
      refine (rnumber_any n w1 hn1 hn2).mono ?_
      rintro e w2 ⟨rfl, hb2_⟩
      have hb2 : Below w.heap.size w w2 := hb1.trans (hb2_.mono hb1.size)
      have m0 := C0.out w2 hb2
      have m4 := C4.out w2 hb2
      have hi20 : (Lib.itoa n).length ≤ 20 := ritoa_len n hn1 hn2
      go_wp2_with fail
      refine (rnamed_any kind w2).mono ?_
      rintro e wx ⟨rfl, hwx⟩
      obtain rfl := hwx.symm
      rw [hnm]
      go_wp2_with fail
      have hq := rquote_any ⟨s.toArray⟩ (by rw [bs_size]; exact hs1) w2
      simp only at hq
      refine hq.mono ?_
      rintro e w3 ⟨rfl, hb3_⟩
      have hb3 : Below w.heap.size w w3 := hb2.trans (hb3_.mono hb2.size)
      have hql : (quoteL s).length ≤ 3 * s.length + 2 := quote_len s
      clear hq
      go_wp2_with fail
      refine (hRK.out w3 hb3).mono ?_
      rintro e wk ⟨v4, K, rfl, hK, hKd, hbk_⟩
      have hbk : Below w.heap.size w wk := hb3.trans (hbk_.mono hb3.size)
      obtain ⟨ad, cp, rfl⟩ := hKd.form
      have hKl : K.length = Ys.length := by rw [← hK]; simp
      have HKD : Hid (KdAt wk (.slice ad K.length cp) K) := hKd
      have HKm : Hid (K.map Prod.snd = Ys) := hK
      rw [hKl] at HKD ⊢
      have hYl : Ys.length ≤ 100000 := by
        have h1 := flat_le d Ys hY
        have h2 : (newN kind n s Ys).length = Ys.flatten.length + 1 := by simp [newN]
        omega
      clear hKd hK
      go_wp2_with fail
      go_loopw [3, 5] (fun v3 v5 wr => RpSt wk Ys bg (fun Y => 32 :: textL beginL d Y) v3 v5 wr) (fun _ v5 _ => Ys.length - (intOf v5).toNat)
      case atStart => exact ⟨0, _, rfl, rfl, Nat.zero_le _, by unfold Hid; rw [HBG.out, hnm, if_neg hn0]; apply eq_of_data; simp [ByteArray.data_append], Below.refl _ _⟩
      case round =>
        obtain ⟨i, S, rfl, rfl, hi, HS, HB⟩ := hrel
        by_cases hii : i < Ys.length
        · obtain ⟨p, hp⟩ : ∃ p, K[i]? = some p := ⟨_, List.getElem?_eq_getElem (by omega)⟩
          have hKD2 := HKD.out.below HB.out (Nat.le_refl _)
          obtain ⟨g2, o2, cp2, hv2, hg2, hc2, hnn⟩ := hKD2.at hp
          rw [hKl] at hv2
          cases hv2
          have hYi : Ys[i]? = some p.2 := by rw [← HKm.out, List.getElem?_map, hp]; rfl
          have hmem : p.2 ∈ Ys := List.mem_of_getElem? hYi
          obtain ⟨t1, t2⟩ := take_flat (fun Y => 32 :: textL beginL d Y) Ys i p.2 hYi
          have hlen : S.size + 1 + (textL beginL d p.2).length ≤ 1099511627776 := by
            have h1 := HT.out
            rw [HS.out, bs_size]
            rw [List.length_append, List.length_append] at h1
            rw [List.length_append]
            simp only [List.length_cons] at t2
            omega
          obtain ⟨T, hTT⟩ : ∃ T : ByteArray, T = ⟨(textL beginL d p.2).toArray⟩ := ⟨_, rfl⟩
          have HC : Hid (Calls Tryz.prog 16 #[p.1] wr fun e w' => e = .returned (.string T) ∧ Below wr.heap.size wr w') := by
            unfold Hid
            rw [hTT]
            refine ih p.2 hmem p.1 wr hnn ?_ ?_ (by omega)
            · have h1 := (List.sublist_flatten_of_mem hmem).length_le
              have h2 : (newN kind n s Ys).length = Ys.flatten.length + 1 := by simp [newN]
              omega
            · intro x hxp
              exact hx x (by simp only [newN, List.mem_cons]; exact .inr (List.mem_flatten.2 ⟨p.2, hmem, hxp⟩))
          have HN2 : Hid (S ++ ⟨#[32]⟩ ++ T = ⟨(bg ++ (Ys.take (i + 1)).flatMap fun Y => 32 :: textL beginL d Y).toArray⟩) := by
            unfold Hid
            rw [t1, HS.out, hTT]
            apply eq_of_data
            simp [ByteArray.data_append]
          have hTs : T.size = (textL beginL d p.2).length := by rw [hTT, bs_size]
          rw [← hTs] at hlen
          clear hTT hTs t1 t2 hYi hnn hKD2
          go_wp2_with fail
          refine HC.out.mono ?_
          rintro e w5 ⟨rfl, hb5⟩
          have HB5 : Hid (Below wk.heap.size wk w5) := HB.out.trans (hb5.mono HB.out.size)
          go_wp2_with fail
          refine ⟨⟨i + 1, _, by simp, rfl, by omega, HN2, HB5⟩, by simp [intOf]; omega⟩
        · have hie : i = Ys.length := by omega
          have HS2 : Hid (S ++ ⟨#[41]⟩ = ⟨(bg ++ (Ys.flatMap fun Y => 32 :: textL beginL d Y) ++ [41]).toArray⟩) := by
            unfold Hid
            rw [HS.out, hie, List.take_length]
            apply eq_of_data
            simp [ByteArray.data_append]
          have hlen : S.size + 1 ≤ 1099511627776 := by
            have h1 := HT.out
            rw [HS.out, bs_size, hie, List.take_length]
            rw [List.length_append] at h1
            simpa using h1
          have HB5 : Hid (Below w.heap.size w wr) := hbk.trans (HB.out.mono hbk.size)
          clear hie
          go_wp2_with fail
          go_ret
          exact ⟨ret_str HS2.out, HB5.out⟩
theorem rprint_any {d : Nat} {X : List Nd} (h : Seg d X) : RpC d X := by
  induction h with
  | mk d kind n s Ys hs ih => exact rp_mk d kind n s Ys hs ih
end Go.Proofs.YtaildeglikhkaaaGreatDoor

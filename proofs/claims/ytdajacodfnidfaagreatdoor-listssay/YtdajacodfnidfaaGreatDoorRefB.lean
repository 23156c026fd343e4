/- The document's own answers: Escape, Read. -/
import Derived.Test.YtdajacodfnidfaaGreatDoorRefA
namespace Go.Proofs.YtdajacodfnidfaaGreatDoor
open Go.RowKit Go.Shelf

theorem bcells_snoc (l : List UInt8) (c : UInt8) : Lib.byteCells (l ++ [c]) = Lib.byteCells l ++ [.int .u8 c.toNat] := by simp [Lib.byteCells]
theorem escL_len (l : List UInt8) : (escL l).length ≤ 2 * l.length := by
  induction l with
  | nil => simp [escL]
  | cons c l ih =>
    rw [escL_cons]
    cases specialC c <;> simp <;> omega
theorem conv_own {W : World} {B : Nat} {v : Value} {l : List UInt8} (h : W.ownsRow B 5 1 v l.length (Lib.byteCells l)) : (convert 56 9 v).run Tryz.prog W = .ok (.string ⟨l.toArray⟩) W := by
  rcases h.2 with ⟨rfl, h0⟩ | ⟨g, cap, cur, rfl, hb, hc, h1, _, h2, h3⟩
  · have hl : l = [] := List.eq_nil_of_length_eq_zero h0
    subst hl
    exact Lib.run_convert_nil_bytes W 56 9 5 0 Tryz.underlying56 Tryz.underlying5 Tryz.underlying9
  · exact run_convert_bytes_back W 56 9 5 ⟨g, 0, none⟩ cap l Tryz.underlying56 Tryz.underlying5 Tryz.underlying9 (Lib.bytes_of_row hc (by rw [Nat.mul_one] at h3; exact h3))
theorem grown_any {w w1 w' : World} {B n k : Nat} {e : TypeId} {v : Value} {xs : List Value} (hB : B ≤ w1.heap.size) (hb : Below B w w1) (ho : w1.ownsRow B e k v n xs) (hg : w1.grownBy w' v.ownBlock) : Below B w w' := by
  refine hb.grown hg hB fun q ej => ?_
  rcases ho.2 with ⟨rfl, _⟩ | ⟨g5, cap5, cur5, rfl, hb5, _, _⟩
  · simp [Value.ownBlock] at ej
  · obtain rfl : g5 = q := by simpa [Value.ownBlock] using ej
    exact hb5

set_option maxRecDepth 100000 in
set_option maxHeartbeats 2000000 in
theorem rescape_any (s : ByteArray) (hs : s.size < 4294967296) (w : World) :
    Calls Tryz.prog 42 #[.string s] w fun e w' => e = .returned (.string ⟨(escL s.data.toList).toArray⟩) ∧ Below w.heap.size w w' := by
  obtain ⟨i0, hi0, hz0, hz1, hz2⟩ := info_parts info5
  go_enter Tryz.func42, Tryz.ntmps42
  go_wp2_with fail
  go_loopw [3, 4] (fun v3 v4 wr => ∃ k : Nat, v4 = .int .i64 k ∧ k ≤ s.size ∧ Hid (wr.ownsRow w.heap.size 5 1 v3 (escL (s.data.toList.take k)).length (Lib.byteCells (escL (s.data.toList.take k)))) ∧ Below w.heap.size w wr) (fun _ v4 _ => s.size - (intOf v4).toNat)
  case atStart => exact ⟨0, rfl, by omega, ⟨rfl, .inl ⟨rfl, rfl⟩⟩, Below.refl _ _⟩
  case round =>
    obtain ⟨k, rfl, hk, HO, hbr⟩ := hrel
    by_cases hkl : k < s.size
    · have HS : Hid (escL (s.data.toList.take (k + 1)) = escL (s.data.toList.take k) ++ (if specialC s[k] then [92, s[k]] else [s[k]])) := by
        unfold Hid
        rw [take_snoc (s_get s k hkl), escL_snoc]
      have hel := escL_len (s.data.toList.take k)
      have hel2 : (s.data.toList.take k).length ≤ k := List.length_take_le _ _
      generalize escL (s.data.toList.take k) = E at HS HO hel
      generalize hcc : s[k] = c at HS
      have ho := HO.out
      have HCC : Hid _ := hcc
      clear hcc
      have hba : Below w.heap.size w (wr.alloc (.cells #[.int .u8 (c.toNat : Int)] 5)) := hbr.alloc hbr.size _
      have hb92 : Below w.heap.size w (wr.alloc (.cells #[.int .u8 92] 5)) := hbr.alloc hbr.size _
      have hidx : ∀ h, s[k]'h = c := fun _ => HCC.out
      go_wp2_with fail
      refine (special_any c wr).mono ?_
      rintro e w1 ⟨rfl, hw1⟩
      obtain rfl := hw1.symm
      cases hsp : specialC c
      · rw [hsp] at HS
        clear hsp
        go_wp2_with (at_builtin; refine wpList_append_own _ rfl _ _ 56 rfl w.heap.size 5 i0 (.int .u8 0) 1 1 Tryz.underlying56 hi0 hz0 hz1 hz2 rfl (by decide) _ _ _ rfl (ho.alloc _) ⟨wr.heap.size, 0, none⟩ 1 1 [.int .u8 (c.toNat : Int)] rfl rfl (cells_new _ [.int .u8 (c.toNat : Int)] _) (by simp [Value.oneCell']) (by have := maxLen_big; omega) (by omega) hba.size ?_; intro v' w5 hown' hgrow _)
        refine ⟨⟨k + 1, by simp, by omega, ?_, grown_any hba.size hba (ho.alloc _) hgrow⟩, by simp [intOf]; omega⟩
        have e1 := HS.out
        unfold Hid
        rw [e1]
        simp only [Bool.false_eq_true, if_false]
        rw [bcells_snoc, List.length_append]
        exact hown'
      · rw [hsp] at HS
        clear hsp
        go_wp2_with (first
          | (at_builtin; refine wpList_append_own _ rfl _ _ 56 rfl w.heap.size 5 i0 (.int .u8 0) 1 1 Tryz.underlying56 hi0 hz0 hz1 hz2 rfl (by decide) _ _ _ rfl (hown'.alloc _) ⟨w5.heap.size, 0, none⟩ 1 1 [.int .u8 (c.toNat : Int)] rfl rfl (cells_new _ [.int .u8 (c.toNat : Int)] _) (by simp [Value.oneCell']) (by have := maxLen_big; omega) (by omega) (hb5.alloc hb5.size _).size ?_; intro v'' w6 hown'' hgrow' _)
          | (at_builtin; refine wpList_append_own _ rfl _ _ 56 rfl w.heap.size 5 i0 (.int .u8 0) 1 1 Tryz.underlying56 hi0 hz0 hz1 hz2 rfl (by decide) _ _ _ rfl (ho.alloc _) ⟨wr.heap.size, 0, none⟩ 1 1 [.int .u8 (92 : Int)] rfl rfl (cells_new _ [.int .u8 (92 : Int)] _) (by simp [Value.oneCell']) (by have := maxLen_big; omega) (by omega) hb92.size ?_; intro v' w5 hown' hgrow _; have hb5 : Below w.heap.size w w5 := grown_any hb92.size hb92 (ho.alloc _) hgrow))
        refine ⟨⟨k + 1, by simp, by omega, ?_, grown_any (hb5.alloc hb5.size _).size (hb5.alloc hb5.size _) (hown'.alloc _) hgrow'⟩, by simp [intOf]; omega⟩
        have e1 := HS.out
        unfold Hid
        rw [e1]
        simp only [if_true]
        have e2 : E ++ [92, c] = (E ++ [92]) ++ [c] := by simp
        rw [e2, bcells_snoc, bcells_snoc, List.length_append, List.length_append]
        exact hown''
    · have hkz : k = s.size := by omega
      subst hkz
      have e1 : s.data.toList.take s.size = s.data.toList := List.take_of_length_le (by simp)
      rw [e1] at HO
      have hcv := conv_own HO.out
      go_wp2_with fail
      go_ret
      exact ⟨rfl, hbr⟩
end Go.Proofs.YtdajacodfnidfaaGreatDoor

/- The document's own answers: Read, Plain. -/
import Derived.Test.YtdajacodfnidfaaGreatDoorRefB
namespace Go.Proofs.YtdajacodfnidfaaGreatDoor
open Go.RowKit Go.Shelf

/-- The letters, the dead ones marked. -/
def dd (l : List Lt) : List Lt := l.map fun x => (x.1, !x.2)
theorem dd_snoc (l : List Lt) (x : Lt) : dd (l ++ [x]) = dd l ++ [(x.1, !x.2)] := by simp [dd]
theorem dd_length (l : List Lt) : (dd l).length = l.length := by simp [dd]
theorem drop_at (s : ByteArray) (i : Nat) (h : i < s.size) : s.data.toList.drop i = s[i] :: s.data.toList.drop (i + 1) := drop_cons (s_get s i h)
theorem head_live (s : ByteArray) (i : Nat) (h : i < s.size) (hc : s[i] ≠ 92) : letts (s.data.toList.drop i) = (s[i], true) :: letts (s.data.toList.drop (i + 1)) := by
  rw [drop_at s i h]
  generalize s.data.toList.drop (i + 1) = r
  cases r with
  | nil => simp [letts, hc]
  | cons d r => simp [letts, hc]
theorem head_dead (s : ByteArray) (i : Nat) (h : i + 1 < s.size) (hc : s[i] = 92) : letts (s.data.toList.drop i) = (s[i + 1], false) :: letts (s.data.toList.drop (i + 1 + 1)) := by
  rw [drop_at s i (by omega), drop_at s (i + 1) h, hc]
  simp [letts]
theorem head_last (s : ByteArray) (i : Nat) (h : i < s.size) (h1 : ¬ i + 1 < s.size) (hc : s[i] = 92) : letts (s.data.toList.drop i) = (s[i], false) :: letts (s.data.toList.drop (i + 1)) := by
  rw [drop_at s i (by omega), List.drop_eq_nil_of_le (by simp; omega), hc]
  rfl
theorem info39 : (Tryz.prog.info? 81).map (fun i => (i.zero, i.size, i.bytes)) = some (some (.agg #[.int .u8 0, .bool false]), 2, 2) := by kernel_rfl

set_option maxRecDepth 100000 in
set_option maxHeartbeats 2000000 in
theorem rread_any (s : ByteArray) (hs : s.size < 4294967296) (w : World) :
    Calls Tryz.prog 68 #[.string s] w fun e w' => ∃ v, e = .returned v ∧ w'.ownsRow w.heap.size 81 2 v (letts s.data.toList).length (ltCells (dd (letts s.data.toList))) ∧ Below w.heap.size w w' := by
  obtain ⟨i0, hi0, hz0, hz1, hz2⟩ := info_parts info39
  obtain ⟨L, hL⟩ : ∃ L, letts s.data.toList = L := ⟨_, rfl⟩
  rw [hL]
  have HL : Hid _ := hL
  clear hL
  go_enter Tryz.func68, Tryz.ntmps68
  go_wp2_with fail
  go_loopw [3, 4] (fun v3 v4 wr => ∃ (k : Nat) (M : List Lt), v4 = .int .i64 k ∧ k ≤ s.size ∧ M.length ≤ k ∧ Hid (L = M ++ letts (s.data.toList.drop k)) ∧ Hid (wr.ownsRow w.heap.size 81 2 v3 M.length (ltCells (dd M))) ∧ Below w.heap.size w wr) (fun _ v4 _ => s.size - (intOf v4).toNat)
  case atStart => exact ⟨0, [], rfl, by omega, by simp, by rw [← HL.out]; rfl, ⟨rfl, .inl ⟨rfl, rfl⟩⟩, Below.refl _ _⟩
  case round =>
    obtain ⟨k, M, rfl, hk, hM, HM, HO, hbr⟩ := hrel
    by_cases hkl : k < s.size
    · have ho := HO.out
      have hba : ∀ o, Below w.heap.size w (wr.alloc o) := fun o => hbr.alloc hbr.size o
      have e5 : ((s[k].toNat : Int) == 92) = (s[k] == 92) := beq_u8 s[k] 92
      by_cases hc : s[k] = 92
      · have e6 : ((s[k].toNat : Int) == 92) = true := by rw [e5, hc]; rfl
        by_cases h1 : k + 1 < s.size
        · have HH : Hid _ := head_dead s k h1 hc
          clear e5 hc
          go_wp2_with (at_builtin; refine wpList_append_own _ rfl _ _ 78 rfl w.heap.size 81 i0 (.agg #[.int .u8 0, .bool false]) 2 2 Tryz.underlying78 hi0 hz0 hz1 hz2 rfl (by decide) _ _ _ rfl (ho.alloc _) ⟨wr.heap.size, 0, none⟩ 1 1 [.int .u8 (s[k + 1].toNat : Int), .bool true] rfl rfl (cells_new _ [.int .u8 (s[k + 1].toNat : Int), .bool true] _) (by simp [Value.oneCell']) (by have := maxLen_big; omega) (by omega) (hba _).size ?_; intro v' w5 hown' hgrow _)
          refine ⟨⟨k + 1 + 1, M ++ [(s[k + 1], false)], by simp, by omega, by simp; omega, ?_, ?_, grown_any (hba _).size (hba _) (ho.alloc _) hgrow⟩, by simp [intOf]; omega⟩
          · have e1 := HM.out
            have e2 := HH.out
            unfold Hid
            rw [e1, e2, List.append_assoc]; rfl
          · unfold Hid
            rw [dd_snoc, ltCells_snoc, List.length_append]
            exact hown'
        · have HH : Hid _ := head_last s k hkl h1 hc
          clear e5 hc
          go_wp2_with (at_builtin; refine wpList_append_own _ rfl _ _ 78 rfl w.heap.size 81 i0 (.agg #[.int .u8 0, .bool false]) 2 2 Tryz.underlying78 hi0 hz0 hz1 hz2 rfl (by decide) _ _ _ rfl (ho.alloc _) ⟨wr.heap.size, 0, none⟩ 1 1 [.int .u8 (s[k].toNat : Int), .bool true] rfl rfl (cells_new _ [.int .u8 (s[k].toNat : Int), .bool true] _) (by simp [Value.oneCell']) (by have := maxLen_big; omega) (by omega) (hba _).size ?_; intro v' w5 hown' hgrow _)
          refine ⟨⟨k + 1, M ++ [(s[k], false)], by simp, by omega, by simp; omega, ?_, ?_, grown_any (hba _).size (hba _) (ho.alloc _) hgrow⟩, by simp [intOf]; omega⟩
          · have e1 := HM.out
            have e2 := HH.out
            unfold Hid
            rw [e1, e2, List.append_assoc]; rfl
          · unfold Hid
            rw [dd_snoc, ltCells_snoc, List.length_append]
            exact hown'
      · have e6 : ((s[k].toNat : Int) == 92) = false := by rw [e5]; simpa using hc
        have HH : Hid _ := head_live s k hkl hc
        clear e5 hc
        go_wp2_with (at_builtin; refine wpList_append_own _ rfl _ _ 78 rfl w.heap.size 81 i0 (.agg #[.int .u8 0, .bool false]) 2 2 Tryz.underlying78 hi0 hz0 hz1 hz2 rfl (by decide) _ _ _ rfl (ho.alloc _) ⟨wr.heap.size, 0, none⟩ 1 1 [.int .u8 (s[k].toNat : Int), .bool false] rfl rfl (cells_new _ [.int .u8 (s[k].toNat : Int), .bool false] _) (by simp [Value.oneCell']) (by have := maxLen_big; omega) (by omega) (hba _).size ?_; intro v' w5 hown' hgrow _)
        refine ⟨⟨k + 1, M ++ [(s[k], true)], by simp, by omega, by simp; omega, ?_, ?_, grown_any (hba _).size (hba _) (ho.alloc _) hgrow⟩, by simp [intOf]; omega⟩
        · have e1 := HM.out
          have e2 := HH.out
          unfold Hid
          rw [e1, e2, List.append_assoc]; rfl
        · unfold Hid
          rw [dd_snoc, ltCells_snoc, List.length_append]
          exact hown'
    · have hkz : k = s.size := by omega
      subst hkz
      have e1 : letts (s.data.toList.drop s.size) = [] := by rw [List.drop_eq_nil_of_le (by simp)]; rfl
      have e2 : L = M := by rw [HM.out, e1, List.append_nil]
      subst e2
      go_wp2_with fail
      go_ret
      exact ⟨_, rfl, HO.out, hbr⟩
end Go.Proofs.YtdajacodfnidfaaGreatDoor

/- Match, Live, SameTexts. -/
import Derived.Test.YtdajacodfnidfaaGreatDoorMatch
namespace Go.Proofs.YtdajacodfnidfaaGreatDoor
open Go.RowKit Go.Shelf

theorem pcs_length : ∀ (n : Nat) (L : List Lt), L.length ≤ n → (pcs L).length ≤ L.length
  | 0, L, h => by
    have : L = [] := List.eq_nil_of_length_eq_zero (by omega)
    subst this; simp [pcs]
  | n + 1, [], _ => by simp [pcs]
  | n + 1, x :: r, h => by
    rw [pcs]
    have h1 := pcs_length n r (by simpa using h)
    split
    · simp; omega
    · split
      · simp; omega
      · split
        · rename_i k _
          have h2 := pcs_length n (r.drop (k + 2)) (by simp at h ⊢; omega)
          simp at h2 ⊢; omega
        · simp; omega

/-- What matching comes to. -/
def matchL (p s : List UInt8) : Bool := mt (pcs (letts p)) s

theorem liveR_step (L : List Lt) (i : Nat) (x : Lt) (hx : L[i]? = some x) : liveR (L.drop i) = ((isL x 42 || isL x 63 || (isL x 91 && decide (i + 1 < lastOf L))) || liveR (L.drop (i + 1))) := by
  have h1 : decide (i + 1 < lastOf L) = ((L.drop (i + 1)).drop 1).any (isL · 93) := by
    rw [List.drop_drop, Bool.eq_iff_iff, decide_eq_true_eq, last_iff]
  rw [drop_cons hx, liveR, h1]

set_option maxRecDepth 100000 in
set_option maxHeartbeats 4000000 in
theorem live_any (s : ByteArray) (hs : s.size < 4294967296) (w : World) :
    Calls Tryz.prog 72 #[.string s] w fun e w' => e = .returned (.bool (liveR (letts s.data.toList))) ∧ Below w.heap.size w w' := by
  obtain ⟨L, hL⟩ : ∃ L, letts s.data.toList = L := ⟨_, rfl⟩
  have hLs : L.length < 4294967296 := by rw [← hL]; exact Nat.lt_of_le_of_lt (letts_length_le _) (by simpa using hs)
  have HLE : Hid _ := hL
  rw [hL]
  clear hL
  go_enter Tryz.func72, Tryz.ntmps72
  go_wp2_with (go_at_call 90; refine (read_any s (by omega) _).mono ?_; rintro e w0 ⟨lv, rfl, hrow, hb0⟩; rw [HLE.out] at hrow ⊢; obtain ⟨lad, lcap, rfl⟩ := owns_slice hrow)
  obtain ⟨g, cap, hv1, hv2, hLt, hgb⟩ := LtAt.owned hrow
  have cT := Cel.new w0 104 #[.slice lad L.length lcap, .int .i64 (lastOf L)]
  have hB0 : Below w.heap.size w (w0.alloc (.cells #[.slice lad L.length lcap, .int .i64 (lastOf L)] 104)) := hb0.alloc hb0.size _
  obtain ⟨T, hT⟩ : ∃ T, w0.heap.size = T := ⟨_, rfl⟩
  have hLt2 : LtAt (w0.alloc (.cells #[.slice lad L.length lcap, .int .i64 (lastOf L)] 104)) g 0 L := by
    by_cases hne : L = []
    · subst hne; intro k x hx; simp at hx
    · exact LtAt.below hLt ((Below.refl w0.heap.size w0).alloc (Nat.le_refl _) _) (hgb hne).1
  rw [hT] at cT ⊢
  go_loopw [4, 5, 11] (fun _ _ v11 wr => ∃ i : Nat, v11 = .int .i64 i ∧ i ≤ L.length ∧ Hid (liveR L = liveR (L.drop i)) ∧ Cel wr T 104 #[.slice lad L.length lcap, .int .i64 (lastOf L)] ∧ Hid (LtAt wr g 0 L) ∧ Below w.heap.size w wr) (fun _ _ v11 _ => L.length - (intOf v11).toNat)
  case atStart => exact ⟨0, rfl, by omega, by simp [Hid], cT, hLt2, hB0⟩
  case round =>
    obtain ⟨i, rfl, hil, hE, cT, hLr, hw⟩ := hrel
    by_cases hlt : i < L.length
    · have hne : L ≠ [] := fun e => by rw [e] at hlt; simp at hlt
      obtain ⟨hva, hcap⟩ := hv1 hne
      obtain ⟨rfl, _, rfl⟩ : lad = some ⟨g, 0, none⟩ ∧ True ∧ lcap = cap := by simp at hva; exact ⟨hva.1, trivial, hva.2⟩
      have hgT : g < T := by rw [← hT]; exact (hgb hne).1
      clear hva hv1 hv2 hLt hgb hLt2 hrow
      obtain ⟨x, hx⟩ : ∃ x, L[i]? = some x := ⟨_, List.getElem?_eq_getElem hlt⟩
      obtain ⟨q1, q2⟩ := hLr.out i x hx
      simp only [Nat.zero_add] at q1 q2
      have hstep := liveR_step L i x hx
      rw [← hE.out] at hstep
      have HS : Hid _ := hstep
      have HX : Hid _ := hx
      clear hx hstep
      have hTr := cT.lt
      have hwz := hw.size
      have hgr : g < wr.heap.size := by omega
      have t0 : wr.cell? ⟨T, 0, none⟩ = some (.slice (some ⟨g, 0, none⟩) L.length lcap) := cT.cell 0
      have t1 : wr.cell? ⟨T, 1, none⟩ = some (.int .i64 (lastOf L)) := cT.cell 1
      have cX1 := Cel.new wr 70 #[.int .u8 x.1.toNat, .bool x.2]
      have cT1 := cT.alloc (.cells #[.int .u8 x.1.toNat, .bool x.2] 70)
      have hw1 : Below w.heap.size w (wr.alloc (.cells #[.int .u8 x.1.toNat, .bool x.2] 70)) := hw.alloc hwz _
      have hL1 : LtAt (wr.alloc (.cells #[.int .u8 x.1.toNat, .bool x.2] 70)) g 0 L := LtAt.below hLr.out ((Below.refl wr.heap.size wr).alloc (Nat.le_refl _) _) hgr
      have hgl1 : g < (wr.alloc (.cells #[.int .u8 x.1.toNat, .bool x.2] 70)).heap.size := by simp; omega
      cases hq1 : isL x 42
      · cases hq2 : isL x 63
        · cases hq3 : (isL x 91 && decide (i + 1 < lastOf L))
          · go_wp2_with fail
            refine (is_below x 42 42 rfl _).mono ?_
            rintro e w2 ⟨rfl, hb2⟩
            rw [hq1]
            have cX2 := cX1.below hb2 cX1.lt
            have cT2 := cT1.below hb2 cT1.lt
            have hL2 := LtAt.below hL1 hb2 hgl1
            have hw2 := hw1.trans (hb2.mono hw1.size)
            have hgl2 := Nat.lt_of_lt_of_le hgl1 hb2.size
            have x20 : w2.cell? ⟨wr.heap.size, 0, none⟩ = some (.int .u8 x.1.toNat) := cX2.cell 0
            have x21 : w2.cell? ⟨wr.heap.size, 1, none⟩ = some (.bool x.2) := cX2.cell 1
            have t20 : w2.cell? ⟨T, 0, none⟩ = some (.slice (some ⟨g, 0, none⟩) L.length lcap) := cT2.cell 0
            have t21 : w2.cell? ⟨T, 1, none⟩ = some (.int .i64 (lastOf L)) := cT2.cell 1
            go_wp2_with fail
            refine (is_below x 63 63 rfl _).mono ?_
            rintro e w3 ⟨rfl, hb3⟩
            rw [hq2]
            have cX3 := cX2.below hb3 cX2.lt
            have cT3 := cT2.below hb3 cT2.lt
            have hL3 := LtAt.below hL2 hb3 hgl2
            have hw3 := hw2.trans (hb3.mono hw2.size)
            have hgl3 := Nat.lt_of_lt_of_le hgl2 hb3.size
            have x30 : w3.cell? ⟨wr.heap.size, 0, none⟩ = some (.int .u8 x.1.toNat) := cX3.cell 0
            have x31 : w3.cell? ⟨wr.heap.size, 1, none⟩ = some (.bool x.2) := cX3.cell 1
            have t30 : w3.cell? ⟨T, 0, none⟩ = some (.slice (some ⟨g, 0, none⟩) L.length lcap) := cT3.cell 0
            have t31 : w3.cell? ⟨T, 1, none⟩ = some (.int .i64 (lastOf L)) := cT3.cell 1
            go_wp2_with fail
            refine (opens_any g 0 lcap (lastOf L) L i x HX.out _ hL3 (by omega) hcap).mono ?_
            rintro e w4 ⟨rfl, hb4⟩
            rw [hq3]
            have cX4 := cX3.below hb4 cX3.lt
            have cT4 := cT3.below hb4 cT3.lt
            have hL4 := LtAt.below hL3 hb4 hgl3
            have hw4 := hw3.trans (hb4.mono hw3.size)
            have hgl4 := Nat.lt_of_lt_of_le hgl3 hb4.size
            have x40 : w4.cell? ⟨wr.heap.size, 0, none⟩ = some (.int .u8 x.1.toNat) := cX4.cell 0
            have x41 : w4.cell? ⟨wr.heap.size, 1, none⟩ = some (.bool x.2) := cX4.cell 1
            have t40 : w4.cell? ⟨T, 0, none⟩ = some (.slice (some ⟨g, 0, none⟩) L.length lcap) := cT4.cell 0
            have t41 : w4.cell? ⟨T, 1, none⟩ = some (.int .i64 (lastOf L)) := cT4.cell 1
            go_wp2
            refine ⟨⟨i + 1, by simp, by omega, ?_, cT4, hL4, hw4⟩, by simp [intOf]; omega⟩
            have h7 := HS.out
            rw [hq1, hq2, hq3] at h7
            simpa [Hid] using h7
          · go_wp2_with fail
            refine (is_below x 42 42 rfl _).mono ?_
            rintro e w2 ⟨rfl, hb2⟩
            rw [hq1]
            have cX2 := cX1.below hb2 cX1.lt
            have cT2 := cT1.below hb2 cT1.lt
            have hL2 := LtAt.below hL1 hb2 hgl1
            have hw2 := hw1.trans (hb2.mono hw1.size)
            have hgl2 := Nat.lt_of_lt_of_le hgl1 hb2.size
            have x20 : w2.cell? ⟨wr.heap.size, 0, none⟩ = some (.int .u8 x.1.toNat) := cX2.cell 0
            have x21 : w2.cell? ⟨wr.heap.size, 1, none⟩ = some (.bool x.2) := cX2.cell 1
            have t20 : w2.cell? ⟨T, 0, none⟩ = some (.slice (some ⟨g, 0, none⟩) L.length lcap) := cT2.cell 0
            have t21 : w2.cell? ⟨T, 1, none⟩ = some (.int .i64 (lastOf L)) := cT2.cell 1
            go_wp2_with fail
            refine (is_below x 63 63 rfl _).mono ?_
            rintro e w3 ⟨rfl, hb3⟩
            rw [hq2]
            have cX3 := cX2.below hb3 cX2.lt
            have cT3 := cT2.below hb3 cT2.lt
            have hL3 := LtAt.below hL2 hb3 hgl2
            have hw3 := hw2.trans (hb3.mono hw2.size)
            have hgl3 := Nat.lt_of_lt_of_le hgl2 hb3.size
            have x30 : w3.cell? ⟨wr.heap.size, 0, none⟩ = some (.int .u8 x.1.toNat) := cX3.cell 0
            have x31 : w3.cell? ⟨wr.heap.size, 1, none⟩ = some (.bool x.2) := cX3.cell 1
            have t30 : w3.cell? ⟨T, 0, none⟩ = some (.slice (some ⟨g, 0, none⟩) L.length lcap) := cT3.cell 0
            have t31 : w3.cell? ⟨T, 1, none⟩ = some (.int .i64 (lastOf L)) := cT3.cell 1
            go_wp2_with fail
            refine (opens_any g 0 lcap (lastOf L) L i x HX.out _ hL3 (by omega) hcap).mono ?_
            rintro e w4 ⟨rfl, hb4⟩
            rw [hq3]
            have cX4 := cX3.below hb4 cX3.lt
            have cT4 := cT3.below hb4 cT3.lt
            have hL4 := LtAt.below hL3 hb4 hgl3
            have hw4 := hw3.trans (hb4.mono hw3.size)
            have hgl4 := Nat.lt_of_lt_of_le hgl3 hb4.size
            have x40 : w4.cell? ⟨wr.heap.size, 0, none⟩ = some (.int .u8 x.1.toNat) := cX4.cell 0
            have x41 : w4.cell? ⟨wr.heap.size, 1, none⟩ = some (.bool x.2) := cX4.cell 1
            have t40 : w4.cell? ⟨T, 0, none⟩ = some (.slice (some ⟨g, 0, none⟩) L.length lcap) := cT4.cell 0
            have t41 : w4.cell? ⟨T, 1, none⟩ = some (.int .i64 (lastOf L)) := cT4.cell 1
            go_wp2
            go_ret
            refine ⟨ret_bool ?_, hw4⟩
            have h7 := HS.out
            rw [hq3] at h7
            rw [h7]; simp
        · go_wp2_with fail
          refine (is_below x 42 42 rfl _).mono ?_
          rintro e w2 ⟨rfl, hb2⟩
          rw [hq1]
          have cX2 := cX1.below hb2 cX1.lt
          have cT2 := cT1.below hb2 cT1.lt
          have hL2 := LtAt.below hL1 hb2 hgl1
          have hw2 := hw1.trans (hb2.mono hw1.size)
          have hgl2 := Nat.lt_of_lt_of_le hgl1 hb2.size
          have x20 : w2.cell? ⟨wr.heap.size, 0, none⟩ = some (.int .u8 x.1.toNat) := cX2.cell 0
          have x21 : w2.cell? ⟨wr.heap.size, 1, none⟩ = some (.bool x.2) := cX2.cell 1
          have t20 : w2.cell? ⟨T, 0, none⟩ = some (.slice (some ⟨g, 0, none⟩) L.length lcap) := cT2.cell 0
          have t21 : w2.cell? ⟨T, 1, none⟩ = some (.int .i64 (lastOf L)) := cT2.cell 1
          go_wp2_with fail
          refine (is_below x 63 63 rfl _).mono ?_
          rintro e w3 ⟨rfl, hb3⟩
          rw [hq2]
          have cX3 := cX2.below hb3 cX2.lt
          have cT3 := cT2.below hb3 cT2.lt
          have hL3 := LtAt.below hL2 hb3 hgl2
          have hw3 := hw2.trans (hb3.mono hw2.size)
          have hgl3 := Nat.lt_of_lt_of_le hgl2 hb3.size
          have x30 : w3.cell? ⟨wr.heap.size, 0, none⟩ = some (.int .u8 x.1.toNat) := cX3.cell 0
          have x31 : w3.cell? ⟨wr.heap.size, 1, none⟩ = some (.bool x.2) := cX3.cell 1
          have t30 : w3.cell? ⟨T, 0, none⟩ = some (.slice (some ⟨g, 0, none⟩) L.length lcap) := cT3.cell 0
          have t31 : w3.cell? ⟨T, 1, none⟩ = some (.int .i64 (lastOf L)) := cT3.cell 1
          go_wp2
          go_ret
          refine ⟨ret_bool ?_, hw3⟩
          have h7 := HS.out
          rw [hq2] at h7
          rw [h7]; simp
      · go_wp2_with fail
        refine (is_below x 42 42 rfl _).mono ?_
        rintro e w2 ⟨rfl, hb2⟩
        rw [hq1]
        have cX2 := cX1.below hb2 cX1.lt
        have cT2 := cT1.below hb2 cT1.lt
        have hL2 := LtAt.below hL1 hb2 hgl1
        have hw2 := hw1.trans (hb2.mono hw1.size)
        have hgl2 := Nat.lt_of_lt_of_le hgl1 hb2.size
        have x20 : w2.cell? ⟨wr.heap.size, 0, none⟩ = some (.int .u8 x.1.toNat) := cX2.cell 0
        have x21 : w2.cell? ⟨wr.heap.size, 1, none⟩ = some (.bool x.2) := cX2.cell 1
        have t20 : w2.cell? ⟨T, 0, none⟩ = some (.slice (some ⟨g, 0, none⟩) L.length lcap) := cT2.cell 0
        have t21 : w2.cell? ⟨T, 1, none⟩ = some (.int .i64 (lastOf L)) := cT2.cell 1
        go_wp2
        go_ret
        refine ⟨ret_bool ?_, hw2⟩
        have h7 := HS.out
        rw [hq1] at h7
        rw [h7]; simp
    · have hiL : i = L.length := by omega
      have t0 : wr.cell? ⟨T, 0, none⟩ = some (.slice lad L.length lcap) := cT.cell 0
      go_wp2
      go_ret
      refine ⟨ret_bool ?_, hw⟩
      rw [hE.out, hiL, List.drop_length]
      rfl
end Go.Proofs.YtdajacodfnidfaaGreatDoor

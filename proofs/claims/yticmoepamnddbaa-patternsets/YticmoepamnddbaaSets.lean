/- The statement on sets, walked. -/
import Derived.Test.YticmoepamnddbaaFirst
import Derived.Test.YticmoepamnddbaaSetsPlain
namespace Go.Proofs.Yticmoepamnddbaa
open Go.RowKit Go.Shelf

theorem str_data (l : List UInt8) : (⟨l.toArray⟩ : ByteArray).data.toList = l := by simp
theorem str_size (l : List UInt8) : (⟨l.toArray⟩ : ByteArray).size = l.length := by show l.toArray.size = _; simp
theorem conv_at (W : World) (b : Nat) (c : UInt8) (h : W.cell? ⟨b, 0, none⟩ = some (.int .u8 (c.toNat : Int))) :
    (convert 24 9 (.slice (some ⟨b, 0, none⟩) 1 1)).run Try.prog W = .ok (.string ⟨#[c]⟩) W := by
  refine run_convert_bytes_back (P := Try.prog) W 24 9 5 ⟨b, 0, none⟩ 1 [c] Try.underlying24 Try.underlying5 Try.underlying9 ?_
  intro j hj
  obtain rfl : j = 0 := by simp at hj; exact hj
  simpa [Addr.add] using h
theorem cut_one (l : List UInt8) : (⟨#[91, 94]⟩ : ByteArray) ++ (⟨(91 :: l).toArray⟩ : ByteArray).extract 1 (⟨(91 :: l).toArray⟩ : ByteArray).size = ⟨(91 :: 94 :: l).toArray⟩ := by
  apply ByteArray.ext
  rw [str_size]
  simp
theorem escL_one (a : UInt8) : (escL [a]).length ≤ 2 := by
  simp only [escL, List.flatMap_cons, List.flatMap_nil, List.append_nil]
  split <;> simp
theorem setL_length (t : Bool) (a b : UInt8) : (setL t a b).length ≤ 8 := by
  have h1 := escL_one a
  have h2 := escL_one b
  unfold setL
  cases t <;> simp <;> omega
theorem twoL_length (t : Bool) (a b : UInt8) : (twoL t a b).length ≤ 8 := by
  have h1 := escL_one a
  have h2 := escL_one b
  unfold twoL
  cases t <;> simp <;> omega
theorem cc_data (c : UInt8) : ((⟨#[c]⟩ : ByteArray) ++ (⟨#[c]⟩ : ByteArray)).data.toList = [c, c] := by simp
theorem cc_size (c : UInt8) : ((⟨#[c]⟩ : ByteArray) ++ (⟨#[c]⟩ : ByteArray)).size < 4294967296 := by
  have h : (⟨#[c]⟩ : ByteArray).size = 1 := rfl
  rw [ByteArray.size_append]
  omega
theorem escape_one (a : UInt8) (w : World) :
    Calls Try.prog 6 #[.string ⟨#[a]⟩] w fun e w' => e = .returned (.string ⟨(escL [a]).toArray⟩) ∧ Below w.heap.size w w' := escape_any ⟨#[a]⟩ (by show (1 : Nat) < _; decide) w

set_option maxRecDepth 100000 in
set_option maxHeartbeats 4000000 in
theorem sets_any (a b c : UInt8) (turned : Bool) (w : World) :
    Calls Try.prog 3 #[.int .u8 (a.toNat : Int), .int .u8 (b.toNat : Int), .int .u8 (c.toNat : Int), .bool turned] w fun e w' => e = .returned (.bool true) ∧ Below w.heap.size w w' := by
  obtain ⟨EA, HEA⟩ : ∃ EA : ByteArray, Hid ((⟨(escL [a]).toArray⟩ : ByteArray) = EA) := ⟨_, rfl⟩
  obtain ⟨EB, HEB⟩ : ∃ EB : ByteArray, Hid ((⟨(escL [b]).toArray⟩ : ByteArray) = EB) := ⟨_, rfl⟩
  have hea : EA.size ≤ 2 := by rw [← HEA.out, str_size]; simp only [escL, List.flatMap_cons, List.flatMap_nil, List.append_nil]; split <;> simp
  have heb : EB.size ≤ 2 := by rw [← HEB.out, str_size]; simp only [escL, List.flatMap_cons, List.flatMap_nil, List.append_nil]; split <;> simp
  go_enter Try.func3, Try.ntmps3
  go_wp2_with fail
  refine (first_any _).mono ?_
  rintro e w1 ⟨rfl, hb1⟩
  go_upto_region 2 with fail
  go_cut [10] from 16 to 27 (fun v wx => v = .string ((⟨#[91]⟩ : ByteArray) ++ EA ++ (⟨#[45]⟩ : ByteArray) ++ EB ++ (⟨#[93]⟩ : ByteArray)) ∧ Below w.heap.size w wx)
  case first => as_aux_lemma =>
    refine wp_region_any (by kernel_rfl) ?_
    try (change wpAny _ _ _ _ _ _ _ (World.drew _))
    obtain ⟨V1, hV⟩ : ∃ x, x = World.drew w1 := ⟨_, rfl⟩
    have bV1 : Below w.heap.size w V1 := by rw [hV]; exact hb1.drew
    rw [← hV]
    clear hV
    refine wpAny_take (i := 0) (v := .int .u8 (a.toNat : Int)) rfl (by kernel_rfl) (by kernel_rfl) (by kernel_rfl) (fun _ _ _ h => h) (Or.inl ⟨by rfl, by intro wz; go_simp⟩) ?_
    try simp only [Act.put, List.getElem_toArray, List.getElem_cons_zero, List.setIfInBounds_toArray, List.set_cons_zero, List.set_cons_succ]
    refine wpAny_take (i := 6) (v := .int .u8 (b.toNat : Int)) rfl (by kernel_rfl) (by kernel_rfl) (by kernel_rfl) (fun _ _ _ h => h) (Or.inl ⟨by rfl, by intro wz; go_simp⟩) ?_
    try simp only [Act.put, List.getElem_toArray, List.getElem_cons_succ, List.getElem_cons_zero, List.setIfInBounds_toArray, List.set_cons_zero, List.set_cons_succ]
    refine wpAny_ready (rs := [1, 7]) (by kernel_rfl) (by simp) ?_
    refine AllReady.cons rfl (fun K hK => ?_) ?_
    · go_simp
      refine hK _ _ ?_
      clear hK K
      try simp only [Act.put, List.getElem_toArray, List.getElem_cons_succ, List.getElem_cons_zero, List.setIfInBounds_toArray, List.set_cons_zero, List.set_cons_succ]
      obtain ⟨V2, hV⟩ : ∃ x, x = World.alloc V1 (.cells #[.int .u8 (a.toNat : Int)] 5) := ⟨_, rfl⟩
      have bV2 : Below w.heap.size w V2 := by rw [hV]; exact bV1.alloc bV1.size _
      have cA2 : V2.cell? ⟨V1.heap.size, 0, none⟩ = some (.int .u8 (a.toNat : Int)) := by rw [hV]; simp [go_sem]
      have lA2 : V1.heap.size < V2.heap.size := by rw [hV]; simp
      have g2 : Below V1.heap.size V1 V2 := by rw [hV]; exact (Below.refl _ _).alloc (Nat.le_refl _) _
      rw [← hV]
      clear hV
      generalize V1.heap.size = n2 at cA2 lA2 ⊢
      refine wpAny_ready (rs := [2, 7]) (by kernel_rfl) (by simp) ?_
      refine AllReady.cons rfl (fun K hK => ?_) ?_
      · have hcv := conv_at V2 n2 a cA2
        go_simp
        refine hK _ _ ?_
        clear hK K
        try simp only [Act.put, List.getElem_toArray, List.getElem_cons_succ, List.getElem_cons_zero, List.setIfInBounds_toArray, List.set_cons_zero, List.set_cons_succ]
        clear hcv
        refine wpAny_ready (rs := [3, 7]) (by kernel_rfl) (by simp) ?_
        refine AllReady.cons rfl (fun K hK => ?_) ?_
        · go_simp
          refine (escape_one a _).mono ?_
          rintro e V3 ⟨rfl, g3⟩
          rw [HEA.out]
          have bV3 := bV2.trans (g3.mono bV2.size)
          go_wp2_with fail
          try simp only [Act.put, List.getElem_toArray, List.getElem_cons_succ, List.getElem_cons_zero, List.setIfInBounds_toArray, List.set_cons_zero, List.set_cons_succ]
          refine wpAny_take (i := 4) (v := .string ((⟨#[91]⟩ : ByteArray) ++ EA)) rfl (by kernel_rfl) (by kernel_rfl) (by kernel_rfl) (fun _ _ _ h => h) (Or.inl ⟨by rfl, by intro wz; go_simp; omega⟩) ?_
          try simp only [Act.put, List.getElem_toArray, List.getElem_cons_succ, List.getElem_cons_zero, List.setIfInBounds_toArray, List.set_cons_zero, List.set_cons_succ]
          refine wpAny_take (i := 5) (v := .string ((⟨#[91]⟩ : ByteArray) ++ EA ++ (⟨#[45]⟩ : ByteArray))) rfl (by kernel_rfl) (by kernel_rfl) (by kernel_rfl) (fun _ _ _ h => h) (Or.inl ⟨by rfl, by intro wz; go_simp; omega⟩) ?_
          try simp only [Act.put, List.getElem_toArray, List.getElem_cons_succ, List.getElem_cons_zero, List.setIfInBounds_toArray, List.set_cons_zero, List.set_cons_succ]
          refine wpAny_ready (rs := [7]) (by kernel_rfl) (by simp) ?_
          refine AllReady.cons rfl (fun K hK => ?_) ?_
          · go_simp
            refine hK _ _ ?_
            clear hK K
            try simp only [Act.put, List.getElem_toArray, List.getElem_cons_succ, List.getElem_cons_zero, List.setIfInBounds_toArray, List.set_cons_zero, List.set_cons_succ]
            obtain ⟨V4, hV⟩ : ∃ x, x = World.alloc V3 (.cells #[.int .u8 (b.toNat : Int)] 5) := ⟨_, rfl⟩
            have bV4 : Below w.heap.size w V4 := by rw [hV]; exact bV3.alloc bV3.size _
            have cB4 : V4.cell? ⟨V3.heap.size, 0, none⟩ = some (.int .u8 (b.toNat : Int)) := by rw [hV]; simp [go_sem]
            have lB4 : V3.heap.size < V4.heap.size := by rw [hV]; simp
            have g4 : Below V3.heap.size V3 V4 := by rw [hV]; exact (Below.refl _ _).alloc (Nat.le_refl _) _
            rw [← hV]
            clear hV
            generalize V3.heap.size = n4 at cB4 lB4 ⊢
            refine wpAny_ready (rs := [8]) (by kernel_rfl) (by simp) ?_
            refine AllReady.cons rfl (fun K hK => ?_) ?_
            · have hcv := conv_at V4 n4 b cB4
              go_simp
              refine hK _ _ ?_
              clear hK K
              try simp only [Act.put, List.getElem_toArray, List.getElem_cons_succ, List.getElem_cons_zero, List.setIfInBounds_toArray, List.set_cons_zero, List.set_cons_succ]
              clear hcv
              refine wpAny_ready (rs := [9]) (by kernel_rfl) (by simp) ?_
              refine AllReady.cons rfl (fun K hK => ?_) ?_
              · go_simp
                refine (escape_one b _).mono ?_
                rintro e V5 ⟨rfl, g5⟩
                rw [HEB.out]
                have bV5 := bV4.trans (g5.mono bV4.size)
                go_wp2_with fail
                try simp only [Act.put, List.getElem_toArray, List.getElem_cons_succ, List.getElem_cons_zero, List.setIfInBounds_toArray, List.set_cons_zero, List.set_cons_succ]
                refine wpAny_take (i := 10) (v := .string ((⟨#[91]⟩ : ByteArray) ++ EA ++ (⟨#[45]⟩ : ByteArray) ++ EB)) rfl (by kernel_rfl) (by kernel_rfl) (by kernel_rfl) (fun _ _ _ h => h) (Or.inl ⟨by rfl, by intro wz; go_simp; omega⟩) ?_
                try simp only [Act.put, List.getElem_toArray, List.getElem_cons_succ, List.getElem_cons_zero, List.setIfInBounds_toArray, List.set_cons_zero, List.set_cons_succ]
                refine wpAny_take (i := 11) (v := .string ((⟨#[91]⟩ : ByteArray) ++ EA ++ (⟨#[45]⟩ : ByteArray) ++ EB ++ (⟨#[93]⟩ : ByteArray))) rfl (by kernel_rfl) (by kernel_rfl) (by kernel_rfl) (fun _ _ _ h => h) (Or.inl ⟨by rfl, by intro wz; go_simp; omega⟩) ?_
                try simp only [Act.put, List.getElem_toArray, List.getElem_cons_succ, List.getElem_cons_zero, List.setIfInBounds_toArray, List.set_cons_zero, List.set_cons_succ]
                refine wpAny_take (i := 12) (v := .string ((⟨#[91]⟩ : ByteArray) ++ EA ++ (⟨#[45]⟩ : ByteArray) ++ EB ++ (⟨#[93]⟩ : ByteArray))) rfl (by kernel_rfl) (by kernel_rfl) (by kernel_rfl) (fun _ _ _ h => h) (Or.inl ⟨by rfl, by intro wz; go_simp⟩) ?_
                try simp only [Act.put, List.getElem_toArray, List.getElem_cons_succ, List.getElem_cons_zero, List.setIfInBounds_toArray, List.set_cons_zero, List.set_cons_succ]
                refine wpAny_done (by kernel_rfl) ?_ _
                go_wp2_with fail
                go_meet
                case rel => exact ⟨rfl, bV5⟩
              exact AllReady.nil
            exact AllReady.nil
          exact AllReady.nil
        refine AllReady.cons rfl (fun K hK => ?_) ?_
        · go_simp
          refine hK _ _ ?_
          clear hK K
          try simp only [Act.put, List.getElem_toArray, List.getElem_cons_succ, List.getElem_cons_zero, List.setIfInBounds_toArray, List.set_cons_zero, List.set_cons_succ]
          obtain ⟨V6, hV⟩ : ∃ x, x = World.alloc V2 (.cells #[.int .u8 (b.toNat : Int)] 5) := ⟨_, rfl⟩
          have bV6 : Below w.heap.size w V6 := by rw [hV]; exact bV2.alloc bV2.size _
          have cB6 : V6.cell? ⟨V2.heap.size, 0, none⟩ = some (.int .u8 (b.toNat : Int)) := by rw [hV]; simp [go_sem]
          have lB6 : V2.heap.size < V6.heap.size := by rw [hV]; simp
          have g6 : Below V2.heap.size V2 V6 := by rw [hV]; exact (Below.refl _ _).alloc (Nat.le_refl _) _
          rw [← hV]
          clear hV
          generalize V2.heap.size = n6 at cB6 lB6 ⊢
          refine wpAny_ready (rs := [3, 8]) (by kernel_rfl) (by simp) ?_
          refine AllReady.cons rfl (fun K hK => ?_) ?_
          · go_simp
            refine (escape_one a _).mono ?_
            rintro e V7 ⟨rfl, g7⟩
            rw [HEA.out]
            have bV7 := bV6.trans (g7.mono bV6.size)
            have cB7 := (g7.cell (p := ⟨n6, 0, none⟩) lB6).trans cB6
            have lB7 : n6 < V7.heap.size := Nat.lt_of_lt_of_le lB6 g7.size
            go_wp2_with fail
            try simp only [Act.put, List.getElem_toArray, List.getElem_cons_succ, List.getElem_cons_zero, List.setIfInBounds_toArray, List.set_cons_zero, List.set_cons_succ]
            refine wpAny_take (i := 4) (v := .string ((⟨#[91]⟩ : ByteArray) ++ EA)) rfl (by kernel_rfl) (by kernel_rfl) (by kernel_rfl) (fun _ _ _ h => h) (Or.inl ⟨by rfl, by intro wz; go_simp; omega⟩) ?_
            try simp only [Act.put, List.getElem_toArray, List.getElem_cons_succ, List.getElem_cons_zero, List.setIfInBounds_toArray, List.set_cons_zero, List.set_cons_succ]
            refine wpAny_take (i := 5) (v := .string ((⟨#[91]⟩ : ByteArray) ++ EA ++ (⟨#[45]⟩ : ByteArray))) rfl (by kernel_rfl) (by kernel_rfl) (by kernel_rfl) (fun _ _ _ h => h) (Or.inl ⟨by rfl, by intro wz; go_simp; omega⟩) ?_
            try simp only [Act.put, List.getElem_toArray, List.getElem_cons_succ, List.getElem_cons_zero, List.setIfInBounds_toArray, List.set_cons_zero, List.set_cons_succ]
            refine wpAny_ready (rs := [8]) (by kernel_rfl) (by simp) ?_
            refine AllReady.cons rfl (fun K hK => ?_) ?_
            · have hcv := conv_at V7 n6 b cB7
              go_simp
              refine hK _ _ ?_
              clear hK K
              try simp only [Act.put, List.getElem_toArray, List.getElem_cons_succ, List.getElem_cons_zero, List.setIfInBounds_toArray, List.set_cons_zero, List.set_cons_succ]
              clear hcv
              refine wpAny_ready (rs := [9]) (by kernel_rfl) (by simp) ?_
              refine AllReady.cons rfl (fun K hK => ?_) ?_
              · go_simp
                refine (escape_one b _).mono ?_
                rintro e V8 ⟨rfl, g8⟩
                rw [HEB.out]
                have bV8 := bV7.trans (g8.mono bV7.size)
                go_wp2_with fail
                try simp only [Act.put, List.getElem_toArray, List.getElem_cons_succ, List.getElem_cons_zero, List.setIfInBounds_toArray, List.set_cons_zero, List.set_cons_succ]
                refine wpAny_take (i := 10) (v := .string ((⟨#[91]⟩ : ByteArray) ++ EA ++ (⟨#[45]⟩ : ByteArray) ++ EB)) rfl (by kernel_rfl) (by kernel_rfl) (by kernel_rfl) (fun _ _ _ h => h) (Or.inl ⟨by rfl, by intro wz; go_simp; omega⟩) ?_
                try simp only [Act.put, List.getElem_toArray, List.getElem_cons_succ, List.getElem_cons_zero, List.setIfInBounds_toArray, List.set_cons_zero, List.set_cons_succ]
                refine wpAny_take (i := 11) (v := .string ((⟨#[91]⟩ : ByteArray) ++ EA ++ (⟨#[45]⟩ : ByteArray) ++ EB ++ (⟨#[93]⟩ : ByteArray))) rfl (by kernel_rfl) (by kernel_rfl) (by kernel_rfl) (fun _ _ _ h => h) (Or.inl ⟨by rfl, by intro wz; go_simp; omega⟩) ?_
                try simp only [Act.put, List.getElem_toArray, List.getElem_cons_succ, List.getElem_cons_zero, List.setIfInBounds_toArray, List.set_cons_zero, List.set_cons_succ]
                refine wpAny_take (i := 12) (v := .string ((⟨#[91]⟩ : ByteArray) ++ EA ++ (⟨#[45]⟩ : ByteArray) ++ EB ++ (⟨#[93]⟩ : ByteArray))) rfl (by kernel_rfl) (by kernel_rfl) (by kernel_rfl) (fun _ _ _ h => h) (Or.inl ⟨by rfl, by intro wz; go_simp⟩) ?_
                try simp only [Act.put, List.getElem_toArray, List.getElem_cons_succ, List.getElem_cons_zero, List.setIfInBounds_toArray, List.set_cons_zero, List.set_cons_succ]
                refine wpAny_done (by kernel_rfl) ?_ _
                go_wp2_with fail
                go_meet
                case rel => exact ⟨rfl, bV8⟩
              exact AllReady.nil
            exact AllReady.nil
          refine AllReady.cons rfl (fun K hK => ?_) ?_
          · have hcv := conv_at V6 n6 b cB6
            go_simp
            refine hK _ _ ?_
            clear hK K
            try simp only [Act.put, List.getElem_toArray, List.getElem_cons_succ, List.getElem_cons_zero, List.setIfInBounds_toArray, List.set_cons_zero, List.set_cons_succ]
            clear hcv
            refine wpAny_ready (rs := [3]) (by kernel_rfl) (by simp) ?_
            refine AllReady.cons rfl (fun K hK => ?_) ?_
            · go_simp
              refine (escape_one a _).mono ?_
              rintro e V9 ⟨rfl, g9⟩
              rw [HEA.out]
              have bV9 := bV6.trans (g9.mono bV6.size)
              go_wp2_with fail
              try simp only [Act.put, List.getElem_toArray, List.getElem_cons_succ, List.getElem_cons_zero, List.setIfInBounds_toArray, List.set_cons_zero, List.set_cons_succ]
              refine wpAny_take (i := 4) (v := .string ((⟨#[91]⟩ : ByteArray) ++ EA)) rfl (by kernel_rfl) (by kernel_rfl) (by kernel_rfl) (fun _ _ _ h => h) (Or.inl ⟨by rfl, by intro wz; go_simp; omega⟩) ?_
              try simp only [Act.put, List.getElem_toArray, List.getElem_cons_succ, List.getElem_cons_zero, List.setIfInBounds_toArray, List.set_cons_zero, List.set_cons_succ]
              refine wpAny_take (i := 5) (v := .string ((⟨#[91]⟩ : ByteArray) ++ EA ++ (⟨#[45]⟩ : ByteArray))) rfl (by kernel_rfl) (by kernel_rfl) (by kernel_rfl) (fun _ _ _ h => h) (Or.inl ⟨by rfl, by intro wz; go_simp; omega⟩) ?_
              try simp only [Act.put, List.getElem_toArray, List.getElem_cons_succ, List.getElem_cons_zero, List.setIfInBounds_toArray, List.set_cons_zero, List.set_cons_succ]
              refine wpAny_ready (rs := [9]) (by kernel_rfl) (by simp) ?_
              refine AllReady.cons rfl (fun K hK => ?_) ?_
              · go_simp
                refine (escape_one b _).mono ?_
                rintro e V10 ⟨rfl, g10⟩
                rw [HEB.out]
                have bV10 := bV9.trans (g10.mono bV9.size)
                go_wp2_with fail
                try simp only [Act.put, List.getElem_toArray, List.getElem_cons_succ, List.getElem_cons_zero, List.setIfInBounds_toArray, List.set_cons_zero, List.set_cons_succ]
                refine wpAny_take (i := 10) (v := .string ((⟨#[91]⟩ : ByteArray) ++ EA ++ (⟨#[45]⟩ : ByteArray) ++ EB)) rfl (by kernel_rfl) (by kernel_rfl) (by kernel_rfl) (fun _ _ _ h => h) (Or.inl ⟨by rfl, by intro wz; go_simp; omega⟩) ?_
                try simp only [Act.put, List.getElem_toArray, List.getElem_cons_succ, List.getElem_cons_zero, List.setIfInBounds_toArray, List.set_cons_zero, List.set_cons_succ]
                refine wpAny_take (i := 11) (v := .string ((⟨#[91]⟩ : ByteArray) ++ EA ++ (⟨#[45]⟩ : ByteArray) ++ EB ++ (⟨#[93]⟩ : ByteArray))) rfl (by kernel_rfl) (by kernel_rfl) (by kernel_rfl) (fun _ _ _ h => h) (Or.inl ⟨by rfl, by intro wz; go_simp; omega⟩) ?_
                try simp only [Act.put, List.getElem_toArray, List.getElem_cons_succ, List.getElem_cons_zero, List.setIfInBounds_toArray, List.set_cons_zero, List.set_cons_succ]
                refine wpAny_take (i := 12) (v := .string ((⟨#[91]⟩ : ByteArray) ++ EA ++ (⟨#[45]⟩ : ByteArray) ++ EB ++ (⟨#[93]⟩ : ByteArray))) rfl (by kernel_rfl) (by kernel_rfl) (by kernel_rfl) (fun _ _ _ h => h) (Or.inl ⟨by rfl, by intro wz; go_simp⟩) ?_
                try simp only [Act.put, List.getElem_toArray, List.getElem_cons_succ, List.getElem_cons_zero, List.setIfInBounds_toArray, List.set_cons_zero, List.set_cons_succ]
                refine wpAny_done (by kernel_rfl) ?_ _
                go_wp2_with fail
                go_meet
                case rel => exact ⟨rfl, bV10⟩
              exact AllReady.nil
            exact AllReady.nil
          exact AllReady.nil
        exact AllReady.nil
      refine AllReady.cons rfl (fun K hK => ?_) ?_
      · go_simp
        refine hK _ _ ?_
        clear hK K
        try simp only [Act.put, List.getElem_toArray, List.getElem_cons_succ, List.getElem_cons_zero, List.setIfInBounds_toArray, List.set_cons_zero, List.set_cons_succ]
        obtain ⟨V11, hV⟩ : ∃ x, x = World.alloc V2 (.cells #[.int .u8 (b.toNat : Int)] 5) := ⟨_, rfl⟩
        have bV11 : Below w.heap.size w V11 := by rw [hV]; exact bV2.alloc bV2.size _
        have cB11 : V11.cell? ⟨V2.heap.size, 0, none⟩ = some (.int .u8 (b.toNat : Int)) := by rw [hV]; simp [go_sem]
        have lB11 : V2.heap.size < V11.heap.size := by rw [hV]; simp
        have g11 : Below V2.heap.size V2 V11 := by rw [hV]; exact (Below.refl _ _).alloc (Nat.le_refl _) _
        have cA11 := (g11.cell (p := ⟨n2, 0, none⟩) lA2).trans cA2
        have lA11 : n2 < V11.heap.size := Nat.lt_of_lt_of_le lA2 g11.size
        rw [← hV]
        clear hV
        generalize V2.heap.size = n11 at cB11 lB11 ⊢
        refine wpAny_ready (rs := [2, 8]) (by kernel_rfl) (by simp) ?_
        refine AllReady.cons rfl (fun K hK => ?_) ?_
        · have hcv := conv_at V11 n2 a cA11
          go_simp
          refine hK _ _ ?_
          clear hK K
          try simp only [Act.put, List.getElem_toArray, List.getElem_cons_succ, List.getElem_cons_zero, List.setIfInBounds_toArray, List.set_cons_zero, List.set_cons_succ]
          clear hcv
          refine wpAny_ready (rs := [3, 8]) (by kernel_rfl) (by simp) ?_
          refine AllReady.cons rfl (fun K hK => ?_) ?_
          · go_simp
            refine (escape_one a _).mono ?_
            rintro e V12 ⟨rfl, g12⟩
            rw [HEA.out]
            have bV12 := bV11.trans (g12.mono bV11.size)
            have cB12 := (g12.cell (p := ⟨n11, 0, none⟩) lB11).trans cB11
            have lB12 : n11 < V12.heap.size := Nat.lt_of_lt_of_le lB11 g12.size
            go_wp2_with fail
            try simp only [Act.put, List.getElem_toArray, List.getElem_cons_succ, List.getElem_cons_zero, List.setIfInBounds_toArray, List.set_cons_zero, List.set_cons_succ]
            refine wpAny_take (i := 4) (v := .string ((⟨#[91]⟩ : ByteArray) ++ EA)) rfl (by kernel_rfl) (by kernel_rfl) (by kernel_rfl) (fun _ _ _ h => h) (Or.inl ⟨by rfl, by intro wz; go_simp; omega⟩) ?_
            try simp only [Act.put, List.getElem_toArray, List.getElem_cons_succ, List.getElem_cons_zero, List.setIfInBounds_toArray, List.set_cons_zero, List.set_cons_succ]
            refine wpAny_take (i := 5) (v := .string ((⟨#[91]⟩ : ByteArray) ++ EA ++ (⟨#[45]⟩ : ByteArray))) rfl (by kernel_rfl) (by kernel_rfl) (by kernel_rfl) (fun _ _ _ h => h) (Or.inl ⟨by rfl, by intro wz; go_simp; omega⟩) ?_
            try simp only [Act.put, List.getElem_toArray, List.getElem_cons_succ, List.getElem_cons_zero, List.setIfInBounds_toArray, List.set_cons_zero, List.set_cons_succ]
            refine wpAny_ready (rs := [8]) (by kernel_rfl) (by simp) ?_
            refine AllReady.cons rfl (fun K hK => ?_) ?_
            · have hcv := conv_at V12 n11 b cB12
              go_simp
              refine hK _ _ ?_
              clear hK K
              try simp only [Act.put, List.getElem_toArray, List.getElem_cons_succ, List.getElem_cons_zero, List.setIfInBounds_toArray, List.set_cons_zero, List.set_cons_succ]
              clear hcv
              refine wpAny_ready (rs := [9]) (by kernel_rfl) (by simp) ?_
              refine AllReady.cons rfl (fun K hK => ?_) ?_
              · go_simp
                refine (escape_one b _).mono ?_
                rintro e V13 ⟨rfl, g13⟩
                rw [HEB.out]
                have bV13 := bV12.trans (g13.mono bV12.size)
                go_wp2_with fail
                try simp only [Act.put, List.getElem_toArray, List.getElem_cons_succ, List.getElem_cons_zero, List.setIfInBounds_toArray, List.set_cons_zero, List.set_cons_succ]
                refine wpAny_take (i := 10) (v := .string ((⟨#[91]⟩ : ByteArray) ++ EA ++ (⟨#[45]⟩ : ByteArray) ++ EB)) rfl (by kernel_rfl) (by kernel_rfl) (by kernel_rfl) (fun _ _ _ h => h) (Or.inl ⟨by rfl, by intro wz; go_simp; omega⟩) ?_
                try simp only [Act.put, List.getElem_toArray, List.getElem_cons_succ, List.getElem_cons_zero, List.setIfInBounds_toArray, List.set_cons_zero, List.set_cons_succ]
                refine wpAny_take (i := 11) (v := .string ((⟨#[91]⟩ : ByteArray) ++ EA ++ (⟨#[45]⟩ : ByteArray) ++ EB ++ (⟨#[93]⟩ : ByteArray))) rfl (by kernel_rfl) (by kernel_rfl) (by kernel_rfl) (fun _ _ _ h => h) (Or.inl ⟨by rfl, by intro wz; go_simp; omega⟩) ?_
                try simp only [Act.put, List.getElem_toArray, List.getElem_cons_succ, List.getElem_cons_zero, List.setIfInBounds_toArray, List.set_cons_zero, List.set_cons_succ]
                refine wpAny_take (i := 12) (v := .string ((⟨#[91]⟩ : ByteArray) ++ EA ++ (⟨#[45]⟩ : ByteArray) ++ EB ++ (⟨#[93]⟩ : ByteArray))) rfl (by kernel_rfl) (by kernel_rfl) (by kernel_rfl) (fun _ _ _ h => h) (Or.inl ⟨by rfl, by intro wz; go_simp⟩) ?_
                try simp only [Act.put, List.getElem_toArray, List.getElem_cons_succ, List.getElem_cons_zero, List.setIfInBounds_toArray, List.set_cons_zero, List.set_cons_succ]
                refine wpAny_done (by kernel_rfl) ?_ _
                go_wp2_with fail
                go_meet
                case rel => exact ⟨rfl, bV13⟩
              exact AllReady.nil
            exact AllReady.nil
          refine AllReady.cons rfl (fun K hK => ?_) ?_
          · have hcv := conv_at V11 n11 b cB11
            go_simp
            refine hK _ _ ?_
            clear hK K
            try simp only [Act.put, List.getElem_toArray, List.getElem_cons_succ, List.getElem_cons_zero, List.setIfInBounds_toArray, List.set_cons_zero, List.set_cons_succ]
            clear hcv
            refine wpAny_ready (rs := [3]) (by kernel_rfl) (by simp) ?_
            refine AllReady.cons rfl (fun K hK => ?_) ?_
            · go_simp
              refine (escape_one a _).mono ?_
              rintro e V14 ⟨rfl, g14⟩
              rw [HEA.out]
              have bV14 := bV11.trans (g14.mono bV11.size)
              go_wp2_with fail
              try simp only [Act.put, List.getElem_toArray, List.getElem_cons_succ, List.getElem_cons_zero, List.setIfInBounds_toArray, List.set_cons_zero, List.set_cons_succ]
              refine wpAny_take (i := 4) (v := .string ((⟨#[91]⟩ : ByteArray) ++ EA)) rfl (by kernel_rfl) (by kernel_rfl) (by kernel_rfl) (fun _ _ _ h => h) (Or.inl ⟨by rfl, by intro wz; go_simp; omega⟩) ?_
              try simp only [Act.put, List.getElem_toArray, List.getElem_cons_succ, List.getElem_cons_zero, List.setIfInBounds_toArray, List.set_cons_zero, List.set_cons_succ]
              refine wpAny_take (i := 5) (v := .string ((⟨#[91]⟩ : ByteArray) ++ EA ++ (⟨#[45]⟩ : ByteArray))) rfl (by kernel_rfl) (by kernel_rfl) (by kernel_rfl) (fun _ _ _ h => h) (Or.inl ⟨by rfl, by intro wz; go_simp; omega⟩) ?_
              try simp only [Act.put, List.getElem_toArray, List.getElem_cons_succ, List.getElem_cons_zero, List.setIfInBounds_toArray, List.set_cons_zero, List.set_cons_succ]
              refine wpAny_ready (rs := [9]) (by kernel_rfl) (by simp) ?_
              refine AllReady.cons rfl (fun K hK => ?_) ?_
              · go_simp
                refine (escape_one b _).mono ?_
                rintro e V15 ⟨rfl, g15⟩
                rw [HEB.out]
                have bV15 := bV14.trans (g15.mono bV14.size)
                go_wp2_with fail
                try simp only [Act.put, List.getElem_toArray, List.getElem_cons_succ, List.getElem_cons_zero, List.setIfInBounds_toArray, List.set_cons_zero, List.set_cons_succ]
                refine wpAny_take (i := 10) (v := .string ((⟨#[91]⟩ : ByteArray) ++ EA ++ (⟨#[45]⟩ : ByteArray) ++ EB)) rfl (by kernel_rfl) (by kernel_rfl) (by kernel_rfl) (fun _ _ _ h => h) (Or.inl ⟨by rfl, by intro wz; go_simp; omega⟩) ?_
                try simp only [Act.put, List.getElem_toArray, List.getElem_cons_succ, List.getElem_cons_zero, List.setIfInBounds_toArray, List.set_cons_zero, List.set_cons_succ]
                refine wpAny_take (i := 11) (v := .string ((⟨#[91]⟩ : ByteArray) ++ EA ++ (⟨#[45]⟩ : ByteArray) ++ EB ++ (⟨#[93]⟩ : ByteArray))) rfl (by kernel_rfl) (by kernel_rfl) (by kernel_rfl) (fun _ _ _ h => h) (Or.inl ⟨by rfl, by intro wz; go_simp; omega⟩) ?_
                try simp only [Act.put, List.getElem_toArray, List.getElem_cons_succ, List.getElem_cons_zero, List.setIfInBounds_toArray, List.set_cons_zero, List.set_cons_succ]
                refine wpAny_take (i := 12) (v := .string ((⟨#[91]⟩ : ByteArray) ++ EA ++ (⟨#[45]⟩ : ByteArray) ++ EB ++ (⟨#[93]⟩ : ByteArray))) rfl (by kernel_rfl) (by kernel_rfl) (by kernel_rfl) (fun _ _ _ h => h) (Or.inl ⟨by rfl, by intro wz; go_simp⟩) ?_
                try simp only [Act.put, List.getElem_toArray, List.getElem_cons_succ, List.getElem_cons_zero, List.setIfInBounds_toArray, List.set_cons_zero, List.set_cons_succ]
                refine wpAny_done (by kernel_rfl) ?_ _
                go_wp2_with fail
                go_meet
                case rel => exact ⟨rfl, bV15⟩
              exact AllReady.nil
            exact AllReady.nil
          exact AllReady.nil
        refine AllReady.cons rfl (fun K hK => ?_) ?_
        · have hcv := conv_at V11 n11 b cB11
          go_simp
          refine hK _ _ ?_
          clear hK K
          try simp only [Act.put, List.getElem_toArray, List.getElem_cons_succ, List.getElem_cons_zero, List.setIfInBounds_toArray, List.set_cons_zero, List.set_cons_succ]
          clear hcv
          refine wpAny_ready (rs := [2]) (by kernel_rfl) (by simp) ?_
          refine AllReady.cons rfl (fun K hK => ?_) ?_
          · have hcv := conv_at V11 n2 a cA11
            go_simp
            refine hK _ _ ?_
            clear hK K
            try simp only [Act.put, List.getElem_toArray, List.getElem_cons_succ, List.getElem_cons_zero, List.setIfInBounds_toArray, List.set_cons_zero, List.set_cons_succ]
            clear hcv
            refine wpAny_ready (rs := [3]) (by kernel_rfl) (by simp) ?_
            refine AllReady.cons rfl (fun K hK => ?_) ?_
            · go_simp
              refine (escape_one a _).mono ?_
              rintro e V16 ⟨rfl, g16⟩
              rw [HEA.out]
              have bV16 := bV11.trans (g16.mono bV11.size)
              go_wp2_with fail
              try simp only [Act.put, List.getElem_toArray, List.getElem_cons_succ, List.getElem_cons_zero, List.setIfInBounds_toArray, List.set_cons_zero, List.set_cons_succ]
              refine wpAny_take (i := 4) (v := .string ((⟨#[91]⟩ : ByteArray) ++ EA)) rfl (by kernel_rfl) (by kernel_rfl) (by kernel_rfl) (fun _ _ _ h => h) (Or.inl ⟨by rfl, by intro wz; go_simp; omega⟩) ?_
              try simp only [Act.put, List.getElem_toArray, List.getElem_cons_succ, List.getElem_cons_zero, List.setIfInBounds_toArray, List.set_cons_zero, List.set_cons_succ]
              refine wpAny_take (i := 5) (v := .string ((⟨#[91]⟩ : ByteArray) ++ EA ++ (⟨#[45]⟩ : ByteArray))) rfl (by kernel_rfl) (by kernel_rfl) (by kernel_rfl) (fun _ _ _ h => h) (Or.inl ⟨by rfl, by intro wz; go_simp; omega⟩) ?_
              try simp only [Act.put, List.getElem_toArray, List.getElem_cons_succ, List.getElem_cons_zero, List.setIfInBounds_toArray, List.set_cons_zero, List.set_cons_succ]
              refine wpAny_ready (rs := [9]) (by kernel_rfl) (by simp) ?_
              refine AllReady.cons rfl (fun K hK => ?_) ?_
              · go_simp
                refine (escape_one b _).mono ?_
                rintro e V17 ⟨rfl, g17⟩
                rw [HEB.out]
                have bV17 := bV16.trans (g17.mono bV16.size)
                go_wp2_with fail
                try simp only [Act.put, List.getElem_toArray, List.getElem_cons_succ, List.getElem_cons_zero, List.setIfInBounds_toArray, List.set_cons_zero, List.set_cons_succ]
                refine wpAny_take (i := 10) (v := .string ((⟨#[91]⟩ : ByteArray) ++ EA ++ (⟨#[45]⟩ : ByteArray) ++ EB)) rfl (by kernel_rfl) (by kernel_rfl) (by kernel_rfl) (fun _ _ _ h => h) (Or.inl ⟨by rfl, by intro wz; go_simp; omega⟩) ?_
                try simp only [Act.put, List.getElem_toArray, List.getElem_cons_succ, List.getElem_cons_zero, List.setIfInBounds_toArray, List.set_cons_zero, List.set_cons_succ]
                refine wpAny_take (i := 11) (v := .string ((⟨#[91]⟩ : ByteArray) ++ EA ++ (⟨#[45]⟩ : ByteArray) ++ EB ++ (⟨#[93]⟩ : ByteArray))) rfl (by kernel_rfl) (by kernel_rfl) (by kernel_rfl) (fun _ _ _ h => h) (Or.inl ⟨by rfl, by intro wz; go_simp; omega⟩) ?_
                try simp only [Act.put, List.getElem_toArray, List.getElem_cons_succ, List.getElem_cons_zero, List.setIfInBounds_toArray, List.set_cons_zero, List.set_cons_succ]
                refine wpAny_take (i := 12) (v := .string ((⟨#[91]⟩ : ByteArray) ++ EA ++ (⟨#[45]⟩ : ByteArray) ++ EB ++ (⟨#[93]⟩ : ByteArray))) rfl (by kernel_rfl) (by kernel_rfl) (by kernel_rfl) (fun _ _ _ h => h) (Or.inl ⟨by rfl, by intro wz; go_simp⟩) ?_
                try simp only [Act.put, List.getElem_toArray, List.getElem_cons_succ, List.getElem_cons_zero, List.setIfInBounds_toArray, List.set_cons_zero, List.set_cons_succ]
                refine wpAny_done (by kernel_rfl) ?_ _
                go_wp2_with fail
                go_meet
                case rel => exact ⟨rfl, bV17⟩
              exact AllReady.nil
            exact AllReady.nil
          exact AllReady.nil
        exact AllReady.nil
      exact AllReady.nil
    refine AllReady.cons rfl (fun K hK => ?_) ?_
    · go_simp
      refine hK _ _ ?_
      clear hK K
      try simp only [Act.put, List.getElem_toArray, List.getElem_cons_succ, List.getElem_cons_zero, List.setIfInBounds_toArray, List.set_cons_zero, List.set_cons_succ]
      obtain ⟨V18, hV⟩ : ∃ x, x = World.alloc V1 (.cells #[.int .u8 (b.toNat : Int)] 5) := ⟨_, rfl⟩
      have bV18 : Below w.heap.size w V18 := by rw [hV]; exact bV1.alloc bV1.size _
      have cB18 : V18.cell? ⟨V1.heap.size, 0, none⟩ = some (.int .u8 (b.toNat : Int)) := by rw [hV]; simp [go_sem]
      have lB18 : V1.heap.size < V18.heap.size := by rw [hV]; simp
      have g18 : Below V1.heap.size V1 V18 := by rw [hV]; exact (Below.refl _ _).alloc (Nat.le_refl _) _
      rw [← hV]
      clear hV
      generalize V1.heap.size = n18 at cB18 lB18 ⊢
      refine wpAny_ready (rs := [1, 8]) (by kernel_rfl) (by simp) ?_
      refine AllReady.cons rfl (fun K hK => ?_) ?_
      · go_simp
        refine hK _ _ ?_
        clear hK K
        try simp only [Act.put, List.getElem_toArray, List.getElem_cons_succ, List.getElem_cons_zero, List.setIfInBounds_toArray, List.set_cons_zero, List.set_cons_succ]
        obtain ⟨V19, hV⟩ : ∃ x, x = World.alloc V18 (.cells #[.int .u8 (a.toNat : Int)] 5) := ⟨_, rfl⟩
        have bV19 : Below w.heap.size w V19 := by rw [hV]; exact bV18.alloc bV18.size _
        have cA19 : V19.cell? ⟨V18.heap.size, 0, none⟩ = some (.int .u8 (a.toNat : Int)) := by rw [hV]; simp [go_sem]
        have lA19 : V18.heap.size < V19.heap.size := by rw [hV]; simp
        have g19 : Below V18.heap.size V18 V19 := by rw [hV]; exact (Below.refl _ _).alloc (Nat.le_refl _) _
        have cB19 := (g19.cell (p := ⟨n18, 0, none⟩) lB18).trans cB18
        have lB19 : n18 < V19.heap.size := Nat.lt_of_lt_of_le lB18 g19.size
        rw [← hV]
        clear hV
        generalize V18.heap.size = n19 at cA19 lA19 ⊢
        refine wpAny_ready (rs := [2, 8]) (by kernel_rfl) (by simp) ?_
        refine AllReady.cons rfl (fun K hK => ?_) ?_
        · have hcv := conv_at V19 n19 a cA19
          go_simp
          refine hK _ _ ?_
          clear hK K
          try simp only [Act.put, List.getElem_toArray, List.getElem_cons_succ, List.getElem_cons_zero, List.setIfInBounds_toArray, List.set_cons_zero, List.set_cons_succ]
          clear hcv
          refine wpAny_ready (rs := [3, 8]) (by kernel_rfl) (by simp) ?_
          refine AllReady.cons rfl (fun K hK => ?_) ?_
          · go_simp
            refine (escape_one a _).mono ?_
            rintro e V20 ⟨rfl, g20⟩
            rw [HEA.out]
            have bV20 := bV19.trans (g20.mono bV19.size)
            have cB20 := (g20.cell (p := ⟨n18, 0, none⟩) lB19).trans cB19
            have lB20 : n18 < V20.heap.size := Nat.lt_of_lt_of_le lB19 g20.size
            go_wp2_with fail
            try simp only [Act.put, List.getElem_toArray, List.getElem_cons_succ, List.getElem_cons_zero, List.setIfInBounds_toArray, List.set_cons_zero, List.set_cons_succ]
            refine wpAny_take (i := 4) (v := .string ((⟨#[91]⟩ : ByteArray) ++ EA)) rfl (by kernel_rfl) (by kernel_rfl) (by kernel_rfl) (fun _ _ _ h => h) (Or.inl ⟨by rfl, by intro wz; go_simp; omega⟩) ?_
            try simp only [Act.put, List.getElem_toArray, List.getElem_cons_succ, List.getElem_cons_zero, List.setIfInBounds_toArray, List.set_cons_zero, List.set_cons_succ]
            refine wpAny_take (i := 5) (v := .string ((⟨#[91]⟩ : ByteArray) ++ EA ++ (⟨#[45]⟩ : ByteArray))) rfl (by kernel_rfl) (by kernel_rfl) (by kernel_rfl) (fun _ _ _ h => h) (Or.inl ⟨by rfl, by intro wz; go_simp; omega⟩) ?_
            try simp only [Act.put, List.getElem_toArray, List.getElem_cons_succ, List.getElem_cons_zero, List.setIfInBounds_toArray, List.set_cons_zero, List.set_cons_succ]
            refine wpAny_ready (rs := [8]) (by kernel_rfl) (by simp) ?_
            refine AllReady.cons rfl (fun K hK => ?_) ?_
            · have hcv := conv_at V20 n18 b cB20
              go_simp
              refine hK _ _ ?_
              clear hK K
              try simp only [Act.put, List.getElem_toArray, List.getElem_cons_succ, List.getElem_cons_zero, List.setIfInBounds_toArray, List.set_cons_zero, List.set_cons_succ]
              clear hcv
              refine wpAny_ready (rs := [9]) (by kernel_rfl) (by simp) ?_
              refine AllReady.cons rfl (fun K hK => ?_) ?_
              · go_simp
                refine (escape_one b _).mono ?_
                rintro e V21 ⟨rfl, g21⟩
                rw [HEB.out]
                have bV21 := bV20.trans (g21.mono bV20.size)
                go_wp2_with fail
                try simp only [Act.put, List.getElem_toArray, List.getElem_cons_succ, List.getElem_cons_zero, List.setIfInBounds_toArray, List.set_cons_zero, List.set_cons_succ]
                refine wpAny_take (i := 10) (v := .string ((⟨#[91]⟩ : ByteArray) ++ EA ++ (⟨#[45]⟩ : ByteArray) ++ EB)) rfl (by kernel_rfl) (by kernel_rfl) (by kernel_rfl) (fun _ _ _ h => h) (Or.inl ⟨by rfl, by intro wz; go_simp; omega⟩) ?_
                try simp only [Act.put, List.getElem_toArray, List.getElem_cons_succ, List.getElem_cons_zero, List.setIfInBounds_toArray, List.set_cons_zero, List.set_cons_succ]
                refine wpAny_take (i := 11) (v := .string ((⟨#[91]⟩ : ByteArray) ++ EA ++ (⟨#[45]⟩ : ByteArray) ++ EB ++ (⟨#[93]⟩ : ByteArray))) rfl (by kernel_rfl) (by kernel_rfl) (by kernel_rfl) (fun _ _ _ h => h) (Or.inl ⟨by rfl, by intro wz; go_simp; omega⟩) ?_
                try simp only [Act.put, List.getElem_toArray, List.getElem_cons_succ, List.getElem_cons_zero, List.setIfInBounds_toArray, List.set_cons_zero, List.set_cons_succ]
                refine wpAny_take (i := 12) (v := .string ((⟨#[91]⟩ : ByteArray) ++ EA ++ (⟨#[45]⟩ : ByteArray) ++ EB ++ (⟨#[93]⟩ : ByteArray))) rfl (by kernel_rfl) (by kernel_rfl) (by kernel_rfl) (fun _ _ _ h => h) (Or.inl ⟨by rfl, by intro wz; go_simp⟩) ?_
                try simp only [Act.put, List.getElem_toArray, List.getElem_cons_succ, List.getElem_cons_zero, List.setIfInBounds_toArray, List.set_cons_zero, List.set_cons_succ]
                refine wpAny_done (by kernel_rfl) ?_ _
                go_wp2_with fail
                go_meet
                case rel => exact ⟨rfl, bV21⟩
              exact AllReady.nil
            exact AllReady.nil
          refine AllReady.cons rfl (fun K hK => ?_) ?_
          · have hcv := conv_at V19 n18 b cB19
            go_simp
            refine hK _ _ ?_
            clear hK K
            try simp only [Act.put, List.getElem_toArray, List.getElem_cons_succ, List.getElem_cons_zero, List.setIfInBounds_toArray, List.set_cons_zero, List.set_cons_succ]
            clear hcv
            refine wpAny_ready (rs := [3]) (by kernel_rfl) (by simp) ?_
            refine AllReady.cons rfl (fun K hK => ?_) ?_
            · go_simp
              refine (escape_one a _).mono ?_
              rintro e V22 ⟨rfl, g22⟩
              rw [HEA.out]
              have bV22 := bV19.trans (g22.mono bV19.size)
              go_wp2_with fail
              try simp only [Act.put, List.getElem_toArray, List.getElem_cons_succ, List.getElem_cons_zero, List.setIfInBounds_toArray, List.set_cons_zero, List.set_cons_succ]
              refine wpAny_take (i := 4) (v := .string ((⟨#[91]⟩ : ByteArray) ++ EA)) rfl (by kernel_rfl) (by kernel_rfl) (by kernel_rfl) (fun _ _ _ h => h) (Or.inl ⟨by rfl, by intro wz; go_simp; omega⟩) ?_
              try simp only [Act.put, List.getElem_toArray, List.getElem_cons_succ, List.getElem_cons_zero, List.setIfInBounds_toArray, List.set_cons_zero, List.set_cons_succ]
              refine wpAny_take (i := 5) (v := .string ((⟨#[91]⟩ : ByteArray) ++ EA ++ (⟨#[45]⟩ : ByteArray))) rfl (by kernel_rfl) (by kernel_rfl) (by kernel_rfl) (fun _ _ _ h => h) (Or.inl ⟨by rfl, by intro wz; go_simp; omega⟩) ?_
              try simp only [Act.put, List.getElem_toArray, List.getElem_cons_succ, List.getElem_cons_zero, List.setIfInBounds_toArray, List.set_cons_zero, List.set_cons_succ]
              refine wpAny_ready (rs := [9]) (by kernel_rfl) (by simp) ?_
              refine AllReady.cons rfl (fun K hK => ?_) ?_
              · go_simp
                refine (escape_one b _).mono ?_
                rintro e V23 ⟨rfl, g23⟩
                rw [HEB.out]
                have bV23 := bV22.trans (g23.mono bV22.size)
                go_wp2_with fail
                try simp only [Act.put, List.getElem_toArray, List.getElem_cons_succ, List.getElem_cons_zero, List.setIfInBounds_toArray, List.set_cons_zero, List.set_cons_succ]
                refine wpAny_take (i := 10) (v := .string ((⟨#[91]⟩ : ByteArray) ++ EA ++ (⟨#[45]⟩ : ByteArray) ++ EB)) rfl (by kernel_rfl) (by kernel_rfl) (by kernel_rfl) (fun _ _ _ h => h) (Or.inl ⟨by rfl, by intro wz; go_simp; omega⟩) ?_
                try simp only [Act.put, List.getElem_toArray, List.getElem_cons_succ, List.getElem_cons_zero, List.setIfInBounds_toArray, List.set_cons_zero, List.set_cons_succ]
                refine wpAny_take (i := 11) (v := .string ((⟨#[91]⟩ : ByteArray) ++ EA ++ (⟨#[45]⟩ : ByteArray) ++ EB ++ (⟨#[93]⟩ : ByteArray))) rfl (by kernel_rfl) (by kernel_rfl) (by kernel_rfl) (fun _ _ _ h => h) (Or.inl ⟨by rfl, by intro wz; go_simp; omega⟩) ?_
                try simp only [Act.put, List.getElem_toArray, List.getElem_cons_succ, List.getElem_cons_zero, List.setIfInBounds_toArray, List.set_cons_zero, List.set_cons_succ]
                refine wpAny_take (i := 12) (v := .string ((⟨#[91]⟩ : ByteArray) ++ EA ++ (⟨#[45]⟩ : ByteArray) ++ EB ++ (⟨#[93]⟩ : ByteArray))) rfl (by kernel_rfl) (by kernel_rfl) (by kernel_rfl) (fun _ _ _ h => h) (Or.inl ⟨by rfl, by intro wz; go_simp⟩) ?_
                try simp only [Act.put, List.getElem_toArray, List.getElem_cons_succ, List.getElem_cons_zero, List.setIfInBounds_toArray, List.set_cons_zero, List.set_cons_succ]
                refine wpAny_done (by kernel_rfl) ?_ _
                go_wp2_with fail
                go_meet
                case rel => exact ⟨rfl, bV23⟩
              exact AllReady.nil
            exact AllReady.nil
          exact AllReady.nil
        refine AllReady.cons rfl (fun K hK => ?_) ?_
        · have hcv := conv_at V19 n18 b cB19
          go_simp
          refine hK _ _ ?_
          clear hK K
          try simp only [Act.put, List.getElem_toArray, List.getElem_cons_succ, List.getElem_cons_zero, List.setIfInBounds_toArray, List.set_cons_zero, List.set_cons_succ]
          clear hcv
          refine wpAny_ready (rs := [2]) (by kernel_rfl) (by simp) ?_
          refine AllReady.cons rfl (fun K hK => ?_) ?_
          · have hcv := conv_at V19 n19 a cA19
            go_simp
            refine hK _ _ ?_
            clear hK K
            try simp only [Act.put, List.getElem_toArray, List.getElem_cons_succ, List.getElem_cons_zero, List.setIfInBounds_toArray, List.set_cons_zero, List.set_cons_succ]
            clear hcv
            refine wpAny_ready (rs := [3]) (by kernel_rfl) (by simp) ?_
            refine AllReady.cons rfl (fun K hK => ?_) ?_
            · go_simp
              refine (escape_one a _).mono ?_
              rintro e V24 ⟨rfl, g24⟩
              rw [HEA.out]
              have bV24 := bV19.trans (g24.mono bV19.size)
              go_wp2_with fail
              try simp only [Act.put, List.getElem_toArray, List.getElem_cons_succ, List.getElem_cons_zero, List.setIfInBounds_toArray, List.set_cons_zero, List.set_cons_succ]
              refine wpAny_take (i := 4) (v := .string ((⟨#[91]⟩ : ByteArray) ++ EA)) rfl (by kernel_rfl) (by kernel_rfl) (by kernel_rfl) (fun _ _ _ h => h) (Or.inl ⟨by rfl, by intro wz; go_simp; omega⟩) ?_
              try simp only [Act.put, List.getElem_toArray, List.getElem_cons_succ, List.getElem_cons_zero, List.setIfInBounds_toArray, List.set_cons_zero, List.set_cons_succ]
              refine wpAny_take (i := 5) (v := .string ((⟨#[91]⟩ : ByteArray) ++ EA ++ (⟨#[45]⟩ : ByteArray))) rfl (by kernel_rfl) (by kernel_rfl) (by kernel_rfl) (fun _ _ _ h => h) (Or.inl ⟨by rfl, by intro wz; go_simp; omega⟩) ?_
              try simp only [Act.put, List.getElem_toArray, List.getElem_cons_succ, List.getElem_cons_zero, List.setIfInBounds_toArray, List.set_cons_zero, List.set_cons_succ]
              refine wpAny_ready (rs := [9]) (by kernel_rfl) (by simp) ?_
              refine AllReady.cons rfl (fun K hK => ?_) ?_
              · go_simp
                refine (escape_one b _).mono ?_
                rintro e V25 ⟨rfl, g25⟩
                rw [HEB.out]
                have bV25 := bV24.trans (g25.mono bV24.size)
                go_wp2_with fail
                try simp only [Act.put, List.getElem_toArray, List.getElem_cons_succ, List.getElem_cons_zero, List.setIfInBounds_toArray, List.set_cons_zero, List.set_cons_succ]
                refine wpAny_take (i := 10) (v := .string ((⟨#[91]⟩ : ByteArray) ++ EA ++ (⟨#[45]⟩ : ByteArray) ++ EB)) rfl (by kernel_rfl) (by kernel_rfl) (by kernel_rfl) (fun _ _ _ h => h) (Or.inl ⟨by rfl, by intro wz; go_simp; omega⟩) ?_
                try simp only [Act.put, List.getElem_toArray, List.getElem_cons_succ, List.getElem_cons_zero, List.setIfInBounds_toArray, List.set_cons_zero, List.set_cons_succ]
                refine wpAny_take (i := 11) (v := .string ((⟨#[91]⟩ : ByteArray) ++ EA ++ (⟨#[45]⟩ : ByteArray) ++ EB ++ (⟨#[93]⟩ : ByteArray))) rfl (by kernel_rfl) (by kernel_rfl) (by kernel_rfl) (fun _ _ _ h => h) (Or.inl ⟨by rfl, by intro wz; go_simp; omega⟩) ?_
                try simp only [Act.put, List.getElem_toArray, List.getElem_cons_succ, List.getElem_cons_zero, List.setIfInBounds_toArray, List.set_cons_zero, List.set_cons_succ]
                refine wpAny_take (i := 12) (v := .string ((⟨#[91]⟩ : ByteArray) ++ EA ++ (⟨#[45]⟩ : ByteArray) ++ EB ++ (⟨#[93]⟩ : ByteArray))) rfl (by kernel_rfl) (by kernel_rfl) (by kernel_rfl) (fun _ _ _ h => h) (Or.inl ⟨by rfl, by intro wz; go_simp⟩) ?_
                try simp only [Act.put, List.getElem_toArray, List.getElem_cons_succ, List.getElem_cons_zero, List.setIfInBounds_toArray, List.set_cons_zero, List.set_cons_succ]
                refine wpAny_done (by kernel_rfl) ?_ _
                go_wp2_with fail
                go_meet
                case rel => exact ⟨rfl, bV25⟩
              exact AllReady.nil
            exact AllReady.nil
          exact AllReady.nil
        exact AllReady.nil
      refine AllReady.cons rfl (fun K hK => ?_) ?_
      · have hcv := conv_at V18 n18 b cB18
        go_simp
        refine hK _ _ ?_
        clear hK K
        try simp only [Act.put, List.getElem_toArray, List.getElem_cons_succ, List.getElem_cons_zero, List.setIfInBounds_toArray, List.set_cons_zero, List.set_cons_succ]
        clear hcv
        refine wpAny_ready (rs := [1]) (by kernel_rfl) (by simp) ?_
        refine AllReady.cons rfl (fun K hK => ?_) ?_
        · go_simp
          refine hK _ _ ?_
          clear hK K
          try simp only [Act.put, List.getElem_toArray, List.getElem_cons_succ, List.getElem_cons_zero, List.setIfInBounds_toArray, List.set_cons_zero, List.set_cons_succ]
          obtain ⟨V26, hV⟩ : ∃ x, x = World.alloc V18 (.cells #[.int .u8 (a.toNat : Int)] 5) := ⟨_, rfl⟩
          have bV26 : Below w.heap.size w V26 := by rw [hV]; exact bV18.alloc bV18.size _
          have cA26 : V26.cell? ⟨V18.heap.size, 0, none⟩ = some (.int .u8 (a.toNat : Int)) := by rw [hV]; simp [go_sem]
          have lA26 : V18.heap.size < V26.heap.size := by rw [hV]; simp
          have g26 : Below V18.heap.size V18 V26 := by rw [hV]; exact (Below.refl _ _).alloc (Nat.le_refl _) _
          rw [← hV]
          clear hV
          generalize V18.heap.size = n26 at cA26 lA26 ⊢
          refine wpAny_ready (rs := [2]) (by kernel_rfl) (by simp) ?_
          refine AllReady.cons rfl (fun K hK => ?_) ?_
          · have hcv := conv_at V26 n26 a cA26
            go_simp
            refine hK _ _ ?_
            clear hK K
            try simp only [Act.put, List.getElem_toArray, List.getElem_cons_succ, List.getElem_cons_zero, List.setIfInBounds_toArray, List.set_cons_zero, List.set_cons_succ]
            clear hcv
            refine wpAny_ready (rs := [3]) (by kernel_rfl) (by simp) ?_
            refine AllReady.cons rfl (fun K hK => ?_) ?_
            · go_simp
              refine (escape_one a _).mono ?_
              rintro e V27 ⟨rfl, g27⟩
              rw [HEA.out]
              have bV27 := bV26.trans (g27.mono bV26.size)
              go_wp2_with fail
              try simp only [Act.put, List.getElem_toArray, List.getElem_cons_succ, List.getElem_cons_zero, List.setIfInBounds_toArray, List.set_cons_zero, List.set_cons_succ]
              refine wpAny_take (i := 4) (v := .string ((⟨#[91]⟩ : ByteArray) ++ EA)) rfl (by kernel_rfl) (by kernel_rfl) (by kernel_rfl) (fun _ _ _ h => h) (Or.inl ⟨by rfl, by intro wz; go_simp; omega⟩) ?_
              try simp only [Act.put, List.getElem_toArray, List.getElem_cons_succ, List.getElem_cons_zero, List.setIfInBounds_toArray, List.set_cons_zero, List.set_cons_succ]
              refine wpAny_take (i := 5) (v := .string ((⟨#[91]⟩ : ByteArray) ++ EA ++ (⟨#[45]⟩ : ByteArray))) rfl (by kernel_rfl) (by kernel_rfl) (by kernel_rfl) (fun _ _ _ h => h) (Or.inl ⟨by rfl, by intro wz; go_simp; omega⟩) ?_
              try simp only [Act.put, List.getElem_toArray, List.getElem_cons_succ, List.getElem_cons_zero, List.setIfInBounds_toArray, List.set_cons_zero, List.set_cons_succ]
              refine wpAny_ready (rs := [9]) (by kernel_rfl) (by simp) ?_
              refine AllReady.cons rfl (fun K hK => ?_) ?_
              · go_simp
                refine (escape_one b _).mono ?_
                rintro e V28 ⟨rfl, g28⟩
                rw [HEB.out]
                have bV28 := bV27.trans (g28.mono bV27.size)
                go_wp2_with fail
                try simp only [Act.put, List.getElem_toArray, List.getElem_cons_succ, List.getElem_cons_zero, List.setIfInBounds_toArray, List.set_cons_zero, List.set_cons_succ]
                refine wpAny_take (i := 10) (v := .string ((⟨#[91]⟩ : ByteArray) ++ EA ++ (⟨#[45]⟩ : ByteArray) ++ EB)) rfl (by kernel_rfl) (by kernel_rfl) (by kernel_rfl) (fun _ _ _ h => h) (Or.inl ⟨by rfl, by intro wz; go_simp; omega⟩) ?_
                try simp only [Act.put, List.getElem_toArray, List.getElem_cons_succ, List.getElem_cons_zero, List.setIfInBounds_toArray, List.set_cons_zero, List.set_cons_succ]
                refine wpAny_take (i := 11) (v := .string ((⟨#[91]⟩ : ByteArray) ++ EA ++ (⟨#[45]⟩ : ByteArray) ++ EB ++ (⟨#[93]⟩ : ByteArray))) rfl (by kernel_rfl) (by kernel_rfl) (by kernel_rfl) (fun _ _ _ h => h) (Or.inl ⟨by rfl, by intro wz; go_simp; omega⟩) ?_
                try simp only [Act.put, List.getElem_toArray, List.getElem_cons_succ, List.getElem_cons_zero, List.setIfInBounds_toArray, List.set_cons_zero, List.set_cons_succ]
                refine wpAny_take (i := 12) (v := .string ((⟨#[91]⟩ : ByteArray) ++ EA ++ (⟨#[45]⟩ : ByteArray) ++ EB ++ (⟨#[93]⟩ : ByteArray))) rfl (by kernel_rfl) (by kernel_rfl) (by kernel_rfl) (fun _ _ _ h => h) (Or.inl ⟨by rfl, by intro wz; go_simp⟩) ?_
                try simp only [Act.put, List.getElem_toArray, List.getElem_cons_succ, List.getElem_cons_zero, List.setIfInBounds_toArray, List.set_cons_zero, List.set_cons_succ]
                refine wpAny_done (by kernel_rfl) ?_ _
                go_wp2_with fail
                go_meet
                case rel => exact ⟨rfl, bV28⟩
              exact AllReady.nil
            exact AllReady.nil
          exact AllReady.nil
        exact AllReady.nil
      exact AllReady.nil
    exact AllReady.nil
  case rest =>
    obtain ⟨rfl, hb2⟩ := hcut
    go_upto_region 3 with fail
    go_cut [11] from 28 to 38 (fun v wx => v = .string ((⟨#[91]⟩ : ByteArray) ++ EA ++ EB ++ (⟨#[93]⟩ : ByteArray)) ∧ Below w.heap.size w wx)
    case first => as_aux_lemma =>
      refine wp_region_any (by kernel_rfl) ?_
      try (change wpAny _ _ _ _ _ _ _ (World.drew _))
      obtain ⟨V29, hV⟩ : ∃ x, x = World.drew wc := ⟨_, rfl⟩
      have bV29 : Below w.heap.size w V29 := by rw [hV]; exact hb2.drew
      rw [← hV]
      clear hV
      refine wpAny_take (i := 0) (v := .int .u8 (a.toNat : Int)) rfl (by kernel_rfl) (by kernel_rfl) (by kernel_rfl) (fun _ _ _ h => h) (Or.inl ⟨by rfl, by intro wz; go_simp⟩) ?_
      try simp only [Act.put, List.getElem_toArray, List.getElem_cons_zero, List.setIfInBounds_toArray, List.set_cons_zero, List.set_cons_succ]
      refine wpAny_take (i := 5) (v := .int .u8 (b.toNat : Int)) rfl (by kernel_rfl) (by kernel_rfl) (by kernel_rfl) (fun _ _ _ h => h) (Or.inl ⟨by rfl, by intro wz; go_simp⟩) ?_
      try simp only [Act.put, List.getElem_toArray, List.getElem_cons_succ, List.getElem_cons_zero, List.setIfInBounds_toArray, List.set_cons_zero, List.set_cons_succ]
      refine wpAny_ready (rs := [1, 6]) (by kernel_rfl) (by simp) ?_
      refine AllReady.cons rfl (fun K hK => ?_) ?_
      · go_simp
        refine hK _ _ ?_
        clear hK K
        try simp only [Act.put, List.getElem_toArray, List.getElem_cons_succ, List.getElem_cons_zero, List.setIfInBounds_toArray, List.set_cons_zero, List.set_cons_succ]
        obtain ⟨V30, hV⟩ : ∃ x, x = World.alloc V29 (.cells #[.int .u8 (a.toNat : Int)] 5) := ⟨_, rfl⟩
        have bV30 : Below w.heap.size w V30 := by rw [hV]; exact bV29.alloc bV29.size _
        have cA30 : V30.cell? ⟨V29.heap.size, 0, none⟩ = some (.int .u8 (a.toNat : Int)) := by rw [hV]; simp [go_sem]
        have lA30 : V29.heap.size < V30.heap.size := by rw [hV]; simp
        have g30 : Below V29.heap.size V29 V30 := by rw [hV]; exact (Below.refl _ _).alloc (Nat.le_refl _) _
        rw [← hV]
        clear hV
        generalize V29.heap.size = n30 at cA30 lA30 ⊢
        refine wpAny_ready (rs := [2, 6]) (by kernel_rfl) (by simp) ?_
        refine AllReady.cons rfl (fun K hK => ?_) ?_
        · have hcv := conv_at V30 n30 a cA30
          go_simp
          refine hK _ _ ?_
          clear hK K
          try simp only [Act.put, List.getElem_toArray, List.getElem_cons_succ, List.getElem_cons_zero, List.setIfInBounds_toArray, List.set_cons_zero, List.set_cons_succ]
          clear hcv
          refine wpAny_ready (rs := [3, 6]) (by kernel_rfl) (by simp) ?_
          refine AllReady.cons rfl (fun K hK => ?_) ?_
          · go_simp
            refine (escape_one a _).mono ?_
            rintro e V31 ⟨rfl, g31⟩
            rw [HEA.out]
            have bV31 := bV30.trans (g31.mono bV30.size)
            go_wp2_with fail
            try simp only [Act.put, List.getElem_toArray, List.getElem_cons_succ, List.getElem_cons_zero, List.setIfInBounds_toArray, List.set_cons_zero, List.set_cons_succ]
            refine wpAny_take (i := 4) (v := .string ((⟨#[91]⟩ : ByteArray) ++ EA)) rfl (by kernel_rfl) (by kernel_rfl) (by kernel_rfl) (fun _ _ _ h => h) (Or.inl ⟨by rfl, by intro wz; go_simp; omega⟩) ?_
            try simp only [Act.put, List.getElem_toArray, List.getElem_cons_succ, List.getElem_cons_zero, List.setIfInBounds_toArray, List.set_cons_zero, List.set_cons_succ]
            refine wpAny_ready (rs := [6]) (by kernel_rfl) (by simp) ?_
            refine AllReady.cons rfl (fun K hK => ?_) ?_
            · go_simp
              refine hK _ _ ?_
              clear hK K
              try simp only [Act.put, List.getElem_toArray, List.getElem_cons_succ, List.getElem_cons_zero, List.setIfInBounds_toArray, List.set_cons_zero, List.set_cons_succ]
              obtain ⟨V32, hV⟩ : ∃ x, x = World.alloc V31 (.cells #[.int .u8 (b.toNat : Int)] 5) := ⟨_, rfl⟩
              have bV32 : Below w.heap.size w V32 := by rw [hV]; exact bV31.alloc bV31.size _
              have cB32 : V32.cell? ⟨V31.heap.size, 0, none⟩ = some (.int .u8 (b.toNat : Int)) := by rw [hV]; simp [go_sem]
              have lB32 : V31.heap.size < V32.heap.size := by rw [hV]; simp
              have g32 : Below V31.heap.size V31 V32 := by rw [hV]; exact (Below.refl _ _).alloc (Nat.le_refl _) _
              rw [← hV]
              clear hV
              generalize V31.heap.size = n32 at cB32 lB32 ⊢
              refine wpAny_ready (rs := [7]) (by kernel_rfl) (by simp) ?_
              refine AllReady.cons rfl (fun K hK => ?_) ?_
              · have hcv := conv_at V32 n32 b cB32
                go_simp
                refine hK _ _ ?_
                clear hK K
                try simp only [Act.put, List.getElem_toArray, List.getElem_cons_succ, List.getElem_cons_zero, List.setIfInBounds_toArray, List.set_cons_zero, List.set_cons_succ]
                clear hcv
                refine wpAny_ready (rs := [8]) (by kernel_rfl) (by simp) ?_
                refine AllReady.cons rfl (fun K hK => ?_) ?_
                · go_simp
                  refine (escape_one b _).mono ?_
                  rintro e V33 ⟨rfl, g33⟩
                  rw [HEB.out]
                  have bV33 := bV32.trans (g33.mono bV32.size)
                  go_wp2_with fail
                  try simp only [Act.put, List.getElem_toArray, List.getElem_cons_succ, List.getElem_cons_zero, List.setIfInBounds_toArray, List.set_cons_zero, List.set_cons_succ]
                  refine wpAny_take (i := 9) (v := .string ((⟨#[91]⟩ : ByteArray) ++ EA ++ EB)) rfl (by kernel_rfl) (by kernel_rfl) (by kernel_rfl) (fun _ _ _ h => h) (Or.inl ⟨by rfl, by intro wz; go_simp; omega⟩) ?_
                  try simp only [Act.put, List.getElem_toArray, List.getElem_cons_succ, List.getElem_cons_zero, List.setIfInBounds_toArray, List.set_cons_zero, List.set_cons_succ]
                  refine wpAny_take (i := 10) (v := .string ((⟨#[91]⟩ : ByteArray) ++ EA ++ EB ++ (⟨#[93]⟩ : ByteArray))) rfl (by kernel_rfl) (by kernel_rfl) (by kernel_rfl) (fun _ _ _ h => h) (Or.inl ⟨by rfl, by intro wz; go_simp; omega⟩) ?_
                  try simp only [Act.put, List.getElem_toArray, List.getElem_cons_succ, List.getElem_cons_zero, List.setIfInBounds_toArray, List.set_cons_zero, List.set_cons_succ]
                  refine wpAny_take (i := 11) (v := .string ((⟨#[91]⟩ : ByteArray) ++ EA ++ EB ++ (⟨#[93]⟩ : ByteArray))) rfl (by kernel_rfl) (by kernel_rfl) (by kernel_rfl) (fun _ _ _ h => h) (Or.inl ⟨by rfl, by intro wz; go_simp⟩) ?_
                  try simp only [Act.put, List.getElem_toArray, List.getElem_cons_succ, List.getElem_cons_zero, List.setIfInBounds_toArray, List.set_cons_zero, List.set_cons_succ]
                  refine wpAny_done (by kernel_rfl) ?_ _
                  go_wp2_with fail
                  go_meet
                  case rel => exact ⟨rfl, bV33⟩
                exact AllReady.nil
              exact AllReady.nil
            exact AllReady.nil
          refine AllReady.cons rfl (fun K hK => ?_) ?_
          · go_simp
            refine hK _ _ ?_
            clear hK K
            try simp only [Act.put, List.getElem_toArray, List.getElem_cons_succ, List.getElem_cons_zero, List.setIfInBounds_toArray, List.set_cons_zero, List.set_cons_succ]
            obtain ⟨V34, hV⟩ : ∃ x, x = World.alloc V30 (.cells #[.int .u8 (b.toNat : Int)] 5) := ⟨_, rfl⟩
            have bV34 : Below w.heap.size w V34 := by rw [hV]; exact bV30.alloc bV30.size _
            have cB34 : V34.cell? ⟨V30.heap.size, 0, none⟩ = some (.int .u8 (b.toNat : Int)) := by rw [hV]; simp [go_sem]
            have lB34 : V30.heap.size < V34.heap.size := by rw [hV]; simp
            have g34 : Below V30.heap.size V30 V34 := by rw [hV]; exact (Below.refl _ _).alloc (Nat.le_refl _) _
            rw [← hV]
            clear hV
            generalize V30.heap.size = n34 at cB34 lB34 ⊢
            refine wpAny_ready (rs := [3, 7]) (by kernel_rfl) (by simp) ?_
            refine AllReady.cons rfl (fun K hK => ?_) ?_
            · go_simp
              refine (escape_one a _).mono ?_
              rintro e V35 ⟨rfl, g35⟩
              rw [HEA.out]
              have bV35 := bV34.trans (g35.mono bV34.size)
              have cB35 := (g35.cell (p := ⟨n34, 0, none⟩) lB34).trans cB34
              have lB35 : n34 < V35.heap.size := Nat.lt_of_lt_of_le lB34 g35.size
              go_wp2_with fail
              try simp only [Act.put, List.getElem_toArray, List.getElem_cons_succ, List.getElem_cons_zero, List.setIfInBounds_toArray, List.set_cons_zero, List.set_cons_succ]
              refine wpAny_take (i := 4) (v := .string ((⟨#[91]⟩ : ByteArray) ++ EA)) rfl (by kernel_rfl) (by kernel_rfl) (by kernel_rfl) (fun _ _ _ h => h) (Or.inl ⟨by rfl, by intro wz; go_simp; omega⟩) ?_
              try simp only [Act.put, List.getElem_toArray, List.getElem_cons_succ, List.getElem_cons_zero, List.setIfInBounds_toArray, List.set_cons_zero, List.set_cons_succ]
              refine wpAny_ready (rs := [7]) (by kernel_rfl) (by simp) ?_
              refine AllReady.cons rfl (fun K hK => ?_) ?_
              · have hcv := conv_at V35 n34 b cB35
                go_simp
                refine hK _ _ ?_
                clear hK K
                try simp only [Act.put, List.getElem_toArray, List.getElem_cons_succ, List.getElem_cons_zero, List.setIfInBounds_toArray, List.set_cons_zero, List.set_cons_succ]
                clear hcv
                refine wpAny_ready (rs := [8]) (by kernel_rfl) (by simp) ?_
                refine AllReady.cons rfl (fun K hK => ?_) ?_
                · go_simp
                  refine (escape_one b _).mono ?_
                  rintro e V36 ⟨rfl, g36⟩
                  rw [HEB.out]
                  have bV36 := bV35.trans (g36.mono bV35.size)
                  go_wp2_with fail
                  try simp only [Act.put, List.getElem_toArray, List.getElem_cons_succ, List.getElem_cons_zero, List.setIfInBounds_toArray, List.set_cons_zero, List.set_cons_succ]
                  refine wpAny_take (i := 9) (v := .string ((⟨#[91]⟩ : ByteArray) ++ EA ++ EB)) rfl (by kernel_rfl) (by kernel_rfl) (by kernel_rfl) (fun _ _ _ h => h) (Or.inl ⟨by rfl, by intro wz; go_simp; omega⟩) ?_
                  try simp only [Act.put, List.getElem_toArray, List.getElem_cons_succ, List.getElem_cons_zero, List.setIfInBounds_toArray, List.set_cons_zero, List.set_cons_succ]
                  refine wpAny_take (i := 10) (v := .string ((⟨#[91]⟩ : ByteArray) ++ EA ++ EB ++ (⟨#[93]⟩ : ByteArray))) rfl (by kernel_rfl) (by kernel_rfl) (by kernel_rfl) (fun _ _ _ h => h) (Or.inl ⟨by rfl, by intro wz; go_simp; omega⟩) ?_
                  try simp only [Act.put, List.getElem_toArray, List.getElem_cons_succ, List.getElem_cons_zero, List.setIfInBounds_toArray, List.set_cons_zero, List.set_cons_succ]
                  refine wpAny_take (i := 11) (v := .string ((⟨#[91]⟩ : ByteArray) ++ EA ++ EB ++ (⟨#[93]⟩ : ByteArray))) rfl (by kernel_rfl) (by kernel_rfl) (by kernel_rfl) (fun _ _ _ h => h) (Or.inl ⟨by rfl, by intro wz; go_simp⟩) ?_
                  try simp only [Act.put, List.getElem_toArray, List.getElem_cons_succ, List.getElem_cons_zero, List.setIfInBounds_toArray, List.set_cons_zero, List.set_cons_succ]
                  refine wpAny_done (by kernel_rfl) ?_ _
                  go_wp2_with fail
                  go_meet
                  case rel => exact ⟨rfl, bV36⟩
                exact AllReady.nil
              exact AllReady.nil
            refine AllReady.cons rfl (fun K hK => ?_) ?_
            · have hcv := conv_at V34 n34 b cB34
              go_simp
              refine hK _ _ ?_
              clear hK K
              try simp only [Act.put, List.getElem_toArray, List.getElem_cons_succ, List.getElem_cons_zero, List.setIfInBounds_toArray, List.set_cons_zero, List.set_cons_succ]
              clear hcv
              refine wpAny_ready (rs := [3]) (by kernel_rfl) (by simp) ?_
              refine AllReady.cons rfl (fun K hK => ?_) ?_
              · go_simp
                refine (escape_one a _).mono ?_
                rintro e V37 ⟨rfl, g37⟩
                rw [HEA.out]
                have bV37 := bV34.trans (g37.mono bV34.size)
                go_wp2_with fail
                try simp only [Act.put, List.getElem_toArray, List.getElem_cons_succ, List.getElem_cons_zero, List.setIfInBounds_toArray, List.set_cons_zero, List.set_cons_succ]
                refine wpAny_take (i := 4) (v := .string ((⟨#[91]⟩ : ByteArray) ++ EA)) rfl (by kernel_rfl) (by kernel_rfl) (by kernel_rfl) (fun _ _ _ h => h) (Or.inl ⟨by rfl, by intro wz; go_simp; omega⟩) ?_
                try simp only [Act.put, List.getElem_toArray, List.getElem_cons_succ, List.getElem_cons_zero, List.setIfInBounds_toArray, List.set_cons_zero, List.set_cons_succ]
                refine wpAny_ready (rs := [8]) (by kernel_rfl) (by simp) ?_
                refine AllReady.cons rfl (fun K hK => ?_) ?_
                · go_simp
                  refine (escape_one b _).mono ?_
                  rintro e V38 ⟨rfl, g38⟩
                  rw [HEB.out]
                  have bV38 := bV37.trans (g38.mono bV37.size)
                  go_wp2_with fail
                  try simp only [Act.put, List.getElem_toArray, List.getElem_cons_succ, List.getElem_cons_zero, List.setIfInBounds_toArray, List.set_cons_zero, List.set_cons_succ]
                  refine wpAny_take (i := 9) (v := .string ((⟨#[91]⟩ : ByteArray) ++ EA ++ EB)) rfl (by kernel_rfl) (by kernel_rfl) (by kernel_rfl) (fun _ _ _ h => h) (Or.inl ⟨by rfl, by intro wz; go_simp; omega⟩) ?_
                  try simp only [Act.put, List.getElem_toArray, List.getElem_cons_succ, List.getElem_cons_zero, List.setIfInBounds_toArray, List.set_cons_zero, List.set_cons_succ]
                  refine wpAny_take (i := 10) (v := .string ((⟨#[91]⟩ : ByteArray) ++ EA ++ EB ++ (⟨#[93]⟩ : ByteArray))) rfl (by kernel_rfl) (by kernel_rfl) (by kernel_rfl) (fun _ _ _ h => h) (Or.inl ⟨by rfl, by intro wz; go_simp; omega⟩) ?_
                  try simp only [Act.put, List.getElem_toArray, List.getElem_cons_succ, List.getElem_cons_zero, List.setIfInBounds_toArray, List.set_cons_zero, List.set_cons_succ]
                  refine wpAny_take (i := 11) (v := .string ((⟨#[91]⟩ : ByteArray) ++ EA ++ EB ++ (⟨#[93]⟩ : ByteArray))) rfl (by kernel_rfl) (by kernel_rfl) (by kernel_rfl) (fun _ _ _ h => h) (Or.inl ⟨by rfl, by intro wz; go_simp⟩) ?_
                  try simp only [Act.put, List.getElem_toArray, List.getElem_cons_succ, List.getElem_cons_zero, List.setIfInBounds_toArray, List.set_cons_zero, List.set_cons_succ]
                  refine wpAny_done (by kernel_rfl) ?_ _
                  go_wp2_with fail
                  go_meet
                  case rel => exact ⟨rfl, bV38⟩
                exact AllReady.nil
              exact AllReady.nil
            exact AllReady.nil
          exact AllReady.nil
        refine AllReady.cons rfl (fun K hK => ?_) ?_
        · go_simp
          refine hK _ _ ?_
          clear hK K
          try simp only [Act.put, List.getElem_toArray, List.getElem_cons_succ, List.getElem_cons_zero, List.setIfInBounds_toArray, List.set_cons_zero, List.set_cons_succ]
          obtain ⟨V39, hV⟩ : ∃ x, x = World.alloc V30 (.cells #[.int .u8 (b.toNat : Int)] 5) := ⟨_, rfl⟩
          have bV39 : Below w.heap.size w V39 := by rw [hV]; exact bV30.alloc bV30.size _
          have cB39 : V39.cell? ⟨V30.heap.size, 0, none⟩ = some (.int .u8 (b.toNat : Int)) := by rw [hV]; simp [go_sem]
          have lB39 : V30.heap.size < V39.heap.size := by rw [hV]; simp
          have g39 : Below V30.heap.size V30 V39 := by rw [hV]; exact (Below.refl _ _).alloc (Nat.le_refl _) _
          have cA39 := (g39.cell (p := ⟨n30, 0, none⟩) lA30).trans cA30
          have lA39 : n30 < V39.heap.size := Nat.lt_of_lt_of_le lA30 g39.size
          rw [← hV]
          clear hV
          generalize V30.heap.size = n39 at cB39 lB39 ⊢
          refine wpAny_ready (rs := [2, 7]) (by kernel_rfl) (by simp) ?_
          refine AllReady.cons rfl (fun K hK => ?_) ?_
          · have hcv := conv_at V39 n30 a cA39
            go_simp
            refine hK _ _ ?_
            clear hK K
            try simp only [Act.put, List.getElem_toArray, List.getElem_cons_succ, List.getElem_cons_zero, List.setIfInBounds_toArray, List.set_cons_zero, List.set_cons_succ]
            clear hcv
            refine wpAny_ready (rs := [3, 7]) (by kernel_rfl) (by simp) ?_
            refine AllReady.cons rfl (fun K hK => ?_) ?_
            · go_simp
              refine (escape_one a _).mono ?_
              rintro e V40 ⟨rfl, g40⟩
              rw [HEA.out]
              have bV40 := bV39.trans (g40.mono bV39.size)
              have cB40 := (g40.cell (p := ⟨n39, 0, none⟩) lB39).trans cB39
              have lB40 : n39 < V40.heap.size := Nat.lt_of_lt_of_le lB39 g40.size
              go_wp2_with fail
              try simp only [Act.put, List.getElem_toArray, List.getElem_cons_succ, List.getElem_cons_zero, List.setIfInBounds_toArray, List.set_cons_zero, List.set_cons_succ]
              refine wpAny_take (i := 4) (v := .string ((⟨#[91]⟩ : ByteArray) ++ EA)) rfl (by kernel_rfl) (by kernel_rfl) (by kernel_rfl) (fun _ _ _ h => h) (Or.inl ⟨by rfl, by intro wz; go_simp; omega⟩) ?_
              try simp only [Act.put, List.getElem_toArray, List.getElem_cons_succ, List.getElem_cons_zero, List.setIfInBounds_toArray, List.set_cons_zero, List.set_cons_succ]
              refine wpAny_ready (rs := [7]) (by kernel_rfl) (by simp) ?_
              refine AllReady.cons rfl (fun K hK => ?_) ?_
              · have hcv := conv_at V40 n39 b cB40
                go_simp
                refine hK _ _ ?_
                clear hK K
                try simp only [Act.put, List.getElem_toArray, List.getElem_cons_succ, List.getElem_cons_zero, List.setIfInBounds_toArray, List.set_cons_zero, List.set_cons_succ]
                clear hcv
                refine wpAny_ready (rs := [8]) (by kernel_rfl) (by simp) ?_
                refine AllReady.cons rfl (fun K hK => ?_) ?_
                · go_simp
                  refine (escape_one b _).mono ?_
                  rintro e V41 ⟨rfl, g41⟩
                  rw [HEB.out]
                  have bV41 := bV40.trans (g41.mono bV40.size)
                  go_wp2_with fail
                  try simp only [Act.put, List.getElem_toArray, List.getElem_cons_succ, List.getElem_cons_zero, List.setIfInBounds_toArray, List.set_cons_zero, List.set_cons_succ]
                  refine wpAny_take (i := 9) (v := .string ((⟨#[91]⟩ : ByteArray) ++ EA ++ EB)) rfl (by kernel_rfl) (by kernel_rfl) (by kernel_rfl) (fun _ _ _ h => h) (Or.inl ⟨by rfl, by intro wz; go_simp; omega⟩) ?_
                  try simp only [Act.put, List.getElem_toArray, List.getElem_cons_succ, List.getElem_cons_zero, List.setIfInBounds_toArray, List.set_cons_zero, List.set_cons_succ]
                  refine wpAny_take (i := 10) (v := .string ((⟨#[91]⟩ : ByteArray) ++ EA ++ EB ++ (⟨#[93]⟩ : ByteArray))) rfl (by kernel_rfl) (by kernel_rfl) (by kernel_rfl) (fun _ _ _ h => h) (Or.inl ⟨by rfl, by intro wz; go_simp; omega⟩) ?_
                  try simp only [Act.put, List.getElem_toArray, List.getElem_cons_succ, List.getElem_cons_zero, List.setIfInBounds_toArray, List.set_cons_zero, List.set_cons_succ]
                  refine wpAny_take (i := 11) (v := .string ((⟨#[91]⟩ : ByteArray) ++ EA ++ EB ++ (⟨#[93]⟩ : ByteArray))) rfl (by kernel_rfl) (by kernel_rfl) (by kernel_rfl) (fun _ _ _ h => h) (Or.inl ⟨by rfl, by intro wz; go_simp⟩) ?_
                  try simp only [Act.put, List.getElem_toArray, List.getElem_cons_succ, List.getElem_cons_zero, List.setIfInBounds_toArray, List.set_cons_zero, List.set_cons_succ]
                  refine wpAny_done (by kernel_rfl) ?_ _
                  go_wp2_with fail
                  go_meet
                  case rel => exact ⟨rfl, bV41⟩
                exact AllReady.nil
              exact AllReady.nil
            refine AllReady.cons rfl (fun K hK => ?_) ?_
            · have hcv := conv_at V39 n39 b cB39
              go_simp
              refine hK _ _ ?_
              clear hK K
              try simp only [Act.put, List.getElem_toArray, List.getElem_cons_succ, List.getElem_cons_zero, List.setIfInBounds_toArray, List.set_cons_zero, List.set_cons_succ]
              clear hcv
              refine wpAny_ready (rs := [3]) (by kernel_rfl) (by simp) ?_
              refine AllReady.cons rfl (fun K hK => ?_) ?_
              · go_simp
                refine (escape_one a _).mono ?_
                rintro e V42 ⟨rfl, g42⟩
                rw [HEA.out]
                have bV42 := bV39.trans (g42.mono bV39.size)
                go_wp2_with fail
                try simp only [Act.put, List.getElem_toArray, List.getElem_cons_succ, List.getElem_cons_zero, List.setIfInBounds_toArray, List.set_cons_zero, List.set_cons_succ]
                refine wpAny_take (i := 4) (v := .string ((⟨#[91]⟩ : ByteArray) ++ EA)) rfl (by kernel_rfl) (by kernel_rfl) (by kernel_rfl) (fun _ _ _ h => h) (Or.inl ⟨by rfl, by intro wz; go_simp; omega⟩) ?_
                try simp only [Act.put, List.getElem_toArray, List.getElem_cons_succ, List.getElem_cons_zero, List.setIfInBounds_toArray, List.set_cons_zero, List.set_cons_succ]
                refine wpAny_ready (rs := [8]) (by kernel_rfl) (by simp) ?_
                refine AllReady.cons rfl (fun K hK => ?_) ?_
                · go_simp
                  refine (escape_one b _).mono ?_
                  rintro e V43 ⟨rfl, g43⟩
                  rw [HEB.out]
                  have bV43 := bV42.trans (g43.mono bV42.size)
                  go_wp2_with fail
                  try simp only [Act.put, List.getElem_toArray, List.getElem_cons_succ, List.getElem_cons_zero, List.setIfInBounds_toArray, List.set_cons_zero, List.set_cons_succ]
                  refine wpAny_take (i := 9) (v := .string ((⟨#[91]⟩ : ByteArray) ++ EA ++ EB)) rfl (by kernel_rfl) (by kernel_rfl) (by kernel_rfl) (fun _ _ _ h => h) (Or.inl ⟨by rfl, by intro wz; go_simp; omega⟩) ?_
                  try simp only [Act.put, List.getElem_toArray, List.getElem_cons_succ, List.getElem_cons_zero, List.setIfInBounds_toArray, List.set_cons_zero, List.set_cons_succ]
                  refine wpAny_take (i := 10) (v := .string ((⟨#[91]⟩ : ByteArray) ++ EA ++ EB ++ (⟨#[93]⟩ : ByteArray))) rfl (by kernel_rfl) (by kernel_rfl) (by kernel_rfl) (fun _ _ _ h => h) (Or.inl ⟨by rfl, by intro wz; go_simp; omega⟩) ?_
                  try simp only [Act.put, List.getElem_toArray, List.getElem_cons_succ, List.getElem_cons_zero, List.setIfInBounds_toArray, List.set_cons_zero, List.set_cons_succ]
                  refine wpAny_take (i := 11) (v := .string ((⟨#[91]⟩ : ByteArray) ++ EA ++ EB ++ (⟨#[93]⟩ : ByteArray))) rfl (by kernel_rfl) (by kernel_rfl) (by kernel_rfl) (fun _ _ _ h => h) (Or.inl ⟨by rfl, by intro wz; go_simp⟩) ?_
                  try simp only [Act.put, List.getElem_toArray, List.getElem_cons_succ, List.getElem_cons_zero, List.setIfInBounds_toArray, List.set_cons_zero, List.set_cons_succ]
                  refine wpAny_done (by kernel_rfl) ?_ _
                  go_wp2_with fail
                  go_meet
                  case rel => exact ⟨rfl, bV43⟩
                exact AllReady.nil
              exact AllReady.nil
            exact AllReady.nil
          refine AllReady.cons rfl (fun K hK => ?_) ?_
          · have hcv := conv_at V39 n39 b cB39
            go_simp
            refine hK _ _ ?_
            clear hK K
            try simp only [Act.put, List.getElem_toArray, List.getElem_cons_succ, List.getElem_cons_zero, List.setIfInBounds_toArray, List.set_cons_zero, List.set_cons_succ]
            clear hcv
            refine wpAny_ready (rs := [2]) (by kernel_rfl) (by simp) ?_
            refine AllReady.cons rfl (fun K hK => ?_) ?_
            · have hcv := conv_at V39 n30 a cA39
              go_simp
              refine hK _ _ ?_
              clear hK K
              try simp only [Act.put, List.getElem_toArray, List.getElem_cons_succ, List.getElem_cons_zero, List.setIfInBounds_toArray, List.set_cons_zero, List.set_cons_succ]
              clear hcv
              refine wpAny_ready (rs := [3]) (by kernel_rfl) (by simp) ?_
              refine AllReady.cons rfl (fun K hK => ?_) ?_
              · go_simp
                refine (escape_one a _).mono ?_
                rintro e V44 ⟨rfl, g44⟩
                rw [HEA.out]
                have bV44 := bV39.trans (g44.mono bV39.size)
                go_wp2_with fail
                try simp only [Act.put, List.getElem_toArray, List.getElem_cons_succ, List.getElem_cons_zero, List.setIfInBounds_toArray, List.set_cons_zero, List.set_cons_succ]
                refine wpAny_take (i := 4) (v := .string ((⟨#[91]⟩ : ByteArray) ++ EA)) rfl (by kernel_rfl) (by kernel_rfl) (by kernel_rfl) (fun _ _ _ h => h) (Or.inl ⟨by rfl, by intro wz; go_simp; omega⟩) ?_
                try simp only [Act.put, List.getElem_toArray, List.getElem_cons_succ, List.getElem_cons_zero, List.setIfInBounds_toArray, List.set_cons_zero, List.set_cons_succ]
                refine wpAny_ready (rs := [8]) (by kernel_rfl) (by simp) ?_
                refine AllReady.cons rfl (fun K hK => ?_) ?_
                · go_simp
                  refine (escape_one b _).mono ?_
                  rintro e V45 ⟨rfl, g45⟩
                  rw [HEB.out]
                  have bV45 := bV44.trans (g45.mono bV44.size)
                  go_wp2_with fail
                  try simp only [Act.put, List.getElem_toArray, List.getElem_cons_succ, List.getElem_cons_zero, List.setIfInBounds_toArray, List.set_cons_zero, List.set_cons_succ]
                  refine wpAny_take (i := 9) (v := .string ((⟨#[91]⟩ : ByteArray) ++ EA ++ EB)) rfl (by kernel_rfl) (by kernel_rfl) (by kernel_rfl) (fun _ _ _ h => h) (Or.inl ⟨by rfl, by intro wz; go_simp; omega⟩) ?_
                  try simp only [Act.put, List.getElem_toArray, List.getElem_cons_succ, List.getElem_cons_zero, List.setIfInBounds_toArray, List.set_cons_zero, List.set_cons_succ]
                  refine wpAny_take (i := 10) (v := .string ((⟨#[91]⟩ : ByteArray) ++ EA ++ EB ++ (⟨#[93]⟩ : ByteArray))) rfl (by kernel_rfl) (by kernel_rfl) (by kernel_rfl) (fun _ _ _ h => h) (Or.inl ⟨by rfl, by intro wz; go_simp; omega⟩) ?_
                  try simp only [Act.put, List.getElem_toArray, List.getElem_cons_succ, List.getElem_cons_zero, List.setIfInBounds_toArray, List.set_cons_zero, List.set_cons_succ]
                  refine wpAny_take (i := 11) (v := .string ((⟨#[91]⟩ : ByteArray) ++ EA ++ EB ++ (⟨#[93]⟩ : ByteArray))) rfl (by kernel_rfl) (by kernel_rfl) (by kernel_rfl) (fun _ _ _ h => h) (Or.inl ⟨by rfl, by intro wz; go_simp⟩) ?_
                  try simp only [Act.put, List.getElem_toArray, List.getElem_cons_succ, List.getElem_cons_zero, List.setIfInBounds_toArray, List.set_cons_zero, List.set_cons_succ]
                  refine wpAny_done (by kernel_rfl) ?_ _
                  go_wp2_with fail
                  go_meet
                  case rel => exact ⟨rfl, bV45⟩
                exact AllReady.nil
              exact AllReady.nil
            exact AllReady.nil
          exact AllReady.nil
        exact AllReady.nil
      refine AllReady.cons rfl (fun K hK => ?_) ?_
      · go_simp
        refine hK _ _ ?_
        clear hK K
        try simp only [Act.put, List.getElem_toArray, List.getElem_cons_succ, List.getElem_cons_zero, List.setIfInBounds_toArray, List.set_cons_zero, List.set_cons_succ]
        obtain ⟨V46, hV⟩ : ∃ x, x = World.alloc V29 (.cells #[.int .u8 (b.toNat : Int)] 5) := ⟨_, rfl⟩
        have bV46 : Below w.heap.size w V46 := by rw [hV]; exact bV29.alloc bV29.size _
        have cB46 : V46.cell? ⟨V29.heap.size, 0, none⟩ = some (.int .u8 (b.toNat : Int)) := by rw [hV]; simp [go_sem]
        have lB46 : V29.heap.size < V46.heap.size := by rw [hV]; simp
        have g46 : Below V29.heap.size V29 V46 := by rw [hV]; exact (Below.refl _ _).alloc (Nat.le_refl _) _
        rw [← hV]
        clear hV
        generalize V29.heap.size = n46 at cB46 lB46 ⊢
        refine wpAny_ready (rs := [1, 7]) (by kernel_rfl) (by simp) ?_
        refine AllReady.cons rfl (fun K hK => ?_) ?_
        · go_simp
          refine hK _ _ ?_
          clear hK K
          try simp only [Act.put, List.getElem_toArray, List.getElem_cons_succ, List.getElem_cons_zero, List.setIfInBounds_toArray, List.set_cons_zero, List.set_cons_succ]
          obtain ⟨V47, hV⟩ : ∃ x, x = World.alloc V46 (.cells #[.int .u8 (a.toNat : Int)] 5) := ⟨_, rfl⟩
          have bV47 : Below w.heap.size w V47 := by rw [hV]; exact bV46.alloc bV46.size _
          have cA47 : V47.cell? ⟨V46.heap.size, 0, none⟩ = some (.int .u8 (a.toNat : Int)) := by rw [hV]; simp [go_sem]
          have lA47 : V46.heap.size < V47.heap.size := by rw [hV]; simp
          have g47 : Below V46.heap.size V46 V47 := by rw [hV]; exact (Below.refl _ _).alloc (Nat.le_refl _) _
          have cB47 := (g47.cell (p := ⟨n46, 0, none⟩) lB46).trans cB46
          have lB47 : n46 < V47.heap.size := Nat.lt_of_lt_of_le lB46 g47.size
          rw [← hV]
          clear hV
          generalize V46.heap.size = n47 at cA47 lA47 ⊢
          refine wpAny_ready (rs := [2, 7]) (by kernel_rfl) (by simp) ?_
          refine AllReady.cons rfl (fun K hK => ?_) ?_
          · have hcv := conv_at V47 n47 a cA47
            go_simp
            refine hK _ _ ?_
            clear hK K
            try simp only [Act.put, List.getElem_toArray, List.getElem_cons_succ, List.getElem_cons_zero, List.setIfInBounds_toArray, List.set_cons_zero, List.set_cons_succ]
            clear hcv
            refine wpAny_ready (rs := [3, 7]) (by kernel_rfl) (by simp) ?_
            refine AllReady.cons rfl (fun K hK => ?_) ?_
            · go_simp
              refine (escape_one a _).mono ?_
              rintro e V48 ⟨rfl, g48⟩
              rw [HEA.out]
              have bV48 := bV47.trans (g48.mono bV47.size)
              have cB48 := (g48.cell (p := ⟨n46, 0, none⟩) lB47).trans cB47
              have lB48 : n46 < V48.heap.size := Nat.lt_of_lt_of_le lB47 g48.size
              go_wp2_with fail
              try simp only [Act.put, List.getElem_toArray, List.getElem_cons_succ, List.getElem_cons_zero, List.setIfInBounds_toArray, List.set_cons_zero, List.set_cons_succ]
              refine wpAny_take (i := 4) (v := .string ((⟨#[91]⟩ : ByteArray) ++ EA)) rfl (by kernel_rfl) (by kernel_rfl) (by kernel_rfl) (fun _ _ _ h => h) (Or.inl ⟨by rfl, by intro wz; go_simp; omega⟩) ?_
              try simp only [Act.put, List.getElem_toArray, List.getElem_cons_succ, List.getElem_cons_zero, List.setIfInBounds_toArray, List.set_cons_zero, List.set_cons_succ]
              refine wpAny_ready (rs := [7]) (by kernel_rfl) (by simp) ?_
              refine AllReady.cons rfl (fun K hK => ?_) ?_
              · have hcv := conv_at V48 n46 b cB48
                go_simp
                refine hK _ _ ?_
                clear hK K
                try simp only [Act.put, List.getElem_toArray, List.getElem_cons_succ, List.getElem_cons_zero, List.setIfInBounds_toArray, List.set_cons_zero, List.set_cons_succ]
                clear hcv
                refine wpAny_ready (rs := [8]) (by kernel_rfl) (by simp) ?_
                refine AllReady.cons rfl (fun K hK => ?_) ?_
                · go_simp
                  refine (escape_one b _).mono ?_
                  rintro e V49 ⟨rfl, g49⟩
                  rw [HEB.out]
                  have bV49 := bV48.trans (g49.mono bV48.size)
                  go_wp2_with fail
                  try simp only [Act.put, List.getElem_toArray, List.getElem_cons_succ, List.getElem_cons_zero, List.setIfInBounds_toArray, List.set_cons_zero, List.set_cons_succ]
                  refine wpAny_take (i := 9) (v := .string ((⟨#[91]⟩ : ByteArray) ++ EA ++ EB)) rfl (by kernel_rfl) (by kernel_rfl) (by kernel_rfl) (fun _ _ _ h => h) (Or.inl ⟨by rfl, by intro wz; go_simp; omega⟩) ?_
                  try simp only [Act.put, List.getElem_toArray, List.getElem_cons_succ, List.getElem_cons_zero, List.setIfInBounds_toArray, List.set_cons_zero, List.set_cons_succ]
                  refine wpAny_take (i := 10) (v := .string ((⟨#[91]⟩ : ByteArray) ++ EA ++ EB ++ (⟨#[93]⟩ : ByteArray))) rfl (by kernel_rfl) (by kernel_rfl) (by kernel_rfl) (fun _ _ _ h => h) (Or.inl ⟨by rfl, by intro wz; go_simp; omega⟩) ?_
                  try simp only [Act.put, List.getElem_toArray, List.getElem_cons_succ, List.getElem_cons_zero, List.setIfInBounds_toArray, List.set_cons_zero, List.set_cons_succ]
                  refine wpAny_take (i := 11) (v := .string ((⟨#[91]⟩ : ByteArray) ++ EA ++ EB ++ (⟨#[93]⟩ : ByteArray))) rfl (by kernel_rfl) (by kernel_rfl) (by kernel_rfl) (fun _ _ _ h => h) (Or.inl ⟨by rfl, by intro wz; go_simp⟩) ?_
                  try simp only [Act.put, List.getElem_toArray, List.getElem_cons_succ, List.getElem_cons_zero, List.setIfInBounds_toArray, List.set_cons_zero, List.set_cons_succ]
                  refine wpAny_done (by kernel_rfl) ?_ _
                  go_wp2_with fail
                  go_meet
                  case rel => exact ⟨rfl, bV49⟩
                exact AllReady.nil
              exact AllReady.nil
            refine AllReady.cons rfl (fun K hK => ?_) ?_
            · have hcv := conv_at V47 n46 b cB47
              go_simp
              refine hK _ _ ?_
              clear hK K
              try simp only [Act.put, List.getElem_toArray, List.getElem_cons_succ, List.getElem_cons_zero, List.setIfInBounds_toArray, List.set_cons_zero, List.set_cons_succ]
              clear hcv
              refine wpAny_ready (rs := [3]) (by kernel_rfl) (by simp) ?_
              refine AllReady.cons rfl (fun K hK => ?_) ?_
              · go_simp
                refine (escape_one a _).mono ?_
                rintro e V50 ⟨rfl, g50⟩
                rw [HEA.out]
                have bV50 := bV47.trans (g50.mono bV47.size)
                go_wp2_with fail
                try simp only [Act.put, List.getElem_toArray, List.getElem_cons_succ, List.getElem_cons_zero, List.setIfInBounds_toArray, List.set_cons_zero, List.set_cons_succ]
                refine wpAny_take (i := 4) (v := .string ((⟨#[91]⟩ : ByteArray) ++ EA)) rfl (by kernel_rfl) (by kernel_rfl) (by kernel_rfl) (fun _ _ _ h => h) (Or.inl ⟨by rfl, by intro wz; go_simp; omega⟩) ?_
                try simp only [Act.put, List.getElem_toArray, List.getElem_cons_succ, List.getElem_cons_zero, List.setIfInBounds_toArray, List.set_cons_zero, List.set_cons_succ]
                refine wpAny_ready (rs := [8]) (by kernel_rfl) (by simp) ?_
                refine AllReady.cons rfl (fun K hK => ?_) ?_
                · go_simp
                  refine (escape_one b _).mono ?_
                  rintro e V51 ⟨rfl, g51⟩
                  rw [HEB.out]
                  have bV51 := bV50.trans (g51.mono bV50.size)
                  go_wp2_with fail
                  try simp only [Act.put, List.getElem_toArray, List.getElem_cons_succ, List.getElem_cons_zero, List.setIfInBounds_toArray, List.set_cons_zero, List.set_cons_succ]
                  refine wpAny_take (i := 9) (v := .string ((⟨#[91]⟩ : ByteArray) ++ EA ++ EB)) rfl (by kernel_rfl) (by kernel_rfl) (by kernel_rfl) (fun _ _ _ h => h) (Or.inl ⟨by rfl, by intro wz; go_simp; omega⟩) ?_
                  try simp only [Act.put, List.getElem_toArray, List.getElem_cons_succ, List.getElem_cons_zero, List.setIfInBounds_toArray, List.set_cons_zero, List.set_cons_succ]
                  refine wpAny_take (i := 10) (v := .string ((⟨#[91]⟩ : ByteArray) ++ EA ++ EB ++ (⟨#[93]⟩ : ByteArray))) rfl (by kernel_rfl) (by kernel_rfl) (by kernel_rfl) (fun _ _ _ h => h) (Or.inl ⟨by rfl, by intro wz; go_simp; omega⟩) ?_
                  try simp only [Act.put, List.getElem_toArray, List.getElem_cons_succ, List.getElem_cons_zero, List.setIfInBounds_toArray, List.set_cons_zero, List.set_cons_succ]
                  refine wpAny_take (i := 11) (v := .string ((⟨#[91]⟩ : ByteArray) ++ EA ++ EB ++ (⟨#[93]⟩ : ByteArray))) rfl (by kernel_rfl) (by kernel_rfl) (by kernel_rfl) (fun _ _ _ h => h) (Or.inl ⟨by rfl, by intro wz; go_simp⟩) ?_
                  try simp only [Act.put, List.getElem_toArray, List.getElem_cons_succ, List.getElem_cons_zero, List.setIfInBounds_toArray, List.set_cons_zero, List.set_cons_succ]
                  refine wpAny_done (by kernel_rfl) ?_ _
                  go_wp2_with fail
                  go_meet
                  case rel => exact ⟨rfl, bV51⟩
                exact AllReady.nil
              exact AllReady.nil
            exact AllReady.nil
          refine AllReady.cons rfl (fun K hK => ?_) ?_
          · have hcv := conv_at V47 n46 b cB47
            go_simp
            refine hK _ _ ?_
            clear hK K
            try simp only [Act.put, List.getElem_toArray, List.getElem_cons_succ, List.getElem_cons_zero, List.setIfInBounds_toArray, List.set_cons_zero, List.set_cons_succ]
            clear hcv
            refine wpAny_ready (rs := [2]) (by kernel_rfl) (by simp) ?_
            refine AllReady.cons rfl (fun K hK => ?_) ?_
            · have hcv := conv_at V47 n47 a cA47
              go_simp
              refine hK _ _ ?_
              clear hK K
              try simp only [Act.put, List.getElem_toArray, List.getElem_cons_succ, List.getElem_cons_zero, List.setIfInBounds_toArray, List.set_cons_zero, List.set_cons_succ]
              clear hcv
              refine wpAny_ready (rs := [3]) (by kernel_rfl) (by simp) ?_
              refine AllReady.cons rfl (fun K hK => ?_) ?_
              · go_simp
                refine (escape_one a _).mono ?_
                rintro e V52 ⟨rfl, g52⟩
                rw [HEA.out]
                have bV52 := bV47.trans (g52.mono bV47.size)
                go_wp2_with fail
                try simp only [Act.put, List.getElem_toArray, List.getElem_cons_succ, List.getElem_cons_zero, List.setIfInBounds_toArray, List.set_cons_zero, List.set_cons_succ]
                refine wpAny_take (i := 4) (v := .string ((⟨#[91]⟩ : ByteArray) ++ EA)) rfl (by kernel_rfl) (by kernel_rfl) (by kernel_rfl) (fun _ _ _ h => h) (Or.inl ⟨by rfl, by intro wz; go_simp; omega⟩) ?_
                try simp only [Act.put, List.getElem_toArray, List.getElem_cons_succ, List.getElem_cons_zero, List.setIfInBounds_toArray, List.set_cons_zero, List.set_cons_succ]
                refine wpAny_ready (rs := [8]) (by kernel_rfl) (by simp) ?_
                refine AllReady.cons rfl (fun K hK => ?_) ?_
                · go_simp
                  refine (escape_one b _).mono ?_
                  rintro e V53 ⟨rfl, g53⟩
                  rw [HEB.out]
                  have bV53 := bV52.trans (g53.mono bV52.size)
                  go_wp2_with fail
                  try simp only [Act.put, List.getElem_toArray, List.getElem_cons_succ, List.getElem_cons_zero, List.setIfInBounds_toArray, List.set_cons_zero, List.set_cons_succ]
                  refine wpAny_take (i := 9) (v := .string ((⟨#[91]⟩ : ByteArray) ++ EA ++ EB)) rfl (by kernel_rfl) (by kernel_rfl) (by kernel_rfl) (fun _ _ _ h => h) (Or.inl ⟨by rfl, by intro wz; go_simp; omega⟩) ?_
                  try simp only [Act.put, List.getElem_toArray, List.getElem_cons_succ, List.getElem_cons_zero, List.setIfInBounds_toArray, List.set_cons_zero, List.set_cons_succ]
                  refine wpAny_take (i := 10) (v := .string ((⟨#[91]⟩ : ByteArray) ++ EA ++ EB ++ (⟨#[93]⟩ : ByteArray))) rfl (by kernel_rfl) (by kernel_rfl) (by kernel_rfl) (fun _ _ _ h => h) (Or.inl ⟨by rfl, by intro wz; go_simp; omega⟩) ?_
                  try simp only [Act.put, List.getElem_toArray, List.getElem_cons_succ, List.getElem_cons_zero, List.setIfInBounds_toArray, List.set_cons_zero, List.set_cons_succ]
                  refine wpAny_take (i := 11) (v := .string ((⟨#[91]⟩ : ByteArray) ++ EA ++ EB ++ (⟨#[93]⟩ : ByteArray))) rfl (by kernel_rfl) (by kernel_rfl) (by kernel_rfl) (fun _ _ _ h => h) (Or.inl ⟨by rfl, by intro wz; go_simp⟩) ?_
                  try simp only [Act.put, List.getElem_toArray, List.getElem_cons_succ, List.getElem_cons_zero, List.setIfInBounds_toArray, List.set_cons_zero, List.set_cons_succ]
                  refine wpAny_done (by kernel_rfl) ?_ _
                  go_wp2_with fail
                  go_meet
                  case rel => exact ⟨rfl, bV53⟩
                exact AllReady.nil
              exact AllReady.nil
            exact AllReady.nil
          exact AllReady.nil
        refine AllReady.cons rfl (fun K hK => ?_) ?_
        · have hcv := conv_at V46 n46 b cB46
          go_simp
          refine hK _ _ ?_
          clear hK K
          try simp only [Act.put, List.getElem_toArray, List.getElem_cons_succ, List.getElem_cons_zero, List.setIfInBounds_toArray, List.set_cons_zero, List.set_cons_succ]
          clear hcv
          refine wpAny_ready (rs := [1]) (by kernel_rfl) (by simp) ?_
          refine AllReady.cons rfl (fun K hK => ?_) ?_
          · go_simp
            refine hK _ _ ?_
            clear hK K
            try simp only [Act.put, List.getElem_toArray, List.getElem_cons_succ, List.getElem_cons_zero, List.setIfInBounds_toArray, List.set_cons_zero, List.set_cons_succ]
            obtain ⟨V54, hV⟩ : ∃ x, x = World.alloc V46 (.cells #[.int .u8 (a.toNat : Int)] 5) := ⟨_, rfl⟩
            have bV54 : Below w.heap.size w V54 := by rw [hV]; exact bV46.alloc bV46.size _
            have cA54 : V54.cell? ⟨V46.heap.size, 0, none⟩ = some (.int .u8 (a.toNat : Int)) := by rw [hV]; simp [go_sem]
            have lA54 : V46.heap.size < V54.heap.size := by rw [hV]; simp
            have g54 : Below V46.heap.size V46 V54 := by rw [hV]; exact (Below.refl _ _).alloc (Nat.le_refl _) _
            rw [← hV]
            clear hV
            generalize V46.heap.size = n54 at cA54 lA54 ⊢
            refine wpAny_ready (rs := [2]) (by kernel_rfl) (by simp) ?_
            refine AllReady.cons rfl (fun K hK => ?_) ?_
            · have hcv := conv_at V54 n54 a cA54
              go_simp
              refine hK _ _ ?_
              clear hK K
              try simp only [Act.put, List.getElem_toArray, List.getElem_cons_succ, List.getElem_cons_zero, List.setIfInBounds_toArray, List.set_cons_zero, List.set_cons_succ]
              clear hcv
              refine wpAny_ready (rs := [3]) (by kernel_rfl) (by simp) ?_
              refine AllReady.cons rfl (fun K hK => ?_) ?_
              · go_simp
                refine (escape_one a _).mono ?_
                rintro e V55 ⟨rfl, g55⟩
                rw [HEA.out]
                have bV55 := bV54.trans (g55.mono bV54.size)
                go_wp2_with fail
                try simp only [Act.put, List.getElem_toArray, List.getElem_cons_succ, List.getElem_cons_zero, List.setIfInBounds_toArray, List.set_cons_zero, List.set_cons_succ]
                refine wpAny_take (i := 4) (v := .string ((⟨#[91]⟩ : ByteArray) ++ EA)) rfl (by kernel_rfl) (by kernel_rfl) (by kernel_rfl) (fun _ _ _ h => h) (Or.inl ⟨by rfl, by intro wz; go_simp; omega⟩) ?_
                try simp only [Act.put, List.getElem_toArray, List.getElem_cons_succ, List.getElem_cons_zero, List.setIfInBounds_toArray, List.set_cons_zero, List.set_cons_succ]
                refine wpAny_ready (rs := [8]) (by kernel_rfl) (by simp) ?_
                refine AllReady.cons rfl (fun K hK => ?_) ?_
                · go_simp
                  refine (escape_one b _).mono ?_
                  rintro e V56 ⟨rfl, g56⟩
                  rw [HEB.out]
                  have bV56 := bV55.trans (g56.mono bV55.size)
                  go_wp2_with fail
                  try simp only [Act.put, List.getElem_toArray, List.getElem_cons_succ, List.getElem_cons_zero, List.setIfInBounds_toArray, List.set_cons_zero, List.set_cons_succ]
                  refine wpAny_take (i := 9) (v := .string ((⟨#[91]⟩ : ByteArray) ++ EA ++ EB)) rfl (by kernel_rfl) (by kernel_rfl) (by kernel_rfl) (fun _ _ _ h => h) (Or.inl ⟨by rfl, by intro wz; go_simp; omega⟩) ?_
                  try simp only [Act.put, List.getElem_toArray, List.getElem_cons_succ, List.getElem_cons_zero, List.setIfInBounds_toArray, List.set_cons_zero, List.set_cons_succ]
                  refine wpAny_take (i := 10) (v := .string ((⟨#[91]⟩ : ByteArray) ++ EA ++ EB ++ (⟨#[93]⟩ : ByteArray))) rfl (by kernel_rfl) (by kernel_rfl) (by kernel_rfl) (fun _ _ _ h => h) (Or.inl ⟨by rfl, by intro wz; go_simp; omega⟩) ?_
                  try simp only [Act.put, List.getElem_toArray, List.getElem_cons_succ, List.getElem_cons_zero, List.setIfInBounds_toArray, List.set_cons_zero, List.set_cons_succ]
                  refine wpAny_take (i := 11) (v := .string ((⟨#[91]⟩ : ByteArray) ++ EA ++ EB ++ (⟨#[93]⟩ : ByteArray))) rfl (by kernel_rfl) (by kernel_rfl) (by kernel_rfl) (fun _ _ _ h => h) (Or.inl ⟨by rfl, by intro wz; go_simp⟩) ?_
                  try simp only [Act.put, List.getElem_toArray, List.getElem_cons_succ, List.getElem_cons_zero, List.setIfInBounds_toArray, List.set_cons_zero, List.set_cons_succ]
                  refine wpAny_done (by kernel_rfl) ?_ _
                  go_wp2_with fail
                  go_meet
                  case rel => exact ⟨rfl, bV56⟩
                exact AllReady.nil
              exact AllReady.nil
            exact AllReady.nil
          exact AllReady.nil
        exact AllReady.nil
      exact AllReady.nil
    case rest =>
      obtain ⟨rfl, hb3⟩ := hcut
      generalize hST : ((⟨#[91]⟩ : ByteArray) ++ EA ++ (⟨#[45]⟩ : ByteArray) ++ EB ++ (⟨#[93]⟩ : ByteArray)) = ST
      generalize hTT : ((⟨#[91]⟩ : ByteArray) ++ EA ++ EB ++ (⟨#[93]⟩ : ByteArray)) = TT
      have hst : ST.size ≤ 7 := by rw [← hST]; simp only [ByteArray.size_append]; have h1 : (⟨#[91]⟩ : ByteArray).size = 1 := rfl; have h2 : (⟨#[45]⟩ : ByteArray).size = 1 := rfl; have h3 : (⟨#[93]⟩ : ByteArray).size = 1 := rfl; omega
      have htt : TT.size ≤ 7 := by rw [← hTT]; simp only [ByteArray.size_append]; have h1 : (⟨#[91]⟩ : ByteArray).size = 1 := rfl; have h3 : (⟨#[93]⟩ : ByteArray).size = 1 := rfl; omega
      have hst1 : 1 ≤ ST.size := by rw [← hST]; simp only [ByteArray.size_append]; have h1 : (⟨#[91]⟩ : ByteArray).size = 1 := rfl; omega
      have htt1 : 1 ≤ TT.size := by rw [← hTT]; simp only [ByteArray.size_append]; have h1 : (⟨#[91]⟩ : ByteArray).size = 1 := rfl; omega
      have HST2 : Hid (ST = ⟨(91 :: (escL [a] ++ 45 :: (escL [b] ++ [93]))).toArray⟩) := by unfold Hid; rw [← hST, ← HEA.out, ← HEB.out]; apply ByteArray.ext; simp
      have HTT2 : Hid (TT = ⟨(91 :: (escL [a] ++ (escL [b] ++ [93]))).toArray⟩) := by unfold Hid; rw [← hTT, ← HEA.out, ← HEB.out]; apply ByteArray.ext; simp
      clear hST hTT
      by_cases h1 : ((a.toNat : Int) == 94) = true
      · go_wp2_with fail
        go_ret
        exact ⟨rfl, hb3⟩
      rw [Bool.not_eq_true] at h1
      by_cases h2 : ((a.toNat : Int) == 45) = true
      · go_wp2_with fail
        go_ret
        exact ⟨rfl, hb3⟩
      rw [Bool.not_eq_true] at h2
      by_cases h3 : ((b.toNat : Int) == 45) = true
      · go_wp2_with fail
        go_ret
        exact ⟨rfl, hb3⟩
      rw [Bool.not_eq_true] at h3
      by_cases h4 : ((b.toNat : Int) == 94) = true
      · go_wp2_with fail
        go_ret
        exact ⟨rfl, hb3⟩
      rw [Bool.not_eq_true] at h4
      go_upto_region 6 with fail
      go_cut [12] from 54 to 61 (fun v wx => v = .bool (inB a b c) ∧ wx = wc)
      case first => as_aux_lemma =>
        by_cases h5 : a.toNat ≤ c.toNat
        · by_cases h6 : c.toNat ≤ b.toNat
          · go_wp2_with fail
            go_meet
            case rel => exact ⟨by simp [inB, h5, h6], rfl⟩
          · go_wp2_with fail
            go_meet
            case rel => exact ⟨by simp [inB, h6], rfl⟩
        · go_wp2_with fail
          go_meet
          case rel => exact ⟨by simp [inB, h5], rfl⟩
      case rest =>
        obtain ⟨rfl, rfl⟩ := hcut
        go_upto_region 7 with fail
        go_cut [13] from 62 to 69 (fun v wx => v = .bool (hasB a b c) ∧ wx = wc)
        case first => as_aux_lemma =>
          by_cases h5 : ((c.toNat : Int) == a.toNat) = true
          · have e5 : Hid (c = a) := UInt8.toNat_inj.1 (by have := eq_of_beq h5; omega)
            go_wp2_with fail
            go_meet
            case rel => exact ⟨by simp [hasB, e5.out], rfl⟩
          · rw [Bool.not_eq_true] at h5
            have e5 : Hid (¬ c = a) := fun e => by subst e; simp at h5
            by_cases h6 : ((c.toNat : Int) == b.toNat) = true
            · have e6 : Hid (c = b) := UInt8.toNat_inj.1 (by have := eq_of_beq h6; omega)
              go_wp2_with fail
              go_meet
              case rel => exact ⟨by simp [hasB, e6.out], rfl⟩
            · rw [Bool.not_eq_true] at h6
              have e6 : Hid (¬ c = b) := fun e => by subst e; simp at h6
              go_wp2_with fail
              go_meet
              case rel => exact ⟨by simp [hasB, e5.out, e6.out], rfl⟩
        case rest =>
          obtain ⟨rfl, rfl⟩ := hcut
          have HI : Hid (∀ t, matchL (setL t a b) [c] = (inB a b c != t)) := fun t => matchset_c t a b c (fun e => by subst e; simp at h1)
          have HN : Hid (∀ t, matchL (setL t a b) [] = false) := fun t => matchset_none t a b (fun e => by subst e; simp at h1)
          have HH : Hid (∀ t, matchL (twoL t a b) [c] = (hasB a b c != t)) := fun t => matchtwo_c t a b c (fun e => by subst e; simp at h1)
          have HC : Hid (∀ t, matchL (twoL t a b) [c, c] = false) := fun t => matchtwo_cc t a b c (fun e => by subst e; simp at h1)
          generalize inB a b c = I at HI ⊢
          generalize hasB a b c = H at HH ⊢
          clear h1 h2 h3 h4
          go_upto_if 70 with fail
          go_cut [10, 11] from 71 to 76 (fun v10 v11 wx => v10 = .string ⟨(setL turned a b).toArray⟩ ∧ v11 = .string ⟨(twoL turned a b).toArray⟩ ∧ wx = wc)
          case first => as_aux_lemma =>
            cases turned
            · go_wp2_with fail
              go_meet
              case rel => exact ⟨by rw [HST2.out]; rfl, by rw [HTT2.out]; rfl, rfl⟩
            · go_wp2_with fail
              go_meet
              case rel => exact ⟨by rw [HST2.out, cut_one]; rfl, by rw [HTT2.out, cut_one]; rfl, rfl⟩
          case rest =>
            obtain ⟨rfl, rfl, rfl⟩ := hcut
            obtain ⟨SX, HSX⟩ : ∃ SX : ByteArray, Hid ((⟨(setL turned a b).toArray⟩ : ByteArray) = SX) := ⟨_, rfl⟩
            obtain ⟨TX, HTX⟩ : ∃ TX : ByteArray, Hid ((⟨(twoL turned a b).toArray⟩ : ByteArray) = TX) := ⟨_, rfl⟩
            rw [HSX.out, HTX.out]
            have hsx : SX.size < 4294967296 := by rw [← HSX.out, str_size]; have := setL_length turned a b; omega
            have htx : TX.size < 4294967296 := by rw [← HTX.out, str_size]; have := twoL_length turned a b; omega
            have M1 : Hid (matchL SX.data.toList [c] = (I != turned)) := by rw [← HSX.out, str_data]; exact HI.out _
            have M2 : Hid (matchL TX.data.toList [c] = (H != turned)) := by rw [← HTX.out, str_data]; exact HH.out _
            have M3 : Hid (matchL SX.data.toList [] = false) := by rw [← HSX.out, str_data]; exact HN.out _
            have M4 : Hid (matchL TX.data.toList [c, c] = false) := by rw [← HTX.out, str_data]; exact HC.out _
            have HSX2 : Hid _ := hsx
            have HTX2 : Hid _ := htx
            clear hsx htx HSX HTX HI HN HH HC
            have hcv := conv_at (wc.alloc (.cells #[.int .u8 (c.toNat : Int)] 5)) wc.heap.size c (by simp [go_sem])
            go_wp2_with fail
            refine (match_any SX ⟨#[c]⟩ HSX2.out (by show (1 : Nat) < _; decide) _).mono ?_
            rintro e w5 ⟨rfl, hb5⟩
            rw [show (⟨#[c]⟩ : ByteArray).data.toList = [c] from rfl, M1.out]
            clear hcv
            go_wp2_with fail
            refine (match_any TX ⟨#[c]⟩ HTX2.out (by show (1 : Nat) < _; decide) _).mono ?_
            rintro e w6 ⟨rfl, hb6⟩
            rw [show (⟨#[c]⟩ : ByteArray).data.toList = [c] from rfl, M2.out]
            go_wp2_with fail
            refine (match_any SX ⟨#[]⟩ HSX2.out (by show (0 : Nat) < _; decide) _).mono ?_
            rintro e w7 ⟨rfl, hb7⟩
            rw [show (⟨#[]⟩ : ByteArray).data.toList = [] from rfl, M3.out]
            go_wp2_with fail
            refine (match_any TX _ HTX2.out (cc_size c) _).mono ?_
            rintro e w8 ⟨rfl, hb8⟩
            rw [cc_data, M4.out]
            go_wp2_with fail
            go_ret
            have b4 := hb3.alloc hb3.size (.cells #[.int .u8 (c.toNat : Int)] 5)
            have b5 := b4.trans (hb5.mono b4.size)
            have b6 := b5.trans (hb6.mono b5.size)
            have b7 := b6.trans (hb7.mono b6.size)
            exact ⟨ret_bool (by first | rfl | simp), b7.trans (hb8.mono b7.size)⟩
end Go.Proofs.Yticmoepamnddbaa

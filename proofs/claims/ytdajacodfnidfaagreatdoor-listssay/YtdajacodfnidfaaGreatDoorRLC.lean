/- Numbers' texts; Count; Same. -/
import Derived.Test.YtdajacodfnidfaaGreatDoorFiles
import Derived.Test.YtdajacodfnidfaaGreatDoorShelf6
import Derived.Lib.TrimByte
import Derived.Test.YtdajacodfnidfaaGreatDoorRefB
import Derived.Test.YtdajacodfnidfaaGreatDoorShelf3
import Derived.Test.YtdajacodfnidfaaGreatDoorShelf5
import Derived.Test.YtdajacodfnidfaaGreatDoorLists
import Derived.Deep.RegionHeld3
import Derived.Laws.IdiomStrings
import Derived.Lib.ItoaNum
import Derived.Lib.AppendIntMem
/-! Trim, the program's and the document's. -/
namespace Go.Proofs.YtdajacodfnidfaaGreatDoor
open Go.RowKit Go.Shelf

theorem trim_any (s : ByteArray) (hs : s.size < 4294967296) (w : World) : Calls Tryz.prog 24 #[.string s] w fun e w' => e = .returned (.string ⟨(Lib.trimRightB s.data.toList 10).toArray⟩) ∧ w' = w := by
  go_enter Tryz.func24, Tryz.ntmps24
  go_wp2_with fail
  refine (Tryz.strings_TrimRight_one s 10 (by decide) w (by omega)).mono ?_
  rintro e w1 ⟨rfl, hw1⟩
  subst hw1
  go_wp2_with fail
  go_ret
  exact ⟨rfl, rfl⟩
theorem trim_snoc (u : List UInt8) : Lib.trimRightB (u ++ [10]) 10 = Lib.trimRightB u 10 := by simp [Lib.trimRightB]
theorem trim_stop (u : List UInt8) (c : UInt8) (h : (c == 10) = false) : Lib.trimRightB (u ++ [c]) 10 = u ++ [c] := by simp [Lib.trimRightB, h]
theorem ext_snoc (u : List UInt8) (c : UInt8) : (⟨(u ++ [c]).toArray⟩ : ByteArray).extract 0 u.length = ⟨u.toArray⟩ := by
  apply ByteArray.ext
  rw [ByteArray.data_extract]
  simp
theorem snoc_of (t : List UInt8) : t = [] ∨ ∃ u c, t = u ++ [c] := by
  rcases List.eq_nil_or_concat t with h | ⟨u, c, h⟩
  · exact .inl h
  · exact .inr ⟨u, c, by rw [h, List.concat_eq_append]⟩
theorem last_at (u : List UInt8) (c : UInt8) : ∀ h, (⟨(u ++ [c]).toArray⟩ : ByteArray)[u.length]'h = c := by
  intro h
  show ((u ++ [c]).toArray)[u.length]'(by simp) = c
  simp
set_option maxRecDepth 100000 in
set_option maxHeartbeats 2000000 in
theorem rtrim_any (s : List UInt8) (hs : s.length < 4294967296) (w : World) : Calls Tryz.prog 25 #[.string ⟨s.toArray⟩] w fun e w' => e = .returned (.string ⟨(Lib.trimRightB s 10).toArray⟩) ∧ w' = w := by
  go_enter Tryz.func25, Tryz.ntmps25
  go_wp2_with fail
  go_loopw [0] (fun v0 wr => ∃ t : List UInt8, v0 = .string ⟨t.toArray⟩ ∧ t.length ≤ s.length ∧ Hid (Lib.trimRightB t 10 = Lib.trimRightB s 10) ∧ wr = w) (fun v0 _ => (match v0 with | .string b => b.size | _ => 0))
  case atStart => exact ⟨s, rfl, Nat.le_refl _, rfl, rfl⟩
  case round =>
    obtain ⟨t, rfl, ht, HT, rfl⟩ := hrel
    have hst : (⟨t.toArray⟩ : ByteArray).size = t.length := str_size' t
    rcases snoc_of t with rfl | ⟨u, c, rfl⟩
    · go_wp2_with fail
      go_ret
      exact ⟨by rw [← HT.out]; rfl, rfl⟩
    · have hl := last_at u c
      have hul : (u ++ [c]).length = u.length + 1 := by simp
      have hex := ext_snoc u c
      have hsu : (⟨u.toArray⟩ : ByteArray).size = u.length := str_size' u
      rw [hul] at hst ht
      cases hc : (c == 10)
      · have HS : Hid (Lib.trimRightB s 10 = u ++ [c]) := by unfold Hid; rw [← HT.out]; exact trim_stop u c hc
        have hc' : ((c.toNat : Int) == 10) = false := by
          rw [beq_eq_false_iff_ne] at hc ⊢
          intro e
          exact hc (UInt8.toNat_inj.1 (by rw [show (10 : UInt8).toNat = 10 from rfl]; omega))
        go_wp2_with fail
        go_ret
        exact ⟨by rw [HS.out]; rfl, rfl⟩
      · have hce : c = 10 := by simpa using hc
        have HS : Hid (Lib.trimRightB u 10 = Lib.trimRightB s 10) := by
          unfold Hid
          rw [← HT.out, hce]
          exact (trim_snoc u).symm
        have hc' : ((c.toNat : Int) == 10) = true := by rw [hce]; rfl
        clear hc hce
        go_wp2_with fail
        exact ⟨⟨u, by simp, by omega, HS.out, trivial⟩, by simp; omega⟩
end Go.Proofs.YtdajacodfnidfaaGreatDoor
namespace Go.Proofs.YtdajacodfnidfaaGreatDoor
open Go.RowKit Go.Shelf

theorem u8_of (d : Nat) (h : d < 10) : (UInt8.ofNat (48 + d)).toNat = 48 + d := by
  rw [UInt8.toNat_ofNat']; omega
theorem dec_small (u : Nat) (h : u < 10) : Lib.decDigits u = [UInt8.ofNat (48 + u)] := by rw [Lib.decDigits, dif_pos h]
theorem dec_big (u : Nat) (h : ¬ u < 10) : Lib.decDigits u = Lib.decDigits (u / 10) ++ [UInt8.ofNat (48 + u % 10)] := by rw [Lib.decDigits, dif_neg h]
theorem dec_len (u k : Nat) (hk : 1 ≤ k) (h : u < 10 ^ k) : (Lib.decDigits u).length ≤ k := by
  induction u using Nat.strongRecOn generalizing k with
  | _ u ih =>
    by_cases h1 : u < 10
    · rw [dec_small u h1]; simpa using hk
    · rw [dec_big u h1, List.length_append]
      have hk2 : 2 ≤ k := by
        rcases Nat.lt_or_ge k 2 with hh | hh
        · have : k = 1 := by omega
          subst this; omega
        · exact hh
      obtain ⟨j, rfl⟩ : ∃ j, k = j + 1 := ⟨k - 1, by omega⟩
      rw [Nat.pow_succ] at h
      have := ih (u / 10) (by omega) j (by omega) (by omega)
      simp; omega
theorem eq_of_data {a b : ByteArray} (h : a.data.toList = b.data.toList) : a = b := by
  obtain ⟨⟨x⟩⟩ := a; obtain ⟨⟨y⟩⟩ := b
  have h' : x = y := h
  rw [h']
theorem ret_str {a b : ByteArray} (h : a = b) : Ending.returned (.string a) = .returned (.string b) := by rw [h]

theorem conv_at (W : World) (b : Nat) (c : UInt8) (h : W.cell? ⟨b, 0, none⟩ = some (.int .u8 (c.toNat : Int))) :
    (convert 56 9 (.slice (some ⟨b, 0, none⟩) 1 1)).run Tryz.prog W = .ok (.string ⟨#[c]⟩) W := by
  refine run_convert_bytes_back (P := Tryz.prog) W 56 9 5 ⟨b, 0, none⟩ 1 [c] Tryz.underlying56 Tryz.underlying5 Tryz.underlying9 ?_
  intro j hj
  obtain rfl : j = 0 := by simp at hj; exact hj
  simpa [Addr.add] using h
/-- A digit's byte. -/
def dig8 (d : Nat) : UInt8 := UInt8.ofNat (48 + d)
theorem conv_dig (W : World) (b d : Nat) (hd : d < 10) (h : W.cell? ⟨b, 0, none⟩ = some (.int .u8 (48 + (d : Int)))) :
    (convert 56 9 (.slice (some ⟨b, 0, none⟩) 1 1)).run Tryz.prog W = .ok (.string ⟨#[dig8 d]⟩) W :=
  conv_at W b (dig8 d) (by rw [h, dig8, u8_of d hd]; simp)

set_option maxRecDepth 100000 in
set_option maxHeartbeats 400000 in
theorem rnum_small (n : Nat) (w : World) (hn : n < 10) :
    Calls Tryz.prog 22 #[.int .i64 n] w fun e w' => e = .returned (.string ⟨(Lib.decDigits n).toArray⟩) ∧ Below w.heap.size w w' := by
  rw [dec_small n hn, show UInt8.ofNat (48 + n) = dig8 n from rfl]
  have hcv := conv_dig (w.alloc (.cells #[.int .u8 (48 + (n : Int))] 5)) w.heap.size n hn (by simp [go_sem])
  go_enter Tryz.func22, Tryz.ntmps22
  go_wp2
  go_ret
  exact ⟨rfl, (Below.refl _ _).alloc (Nat.le_refl _) _⟩

set_option linter.unusedSimpArgs false in
set_option maxHeartbeats 1000000 in
theorem rnum_pos : ∀ (m n : Nat), n ≤ m → n < 9223372036854775808 → ∀ w : World,
    Calls Tryz.prog 22 #[.int .i64 n] w fun e w' => e = .returned (.string ⟨(Lib.decDigits n).toArray⟩) ∧ Below w.heap.size w w' := by
  intro m
  induction m with
  | zero => intro n hn _ w; exact rnum_small n w (by omega)
  | succ m ih =>
    intro n hn hb w
    by_cases h10 : n < 10
    · exact rnum_small n w h10
    · obtain ⟨q, hq⟩ : ∃ q : Nat, q = n / 10 := ⟨_, rfl⟩
      obtain ⟨d, hd0⟩ : ∃ d : Nat, d = n % 10 := ⟨_, rfl⟩
      have hd : d < 10 := by omega
      have hlen := dec_len q 18 (by omega) (by omega)
      obtain ⟨A, hA⟩ : ∃ A : ByteArray, A = ⟨(Lib.decDigits q).toArray⟩ := ⟨_, rfl⟩
      have hAs : A.size ≤ 18 := by rw [hA]; show (Lib.decDigits q).toArray.size ≤ 18; simpa using hlen
      have hAs2 : A.size ≤ 9223372036854775806 := by omega
      have hfin : A ++ ⟨#[dig8 d]⟩ = ⟨(Lib.decDigits n).toArray⟩ := by
        apply eq_of_data
        rw [dec_big n h10, ← hq, ← hd0, ByteArray.data_append, hA]
        simp [dig8]
      have ih2 := ih q (by omega) (by omega)
      rw [← hA] at ih2
      have hq1 : IntKind.i64.wrap ((n : Int) / 10) = (q : Int) := by rw [IntKind.wrap_i64]; omega
      have ht : (n : Int).tmod 10 = (d : Int) := by rw [Int.tmod_eq_emod_of_nonneg (by omega)]; omega
      have h5 : IntKind.i64.wrap (48 + (d : Int)) = 48 + (d : Int) := by rw [IntKind.wrap_i64]; omega
      have h6 : IntKind.u8.wrap (48 + (d : Int)) = 48 + (d : Int) := by rw [IntKind.wrap_u8]; omega
      have IH : Hid _ := ih2
      have HA : Hid _ := hfin
      have hb0 : Below w.heap.size w w.drew := (Below.refl _ _).drew
      have hb2 : Below w.heap.size w (w.alloc (.cells #[.int .u8 (48 + (d : Int))] 5)).drew := ((Below.refl _ _).alloc (Nat.le_refl _) _).drew
      have hlt : decide ((n : Int) < 0) = false := decide_eq_false (by omega)
      have h10' : decide ((n : Int) < 10) = false := decide_eq_false (by omega)
      have hlt2 : ¬ (n : Int) < 0 := by omega
      have h102 : ¬ (n : Int) < 10 := by omega
      clear ih ih2 hfin hA hq hd0 hlen hn hb
      go_enter Tryz.func22, Tryz.ntmps22
      go_wp2_with fail
      refine wp_region_noPanic ?_
      refine wp_region_any (by kernel_rfl) ?_
      try (change wpAny _ _ _ _ _ _ _ (World.drew _))
      refine wpAny_take (i := 0) (v := .int .i64 (n : Int)) rfl (by kernel_rfl) (by kernel_rfl) (by kernel_rfl) (fun _ _ _ h => h) (Or.inl ⟨by rfl, by intro wz; go_simp⟩) ?_
      try simp only [Act.put, List.getElem_toArray, List.getElem_cons_succ, List.getElem_cons_zero, List.setIfInBounds_toArray, List.set_cons_zero, List.set_cons_succ]
      refine wpAny_take (i := 1) (v := .int .i64 (q : Int)) rfl (by kernel_rfl) (by kernel_rfl) (by kernel_rfl) (fun _ _ _ h => h) (Or.inl ⟨by rfl, by intro wz; go_simp⟩) ?_
      try simp only [Act.put, List.getElem_toArray, List.getElem_cons_succ, List.getElem_cons_zero, List.setIfInBounds_toArray, List.set_cons_zero, List.set_cons_succ]
      refine wpAny_take (i := 3) (v := .int .i64 (n : Int)) rfl (by kernel_rfl) (by kernel_rfl) (by kernel_rfl) (fun _ _ _ h => h) (Or.inl ⟨by rfl, by intro wz; go_simp⟩) ?_
      try simp only [Act.put, List.getElem_toArray, List.getElem_cons_succ, List.getElem_cons_zero, List.setIfInBounds_toArray, List.set_cons_zero, List.set_cons_succ]
      refine wpAny_take (i := 4) (v := .int .i64 (d : Int)) rfl (by kernel_rfl) (by kernel_rfl) (by kernel_rfl) (fun _ _ _ h => h) (Or.inl ⟨by rfl, by intro wz; go_simp⟩) ?_
      try simp only [Act.put, List.getElem_toArray, List.getElem_cons_succ, List.getElem_cons_zero, List.setIfInBounds_toArray, List.set_cons_zero, List.set_cons_succ]
      refine wpAny_take (i := 5) (v := .int .i64 (48 + (d : Int))) rfl (by kernel_rfl) (by kernel_rfl) (by kernel_rfl) (fun _ _ _ h => h) (Or.inl ⟨by rfl, by intro wz; go_simp⟩) ?_
      try simp only [Act.put, List.getElem_toArray, List.getElem_cons_succ, List.getElem_cons_zero, List.setIfInBounds_toArray, List.set_cons_zero, List.set_cons_succ]
      refine wpAny_take (i := 6) (v := .int .u8 (48 + (d : Int))) rfl (by kernel_rfl) (by kernel_rfl) (by kernel_rfl) (fun _ _ _ h => h) (Or.inl ⟨by rfl, by intro wz; go_simp⟩) ?_
      try simp only [Act.put, List.getElem_toArray, List.getElem_cons_succ, List.getElem_cons_zero, List.setIfInBounds_toArray, List.set_cons_zero, List.set_cons_succ]
      refine wpAny_ready (rs := [2, 7]) (by kernel_rfl) (by simp) ?_
      refine AllReady.cons rfl (fun K hK => ?_) ?_
      · go_simp
        refine (IH.out _).mono ?_
        rintro e w1 ⟨rfl, hb1⟩
        go_wp2_with fail
        try simp only [Act.put, List.getElem_toArray, List.getElem_cons_succ, List.getElem_cons_zero, List.setIfInBounds_toArray, List.set_cons_zero, List.set_cons_succ]
        refine wpAny_ready (rs := [7]) (by kernel_rfl) (by simp) ?_
        refine AllReady.cons rfl (fun K hK => ?_) ?_
        · go_simp
          refine hK _ _ ?_
          clear hK K
          try simp only [Act.put, List.getElem_toArray, List.getElem_cons_succ, List.getElem_cons_zero, List.setIfInBounds_toArray, List.set_cons_zero, List.set_cons_succ]
          refine wpAny_ready (rs := [8]) (by kernel_rfl) (by simp) ?_
          refine AllReady.cons rfl (fun K hK => ?_) ?_
          · have hcv := conv_dig (w1.alloc (.cells #[.int .u8 (48 + (d : Int))] 5)) w1.heap.size d hd (by simp [go_sem])
            go_simp
            refine hK _ _ ?_
            clear hK K
            try simp only [Act.put, List.getElem_toArray, List.getElem_cons_succ, List.getElem_cons_zero, List.setIfInBounds_toArray, List.set_cons_zero, List.set_cons_succ]
            refine wpAny_take (i := 9) (v := .string (A ++ ⟨#[dig8 d]⟩)) rfl (by kernel_rfl) (by kernel_rfl) (by kernel_rfl) (fun _ _ _ h => h) (Or.inl ⟨by rfl, by intro wz; go_simp⟩) ?_
            try simp only [Act.put, List.getElem_toArray, List.getElem_cons_succ, List.getElem_cons_zero, List.setIfInBounds_toArray, List.set_cons_zero, List.set_cons_succ]
            refine wpAny_take (i := 10) (v := .string (A ++ ⟨#[dig8 d]⟩)) rfl (by kernel_rfl) (by kernel_rfl) (by kernel_rfl) (fun _ _ _ h => h) (Or.inl ⟨by rfl, by intro wz; go_simp⟩) ?_
            try simp only [Act.put, List.getElem_toArray, List.getElem_cons_succ, List.getElem_cons_zero, List.setIfInBounds_toArray, List.set_cons_zero, List.set_cons_succ]
            refine wpAny_done (by kernel_rfl) ?_ _
            refine NoPanic.normal ?_
            go_wp2_with fail
            go_ret
            exact ⟨ret_str HA.out, (hb0.trans hb1).alloc (hb0.trans hb1).size _⟩
          exact AllReady.nil
        exact AllReady.nil
      refine AllReady.cons rfl (fun K hK => ?_) ?_
      · go_simp
        refine hK _ _ ?_
        clear hK K
        try simp only [Act.put, List.getElem_toArray, List.getElem_cons_succ, List.getElem_cons_zero, List.setIfInBounds_toArray, List.set_cons_zero, List.set_cons_succ]
        refine wpAny_ready (rs := [2, 8]) (by kernel_rfl) (by simp) ?_
        refine AllReady.cons rfl (fun K hK => ?_) ?_
        · go_simp
          refine (IH.out _).mono ?_
          rintro e w1 ⟨rfl, hb1⟩
          go_wp2_with fail
          try simp only [Act.put, List.getElem_toArray, List.getElem_cons_succ, List.getElem_cons_zero, List.setIfInBounds_toArray, List.set_cons_zero, List.set_cons_succ]
          refine wpAny_ready (rs := [8]) (by kernel_rfl) (by simp) ?_
          refine AllReady.cons rfl (fun K hK => ?_) ?_
          · have hcv := conv_dig w1 w.heap.size d hd (by rw [hb1.cell (by simp)]; simp [go_sem])
            go_simp
            refine hK _ _ ?_
            clear hK K
            try simp only [Act.put, List.getElem_toArray, List.getElem_cons_succ, List.getElem_cons_zero, List.setIfInBounds_toArray, List.set_cons_zero, List.set_cons_succ]
            refine wpAny_take (i := 9) (v := .string (A ++ ⟨#[dig8 d]⟩)) rfl (by kernel_rfl) (by kernel_rfl) (by kernel_rfl) (fun _ _ _ h => h) (Or.inl ⟨by rfl, by intro wz; go_simp⟩) ?_
            try simp only [Act.put, List.getElem_toArray, List.getElem_cons_succ, List.getElem_cons_zero, List.setIfInBounds_toArray, List.set_cons_zero, List.set_cons_succ]
            refine wpAny_take (i := 10) (v := .string (A ++ ⟨#[dig8 d]⟩)) rfl (by kernel_rfl) (by kernel_rfl) (by kernel_rfl) (fun _ _ _ h => h) (Or.inl ⟨by rfl, by intro wz; go_simp⟩) ?_
            try simp only [Act.put, List.getElem_toArray, List.getElem_cons_succ, List.getElem_cons_zero, List.setIfInBounds_toArray, List.set_cons_zero, List.set_cons_succ]
            refine wpAny_done (by kernel_rfl) ?_ _
            refine NoPanic.normal ?_
            go_wp2_with fail
            go_ret
            exact ⟨ret_str HA.out, hb2.trans (hb1.mono (by simp))⟩
          exact AllReady.nil
        refine AllReady.cons rfl (fun K hK => ?_) ?_
        · have hcv := conv_dig (w.alloc (.cells #[.int .u8 (48 + (d : Int))] 5)).drew w.heap.size d hd (by simp [go_sem])
          go_simp
          refine hK _ _ ?_
          clear hK K
          try simp only [Act.put, List.getElem_toArray, List.getElem_cons_succ, List.getElem_cons_zero, List.setIfInBounds_toArray, List.set_cons_zero, List.set_cons_succ]
          refine wpAny_ready (rs := [2]) (by kernel_rfl) (by simp) ?_
          refine AllReady.cons rfl (fun K hK => ?_) ?_
          · go_simp
            refine (IH.out _).mono ?_
            rintro e w1 ⟨rfl, hb1⟩
            go_wp2_with fail
            try simp only [Act.put, List.getElem_toArray, List.getElem_cons_succ, List.getElem_cons_zero, List.setIfInBounds_toArray, List.set_cons_zero, List.set_cons_succ]
            refine wpAny_take (i := 9) (v := .string (A ++ ⟨#[dig8 d]⟩)) rfl (by kernel_rfl) (by kernel_rfl) (by kernel_rfl) (fun _ _ _ h => h) (Or.inl ⟨by rfl, by intro wz; go_simp⟩) ?_
            try simp only [Act.put, List.getElem_toArray, List.getElem_cons_succ, List.getElem_cons_zero, List.setIfInBounds_toArray, List.set_cons_zero, List.set_cons_succ]
            refine wpAny_take (i := 10) (v := .string (A ++ ⟨#[dig8 d]⟩)) rfl (by kernel_rfl) (by kernel_rfl) (by kernel_rfl) (fun _ _ _ h => h) (Or.inl ⟨by rfl, by intro wz; go_simp⟩) ?_
            try simp only [Act.put, List.getElem_toArray, List.getElem_cons_succ, List.getElem_cons_zero, List.setIfInBounds_toArray, List.set_cons_zero, List.set_cons_succ]
            refine wpAny_done (by kernel_rfl) ?_ _
            refine NoPanic.normal ?_
            go_wp2_with fail
            go_ret
            exact ⟨ret_str HA.out, hb2.trans (hb1.mono (by simp))⟩
          exact AllReady.nil
        exact AllReady.nil
      exact AllReady.nil

/-- The library's table lies where it should. -/
def Pow (w : World) : Prop := Lib.TabIs Tryz.prog w "internal/strconv.uint64pow10" .u64 Lib.pow10Tab
set_option maxHeartbeats 400000 in
theorem decimal_any (n : Int) (w : World) (h0 : -9223372036854775808 ≤ n) (h1 : n ≤ 9223372036854775807) (ht : Pow w) :
    Calls Tryz.prog 50 #[.int .i64 n] w fun e w' => e = .returned (.string ⟨(Lib.itoa n).toArray⟩) ∧ Below w.heap.size w w' := by
  go_enter Tryz.func50, Tryz.ntmps50
  go_wp2_with (go_at_call 77; refine (Tryz.strconv_Itoa _ h0 h1 _ ht).mono ?_; rintro e w' ⟨rfl, k, os, rfl⟩)
  go_ret
  exact ⟨rfl, Lib.below_grow _ _ (Nat.le_refl _) _ _⟩
theorem count_any (v : Value) (l : List (List UInt8)) (w : World) (h : Tx w v l) (hn : l.length < 4294967296) (ht : Pow w) :
    Calls Tryz.prog 21 #[v] w fun e w' => ∃ ad cap, e = .returned (.slice ad 1 cap) ∧ Tx w' (.slice ad 1 cap) [Lib.itoa l.length] ∧ Below w.heap.size w w' := by
  obtain ⟨ad, cap, rfl⟩ := h.form
  have HD : Hid (Calls Tryz.prog 50 #[.int .i64 (l.length : Nat)] w fun e w' => e = .returned (.string ⟨(Lib.itoa l.length).toArray⟩) ∧ Below w.heap.size w w') := decimal_any l.length w (by omega) (by omega) ht
  clear h ht
  generalize Lib.itoa (l.length : Int) = T at *
  go_enter Tryz.func21, Tryz.ntmps21
  go_wp2_with fail
  refine Calls.mono HD.out ?_
  rintro e w1 ⟨rfl, hb1⟩
  have HT : Hid (Tx (w1.alloc (.cells #[.string ⟨T.toArray⟩] 9)) (.slice (some ⟨w1.heap.size, 0, none⟩) 1 1) [T]) := Tx.one w1 T
  have HB : Hid (Below w.heap.size w (w1.alloc (.cells #[.string ⟨T.toArray⟩] 9))) := hb1.alloc hb1.size _
  go_wp2_with fail
  go_ret
  exact ⟨_, _, rfl, HT.out, HB.out⟩
theorem bytes_inj {a b : List UInt8} (h : (⟨a.toArray⟩ : ByteArray) = ⟨b.toArray⟩) : a = b := by
  have := congrArg (fun x : ByteArray => x.data.toList) h
  simpa using this
theorem map_bytes_inj : ∀ (A C : List (List UInt8)), (A.map fun l => (⟨l.toArray⟩ : ByteArray)) = C.map (fun l => (⟨l.toArray⟩ : ByteArray)) → A = C
  | [], [], _ => rfl
  | [], _ :: _, h => by simp at h
  | _ :: _, [], h => by simp at h
  | a :: A, c :: C, h => by
    rw [List.map_cons, List.map_cons] at h
    injection h with h1 h2
    rw [bytes_inj h1, map_bytes_inj A C h2]
theorem equalT_any (va vb : Value) (A C : List (List UInt8)) (w : World) (ha : Tx w va A) (hb : Tx w vb C) (hA : A.length < 4294967296) (hC : C.length < 4294967296) :
    Calls Tryz.prog 52 #[va, vb] w fun e w' => e = .returned (.bool (decide (A = C))) ∧ Below w.heap.size w w' := by
  by_cases hl : A.length = C.length
  · by_cases h0 : A = []
    · subst h0
      have hC0 : C = [] := List.eq_nil_of_length_eq_zero hl.symm
      subst hC0
      obtain ⟨ada, capa, rfl⟩ := ha.form
      obtain ⟨adc, capc, rfl⟩ := hb.form
      refine (Tryz.slices_Equal_string_empty ada adc capa 0 capc w (by omega)).mono ?_
      rintro e w' ⟨rfl, hw⟩
      subst hw
      exact ⟨rfl, Below.refl _ _⟩
    · have hC0 : C ≠ [] := fun e => h0 (List.eq_nil_of_length_eq_zero (by rw [hl, e]; rfl))
      obtain ⟨g1, o1, c1, rfl, _, _, e1⟩ := ha.inRow h0
      obtain ⟨g2, o2, c2, rfl, _, _, e2⟩ := hb.inRow hC0
      have cell : ∀ (L : List (List UInt8)) (g o : Nat), (∀ k p, L[k]? = some p → w.cell? ⟨g, o + k, none⟩ = some (.string ⟨p.toArray⟩)) → ∀ j, j < (L.map fun l => (⟨l.toArray⟩ : ByteArray)).length → w.cell? ⟨g, o + j, none⟩ = some (.string ((L.map fun l => (⟨l.toArray⟩ : ByteArray)).getD j ByteArray.empty)) := by
        intro L g o h j hj
        rw [List.length_map] at hj
        rw [h j _ (List.getElem?_eq_getElem hj)]
        rw [List.getD_eq_getElem?_getD, List.getElem?_map, List.getElem?_eq_getElem hj]
        rfl
      refine (Tryz.slices_Equal_string g1 o1 A.length c1 g2 o2 C.length c2 (A.map fun l => ⟨l.toArray⟩) (C.map fun l => ⟨l.toArray⟩) w (by simp) (by simp) (by omega) (by omega) (cell A g1 o1 e1) (cell C g2 o2 e2)).mono ?_
      rintro e w' ⟨rfl, q, rfl⟩
      refine ⟨?_, below_drewN' (Below.refl _ w) q⟩
      refine ret_bool (decide_eq_decide.2 ⟨fun h => ?_, fun h => by rw [h]⟩)
      rw [List.take_of_length_le (by simp), List.take_of_length_le (by simp)] at h
      exact map_bytes_inj A C h
  · obtain ⟨ada, capa, rfl⟩ := ha.form
    obtain ⟨adc, capc, rfl⟩ := hb.form
    refine (Tryz.slices_Equal_string_lens ada adc A.length capa C.length capc w hl).mono ?_
    rintro e w' ⟨rfl, hw⟩
    subst hw
    exact ⟨ret_bool (decide_eq_false fun h => hl (by rw [h])).symm, Below.refl _ _⟩
theorem sameL_any (va vb : Value) (A C : List (List UInt8)) (w : World) (ha : Tx w va A) (hb : Tx w vb C) (hA : A.length < 4294967296) (hC : C.length < 4294967296) :
    Calls Tryz.prog 26 #[va, vb] w fun e w' => e = .returned (.bool (decide (A = C))) ∧ Below w.heap.size w w' := by
  have HE : Hid (Calls Tryz.prog 52 #[va, vb] w fun e w' => e = .returned (.bool (decide (A = C))) ∧ Below w.heap.size w w') := equalT_any va vb A C w ha hb hA hC
  obtain ⟨ada, capa, rfl⟩ := ha.form
  obtain ⟨adc, capc, rfl⟩ := hb.form
  clear ha hb
  generalize decide (A = C) = bb at *
  go_enter Tryz.func26, Tryz.ntmps26
  go_wp2_with fail
  refine Calls.mono HE.out ?_
  rintro e w1 ⟨rfl, hb1⟩
  go_wp2_with fail
  go_ret
  exact ⟨rfl, hb1⟩
end Go.Proofs.YtdajacodfnidfaaGreatDoor

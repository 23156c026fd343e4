/- Count, Same, Parse; the statement on picks, walked. -/
import Derived.Test.YtdajacodfnidfaaDoorGroup
namespace Go.Proofs.YtdajacodfnidfaaDoor
open Go.RowKit Go.Shelf

theorem dec_one (u : Nat) (h : u < 10) : Lib.decDigits u = [UInt8.ofNat (48 + u)] := by rw [Lib.decDigits, dif_pos h]
theorem dec_two (u : Nat) (h : ¬ u < 10) (h2 : u < 100) : Lib.decDigits u = [UInt8.ofNat (48 + u / 10), UInt8.ofNat (48 + u % 10)] := by
  rw [Lib.decDigits, dif_neg h, dec_one (u / 10) (by omega)]
  rfl
theorem dig_nat (d : Nat) (h : d < 10) : (UInt8.ofNat (48 + d)).toNat = 48 + d := by
  rw [UInt8.toNat_ofNat']
  omega

theorem int_eq {a b : Int} (h : a = b) : Value.int .i64 a = .int .i64 b := by rw [h]

set_option maxRecDepth 100000 in
set_option maxHeartbeats 1000000 in
theorem parse_one (c : UInt8) (d : Nat) (hd : d < 10) (hc : c.toNat = 48 + d) (w : World) :
    Calls Tryd.prog 22 #[.string ⟨#[c]⟩] w fun e w' => e = .returned (.int .i64 d) ∧ w' = w := by
  have hx0 : ∀ h, (⟨#[c]⟩ : ByteArray)[0]'h = c := fun _ => rfl
  have hsz : (⟨#[c]⟩ : ByteArray).size = 1 := rfl
  have hci : (c.toNat : Int) = 48 + (d : Int) := by omega
  clear hc
  go_enter Tryd.func22, Tryd.ntmps22
  go_wp2_with fail
  go_loopw [3, 4] (fun v3 v4 wr => ((v4 = .int .i64 0 ∧ v3 = .int .i64 0) ∨ (v4 = .int .i64 1 ∧ v3 = .int .i64 d)) ∧ wr = w) (fun _ v4 _ => 1 - (intOf v4).toNat)
  case atStart => exact ⟨.inl ⟨rfl, rfl⟩, rfl⟩
  case round =>
    obtain ⟨hh, hw⟩ := hrel
    subst hw
    rcases hh with ⟨rfl, rfl⟩ | ⟨rfl, rfl⟩
    · go_wp2_with fail
      exact ⟨⟨.inr ⟨rfl, int_eq (by omega)⟩, trivial⟩, by decide⟩
    · go_wp2_with fail
      go_ret
      exact ⟨rfl, rfl⟩

set_option maxRecDepth 100000 in
set_option maxHeartbeats 1000000 in
theorem parse_two (c0 c1 : UInt8) (a b : Nat) (ha : a < 10) (ha1 : 1 ≤ a) (hb : b < 10) (h0 : c0.toNat = 48 + a) (h1 : c1.toNat = 48 + b) (w : World) :
    Calls Tryd.prog 22 #[.string ⟨#[c0, c1]⟩] w fun e w' => e = .returned (.int .i64 ((a : Int) * 10 + b)) ∧ w' = w := by
  have hx0 : ∀ h, (⟨#[c0, c1]⟩ : ByteArray)[0]'h = c0 := fun _ => rfl
  have hx1 : ∀ h, (⟨#[c0, c1]⟩ : ByteArray)[1]'h = c1 := fun _ => rfl
  have hsz : (⟨#[c0, c1]⟩ : ByteArray).size = 2 := rfl
  have hci0 : (c0.toNat : Int) = 48 + (a : Int) := by omega
  have hci1 : (c1.toNat : Int) = 48 + (b : Int) := by omega
  have hne : (48 + (a : Int) == 48) = false := by rw [beq_eq_false_iff_ne]; omega
  have hne2 : ¬ (a : Int) = 0 := by omega
  clear h0 h1
  go_enter Tryd.func22, Tryd.ntmps22
  go_wp2_with fail
  go_loopw [3, 4] (fun v3 v4 wr => ((v4 = .int .i64 0 ∧ v3 = .int .i64 0) ∨ (v4 = .int .i64 1 ∧ v3 = .int .i64 a) ∨ (v4 = .int .i64 2 ∧ v3 = .int .i64 ((a : Int) * 10 + b))) ∧ wr = w) (fun _ v4 _ => 2 - (intOf v4).toNat)
  case atStart => exact ⟨.inl ⟨rfl, rfl⟩, rfl⟩
  case round =>
    obtain ⟨hh, hw⟩ := hrel
    subst hw
    rcases hh with ⟨rfl, rfl⟩ | ⟨rfl, rfl⟩ | ⟨rfl, rfl⟩
    · go_wp2_with fail
      exact ⟨⟨.inr (.inl ⟨rfl, int_eq (by omega)⟩), trivial⟩, by decide⟩
    · go_wp2_with fail
      exact ⟨⟨.inr (.inr ⟨rfl, int_eq (by omega)⟩), trivial⟩, by decide⟩
    · go_wp2_with fail
      go_ret
      exact ⟨rfl, rfl⟩

theorem parse_dec (n : Nat) (hn : n < 100) (w : World) :
    Calls Tryd.prog 22 #[.string ⟨(Lib.decDigits n).toArray⟩] w fun e w' => e = .returned (.int .i64 n) ∧ w' = w := by
  by_cases h : n < 10
  · rw [dec_one n h]
    exact parse_one _ n h (dig_nat n h) w
  · rw [dec_two n h hn]
    refine (parse_two _ _ (n / 10) (n % 10) (by omega) (by omega) (by omega) (dig_nat _ (by omega)) (dig_nat _ (by omega)) w).mono fun e w' ⟨he, hw⟩ => ⟨?_, hw⟩
    rw [he]
    exact ret_int (by omega)

set_option maxHeartbeats 1000000 in
theorem number_any (n : Nat) (hn : n < 100) (w : World) : Calls Tryd.prog 36 #[.int .i64 n] w fun e w' => e = .returned (.string ⟨(Lib.decDigits n).toArray⟩) ∧ w' = w := by
  go_enter Tryd.func36, Tryd.ntmps36
  go_wp2_with fail
  refine (Tryd.strconv_Itoa_small n hn _).mono ?_
  rintro e w1 ⟨rfl, hw1⟩
  obtain rfl := hw1.symm
  go_wp2_with fail
  go_ret
  exact ⟨rfl, rfl⟩

set_option maxHeartbeats 1000000 in
theorem count_any (v : Value) (l : List (List UInt8)) (w : World) (h : Tx w v l) (hn : l.length < 100) :
    Calls Tryd.prog 20 #[v] w fun e w' => e = .returned (.slice (some ⟨w.heap.size, 0, none⟩) 1 1) ∧ w' = w.alloc (.cells #[.string ⟨(Lib.decDigits l.length).toArray⟩] 9) := by
  obtain ⟨ad, cap, rfl⟩ := h.form
  clear h
  go_enter Tryd.func20, Tryd.ntmps20
  go_wp2_with fail
  refine (number_any l.length hn _).mono ?_
  rintro e w1 ⟨rfl, hw1⟩
  obtain rfl := hw1.symm
  go_wp2_with fail
  go_ret
  exact ⟨rfl, rfl⟩

theorem equal_any (va vb : Value) (l : List (List UInt8)) (w : World) (ha : Tx w va l) (hb : Tx w vb l) (hl : l.length < 4294967296) :
    Calls Tryd.prog 37 #[va, vb] w fun e w' => e = .returned (.bool true) ∧ Below w.heap.size w w' := by
  by_cases hne : l = []
  · subst hne
    obtain ⟨ad, cap, rfl⟩ := ha.form
    obtain ⟨ad2, cap2, rfl⟩ := hb.form
    refine (Tryd.slices_Equal_string_empty ad ad2 cap 0 cap2 w (by omega)).mono fun e w' ⟨he, hw⟩ => ⟨by rw [he]; rfl, by rw [hw]; exact Below.refl _ _⟩
  · obtain ⟨g, o, cap, rfl, _, _, hc⟩ := ha.inRow hne
    obtain ⟨g2, o2, cap2, rfl, _, _, hc2⟩ := hb.inRow hne
    have hg : ∀ j, j < (l.map fun s => (⟨s.toArray⟩ : ByteArray)).length → ∃ s, l[j]? = some s ∧ (l.map fun s => (⟨s.toArray⟩ : ByteArray)).getD j ByteArray.empty = ⟨s.toArray⟩ := by
      intro j hj
      have hj' : j < l.length := by simpa using hj
      refine ⟨l[j], List.getElem?_eq_getElem hj', ?_⟩
      rw [List.getD_eq_getElem?_getD, List.getElem?_map, List.getElem?_eq_getElem hj']
      rfl
    refine (Tryd.slices_Equal_string g o l.length cap g2 o2 l.length cap2 (l.map fun s => ⟨s.toArray⟩) (l.map fun s => ⟨s.toArray⟩) w (by simp) (by simp) (by omega) (by omega) (fun j hj => ?_) (fun j hj => ?_)).mono ?_
    · obtain ⟨s, h1, h2⟩ := hg j hj
      rw [h2]
      exact hc j s h1
    · obtain ⟨s, h1, h2⟩ := hg j hj
      rw [h2]
      exact hc2 j s h1
    · rintro e w' ⟨rfl, q, rfl⟩
      exact ⟨ret_bool (decide_eq_true rfl), below_drewN' (Below.refl _ w) q⟩
set_option maxHeartbeats 1000000 in
theorem lsame_any (va vb : Value) (l : List (List UInt8)) (w : World) (ha : Tx w va l) (hb : Tx w vb l) (hl : l.length < 4294967296) :
    Calls Tryd.prog 21 #[va, vb] w fun e w' => e = .returned (.bool true) ∧ Below w.heap.size w w' := by
  have HQ : Hid _ := equal_any va vb l w ha hb hl
  obtain ⟨ad, cap, rfl⟩ := ha.form
  obtain ⟨ad2, cap2, rfl⟩ := hb.form
  clear ha hb
  go_enter Tryd.func21, Tryd.ntmps21
  go_wp2_with fail
  refine Calls.mono HQ.out ?_
  rintro e w1 ⟨rfl, hb1⟩
  go_wp2_with fail
  go_ret
  exact ⟨rfl, hb1⟩

set_option maxRecDepth 100000 in
set_option maxHeartbeats 4000000 in
theorem pick_main (v : Value) (l : List (List UInt8)) (w : World) (a : Addr) (h : Tx w v l) (hz : l.length < 140737488355328) (hzz : ∀ s ∈ l, s.length ≤ 140737488355328) (hE : Eb w a) :
    Calls Tryd.prog 7 #[v] w fun e w' => e = .returned (.bool true) ∧ Below w.heap.size w w' := by
  obtain ⟨i0, hi0, hz0, hz1, hz2⟩ := info_parts info9
  have HT : Hid (∀ W, Below w.heap.size w W → Tx W v l) := fun W hW => h.below hW (Nat.le_refl _)
  have HE : Hid (Eb w a) := hE
  have HZZ : Hid (∀ s ∈ l, s.length ≤ 140737488355328) := hzz
  obtain ⟨ad, cap, rfl⟩ := h.form
  clear h hE hzz
  by_cases h60 : l.length > 60
  · go_enter Tryd.func7, Tryd.ntmps7
    go_wp2_with fail
    refine (first_any _ a HE.out).mono ?_
    rintro e w1 ⟨rfl, hb1⟩
    go_wp2_with fail
    go_ret
    exact ⟨rfl, hb1⟩
  · go_enter Tryd.func7, Tryd.ntmps7
    go_wp2_with fail
    refine (first_any _ a HE.out).mono ?_
    rintro e w1 ⟨rfl, hb1⟩
    go_wp2_with fail
    have HLI : Hid _ := light_any _ [l] _ (Tss.one w1 _ l (HT.out _ hb1)) (by simp) (fun x hx => by simp at hx; subst hx; omega) (fun x hx => by simp at hx; subst hx; exact HZZ.out)
    cases hl : lightB [l]
    · rw [hl] at HLI
      refine Calls.mono HLI.out ?_
      rintro e w2 ⟨rfl, hw2⟩
      have hb2 : Below w1.heap.size w1 w2 := by rw [hw2]; exact below_new _ _
      clear hw2
      go_wp2_with fail
      go_ret
      exact ⟨rfl, hb1.trans (hb2.mono hb1.size)⟩
    · rw [hl] at HLI
      clear hl
      refine Calls.mono HLI.out ?_
      rintro e w2 ⟨rfl, hw2⟩
      have hb2' : Below w1.heap.size w1 w2 := by rw [hw2]; exact below_new _ _
      have hb2 := hb1.trans (hb2'.mono hb1.size)
      clear hw2 hb2' HLI
      go_wp2_with fail
      go_loopw [4, 5] (fun v4 v5 wr => ∃ k : Nat, v5 = .int .i64 ((k : Int) + 1) ∧ k ≤ l.length ∧ Hid (wr.ownsRow w2.heap.size 9 1 v4 (l.take k).length (txV (l.take k))) ∧ Below w2.heap.size w2 wr) (fun _ v5 _ => l.length + 1 - (intOf v5).toNat)
      case atStart => exact ⟨0, rfl, by omega, ⟨rfl, .inl ⟨rfl, rfl⟩⟩, Below.refl _ _⟩
      case round =>
        obtain ⟨k, rfl, hk, HO, hbr⟩ := hrel
        have hbr0 := hb2.trans (hbr.mono hb2.size)
        by_cases hkl : k < l.length
        · obtain ⟨x, hx⟩ : ∃ x, l[k]? = some x := ⟨_, List.getElem?_eq_getElem hkl⟩
          have HP : Hid _ := pick_yes _ l k x wr (HT.out _ hbr0) hx (by omega)
          have HTK : Hid (l.take (k + 1) = l.take k ++ [x]) := by unfold Hid; rw [List.take_add_one, hx]; rfl
          have HTL : Hid ((l.take k).length = k) := by unfold Hid; rw [List.length_take]; omega
          clear hx
          go_wp2_with fail
          refine Calls.mono HP.out ?_
          rintro e w3 ⟨rfl, hw3⟩
          have hb3 : Below wr.heap.size wr w3 := by rw [hw3]; exact below_new _ _
          have HX : Hid (Tx w3 (.slice (some ⟨wr.heap.size, 0, none⟩) 1 1) [x]) := by unfold Hid; rw [hw3]; exact Tx.one wr x
          have ho3 := owns_after HO.out hb3
          have hB3 : w2.heap.size ≤ w3.heap.size := Nat.le_trans hbr.size hb3.size
          have hc3 := Tx.cells HX.out
          clear hw3
          obtain ⟨adk, capk, hvk⟩ := own_form HO.out
          rw [HTL.out] at hvk ho3
          subst hvk
          go_wp2_with (at_builtin; refine wpList_append_own _ rfl _ _ 22 rfl w2.heap.size 9 i0 (.string ⟨#[]⟩) 1 16 Tryd.underlying22 hi0 hz0 hz1 hz2 rfl (by decide) _ _ _ rfl ho3 ⟨wr.heap.size, 0, none⟩ 1 1 (txV [x]) rfl rfl hc3 (txV_one [x]) (by have := maxLen_big; omega) (by omega) hB3 ?_; intro v' w5 hown' hgrow _)
          refine ⟨⟨k + 1, by simp, by omega, ?_, grown_own hB3 (hbr.trans (hb3.mono hbr.size)) ho3 hgrow⟩, by simp [intOf]; omega⟩
          have e1 := HTK.out
          unfold Hid
          rw [e1, txV_append, List.length_append, HTL.out]
          exact hown'
        · have hkz : k = l.length := by omega
          subst hkz
          rw [List.take_length] at HO
          have HA : Hid (∀ W, Below wr.heap.size wr W → Tx W _ l) := fun W hW => (Tx.owned HO.out).below hW (Nat.le_refl _)
          obtain ⟨ad4, cap4, rfl⟩ := own_form HO.out
          clear HO
          go_wp2_with fail
          refine (count_any _ l wr (HT.out _ hbr0) (by omega)).mono ?_
          rintro e w3 ⟨rfl, hw3⟩
          have hb3 : Below wr.heap.size wr w3 := by rw [hw3]; exact below_new _ _
          have hb30 := hbr0.trans (hb3.mono hbr0.size)
          have HCC : Hid (w3.cell? ⟨wr.heap.size, 0, none⟩ = some (.string ⟨(Lib.decDigits l.length).toArray⟩)) := by unfold Hid; rw [hw3]; exact (Cel.new wr 9 _).cell 0
          have hlt3 : wr.heap.size < w3.heap.size := by rw [hw3]; simp
          clear hw3
          go_wp2_with fail
          refine (sameTexts_any _ _ l l w3 (HA.out _ hb3).texts (HT.out _ hb30).texts (by omega) (by omega)).mono ?_
          rintro e w4 ⟨rfl, hb4⟩
          rw [decide_eq_true rfl]
          have hb4r := hb3.trans (hb4.mono hb3.size)
          have hb40 := hbr0.trans (hb4r.mono hbr0.size)
          go_wp2_with fail
          refine (lsame_any _ _ l w4 (HA.out _ hb4r) (HT.out _ hb40) (by omega)).mono ?_
          rintro e w5 ⟨rfl, hb5⟩
          have hb5r := hb4r.trans (hb5.mono hb4r.size)
          have hb50 := hbr0.trans (hb5r.mono hbr0.size)
          have hb35 := hb4.trans (hb5.mono hb4.size)
          go_wp2_with fail
          refine (pick_no _ l 0 w5 (HT.out _ hb50) (Or.inl (by omega)) (by omega) (by omega)).mono ?_
          rintro e w6 ⟨rfl, hw6⟩
          obtain rfl := hw6.symm
          go_wp2_with fail
          refine (pick_no _ l ((l.length : Int) + 1) w5 (HT.out _ hb50) (Or.inr (by omega)) (by omega) (by omega)).mono ?_
          rintro e w7 ⟨rfl, hw7⟩
          obtain rfl := hw7.symm
          go_wp2_with fail
          refine (pick_no _ l (-1) w5 (HT.out _ hb50) (Or.inl (by omega)) (by omega) (by omega)).mono ?_
          rintro e w8 ⟨rfl, hw8⟩
          obtain rfl := hw8.symm
          have c5 := (hb35.cell (p := ⟨wr.heap.size, 0, none⟩) hlt3).trans HCC.out
          go_wp2_with fail
          refine (parse_dec l.length (by omega) w5).mono ?_
          rintro e w9 ⟨rfl, hw9⟩
          obtain rfl := hw9.symm
          go_wp2_with fail
          go_ret
          exact ⟨ret_bool (by simp), hb50⟩
end Go.Proofs.YtdajacodfnidfaaDoor

/- The law TextSays, walked where the source is none too long. -/
import Derived.Test.YtnapmbemoppfbaaDoorSays
import Derived.Deep.Light
namespace Go.Proofs.YtnapmbemoppfbaaDoor
open Go.RowKit

theorem val_int {k : IntKind} {a b : Int} (h : a = b) : Value.int k a = Value.int k b := by rw [h]
def clampI (s : ByteArray) (i : Int) : Int := min (max i 0) s.size
theorem clampI_bd (s : ByteArray) (i : Int) : 0 ≤ clampI s i ∧ clampI s i ≤ s.size := by unfold clampI; omega
theorem sliceOf_clamp (s : ByteArray) (i j : Int) : sliceOf s i j = s.extract (clampI s i).toNat (clampI s j).toNat := rfl

theorem take_min (s : ByteArray) (k a : Nat) (h : k < a) : s.data.toList.take (min k a) = s.data.toList.take k ∧ s.data.toList.take (min (k + 1) a) = s.data.toList.take (k + 1) := by
  rw [show min k a = k by omega, show min (k + 1) a = k + 1 by omega]; exact ⟨rfl, rfl⟩
/-- What one byte more ahead of the place does to its line and its column. -/
theorem to_in (s : ByteArray) (i : Int) (k : Nat) (hk : k < s.size) (hp : placeB s i = true) (hi : (k : Int) < i) :
    lineTo s i (k + 1) = lineTo s i k + (if s[k] = 10 then 1 else 0) ∧ colTo s i (k + 1) = (if s[k] = 10 then 1 else colTo s i k + 1) ∧ 1 ≤ lineTo s i k := by
  obtain ⟨e1, e2⟩ := take_min s k i.toNat (by omega)
  unfold lineTo colTo
  rw [hp]
  simp only [if_true]
  rw [e1, e2, take_snoc s k hk, lineOf_snoc, colOf_snoc]
  exact ⟨rfl, rfl, (lineOf_le _).1⟩
theorem to_out (s : ByteArray) (i : Int) (k : Nat) (hi : ¬ (placeB s i = true ∧ (k : Int) < i)) : lineTo s i (k + 1) = lineTo s i k ∧ colTo s i (k + 1) = colTo s i k := by
  unfold lineTo colTo
  cases hp : placeB s i
  · exact ⟨rfl, rfl⟩
  · have h2 : ¬ (k : Int) < i := fun hh => hi ⟨hp, hh⟩
    rw [show min (k + 1) i.toNat = i.toNat by omega, show min k i.toNat = i.toNat by omega]
    exact ⟨rfl, rfl⟩
theorem to_zero (s : ByteArray) (i : Int) (k : Nat) (hp : placeB s i = false) : lineTo s i k = 0 ∧ colTo s i k = 0 := by
  unfold lineTo colTo; rw [hp]; exact ⟨rfl, rfl⟩
theorem to_one (s : ByteArray) (i : Int) (hp : placeB s i = true) : lineTo s i 0 = 1 ∧ colTo s i 0 = 1 := by
  unfold lineTo colTo; rw [hp]; simp [lineOf, newlines, colOf]
theorem to_le (s : ByteArray) (i : Int) (k : Nat) : lineTo s i k ≤ k + 1 ∧ colTo s i k ≤ k + 1 := by
  have h0 : (s.data.toList.take (min k i.toNat)).length ≤ k := Nat.le_trans (List.length_take_le _ _) (Nat.min_le_left _ _)
  have h1 := lineOf_le (s.data.toList.take (min k i.toNat))
  have h2 := colOf_le (s.data.toList.take (min k i.toNat))
  unfold lineTo colTo
  cases placeB s i <;> simp <;> omega

set_option maxRecDepth 100000 in
set_option maxHeartbeats 4000000 in
theorem says_short (s t : ByteArray) (i j : Int) (w : World) (h1 : t.size ≤ 4000) (h2 : s.size ≤ 8192) (hi0 : -9223372036854775808 ≤ i) (hi1 : i ≤ 9223372036854775807) (ht : Pow w) (hw : 2 < w.heap.size) :
    Calls Tryd.prog 3 #[.string s, .string t, .int .i64 i, .int .i64 j] w fun e w' => e = .returned (.bool true) ∧ Below w.heap.size w w' := by
  have d1 : decide ((4000 : Int) < t.size) = false := decide_eq_false (by omega)
  have d2 : decide ((20000 : Int) < s.size) = false := decide_eq_false (by omega)
  have d3 : decide ((8192 : Int) < s.size) = false := decide_eq_false (by omega)
  have HI0 : Hid _ := hi0
  have HI1 : Hid _ := hi1
  have HT : Hid _ := ht
  clear hi0 hi1 ht
  go_enter Tryd.func3, Tryd.ntmps3
  go_wp2_with fail
  refine (first_any _).mono ?_; rintro e w' ⟨rfl, rfl⟩
  go_wp2_with fail
  refine (new_any _ _ h2).mono ?_; rintro e w' ⟨rfl, rfl⟩
  have hc := laid_cell w s
  have hg := laid_below w s
  have hz := laid_size w s
  go_wp2_with fail
  generalize hW : (w.alloc (.cells #[.string ⟨#[97, 98, 10, 99, 100]⟩] 33)).alloc (.cells #[.string s] 33) = W at hc hg hz ⊢
  clear hW
  refine (byte_any _ _ _ _ hc).mono ?_; rintro e w1 ⟨rfl, hw1⟩; obtain rfl := hw1.symm
  go_upto_region 10 with fail
  go_cut [14] from 72 to 79 (fun v wx => v = .bool (inB s i) ∧ wx = W)
  case first => as_aux_lemma =>
    by_cases ha : 0 ≤ i
    all_goals by_cases hb : i < s.size
    all_goals
      go_wp2_with fail
      go_meet
      case rel => go_light; exact ⟨val_bool (by first | exact (inB_t (by omega)).symm | exact (inB_f (by omega)).symm | (unfold inB; rw [Bool.eq_iff_iff]; simp; omega)), rfl⟩
  case rest =>
    obtain ⟨rfl, rfl⟩ := hcut
    go_upto_region 11 with fail
    go_cut [12, 13, 14, 109] from 64 to 109 (fun _ _ v14 v wx => v14 = .bool (inB s i) ∧ v = .bool false ∧ wx = wc)
    case first => as_aux_lemma =>
      by_cases hin : 0 ≤ i ∧ i < s.size
      · obtain ⟨a, rfl⟩ := Int.eq_ofNat_of_zero_le hin.1
        have ha : a < s.size := by omega
        have e1 := byteAt_nat s a ha
        have e2 := inB_t hin
        go_wp2_with (go_at_call 11; refine (len_any _ _ _ hc).mono ?_; rintro e w1 ⟨rfl, hw1⟩; obtain rfl := hw1.symm)
        go_meet
        case rel => go_light; exact ⟨val_bool e2.symm, by simp, rfl⟩
      · have e1 := byteAt_out s i hin
        have e2 := inB_f hin
        clear hin
        go_wp2_with (go_at_call 11; refine (len_any _ _ _ hc).mono ?_; rintro e w1 ⟨rfl, hw1⟩; obtain rfl := hw1.symm)
        go_meet
        case rel => go_light; exact ⟨val_bool e2.symm, by simp, rfl⟩
    case rest =>
      obtain ⟨rfl, rfl, rfl⟩ := hcut
      go_upto_region 13 with fail
      go_cut [15] from 110 to 114 (fun v wx => v = .int .i64 (clampI s i) ∧ wx = wc)
      case first => as_aux_lemma =>
        go_wp2_with fail
        all_goals
          go_meet
          case rel => go_light; exact ⟨val_int (by unfold clampI; omega), rfl⟩
      case rest =>
        obtain ⟨rfl, rfl⟩ := hcut
        go_upto_region 14 with fail
        go_cut [16] from 115 to 119 (fun v wx => v = .int .i64 (clampI s j) ∧ wx = wc)
        case first => as_aux_lemma =>
          go_wp2_with fail
          all_goals
            go_meet
            case rel => go_light; exact ⟨val_int (by unfold clampI; omega), rfl⟩
        case rest =>
          obtain ⟨rfl, rfl⟩ := hcut
          go_upto_if 122 with fail
          go_cut [17] from 120 to 126 (fun v wx => v = .string (sliceOf s i j) ∧ wx = wc)
          case first => as_aux_lemma =>
            have b1 := clampI_bd s i
            have b2 := clampI_bd s j
            have e0 := sliceOf_clamp s i j
            have E0 : Hid _ := e0
            clear e0
            by_cases hlt : clampI s i < clampI s j
            · go_wp2_with fail
              go_meet
              case rel => go_light; exact ⟨by rw [E0.out], rfl⟩
            · go_wp2_with fail
              go_meet
              case rel => go_light; exact ⟨by rw [E0.out, extract_none _ _ _ (by omega)], rfl⟩
          case rest =>
            obtain ⟨rfl, rfl⟩ := hcut
            go_upto_region 18 with fail
            go_cut [18] from 127 to 154 (fun v wx => v = .bool (hasB s i t) ∧ wx = wc)
            case first => as_aux_lemma =>
              by_cases ha : 0 ≤ i
              · by_cases hb : i ≤ s.size
                · obtain ⟨a, rfl⟩ := Int.eq_ofNat_of_zero_le ha
                  by_cases hl : t.size ≤ s.size - a
                  · have e0 := hasB_at s t a (by omega)
                    have E0 : Hid _ := e0
                    clear e0
                    have hl2 : (t.size : Int) ≤ (s.size : Int) - (a : Int) := by omega
                    go_wp2_with fail
                    go_meet
                    case rel => go_light; exact ⟨val_bool (by first | exact E0.out.symm | (rw [E0.out]; simp)), rfl⟩
                  · have e0 := hasB_long s t a (by omega)
                    have E0 : Hid _ := e0
                    clear e0
                    have hl2 : ¬ (t.size : Int) ≤ (s.size : Int) - (a : Int) := by omega
                    go_wp2_with fail
                    go_meet
                    case rel => go_light; exact ⟨val_bool (by rw [E0.out]), rfl⟩
                · have e0 := hasB_out s t i (by omega)
                  have E0 : Hid _ := e0
                  clear e0
                  go_wp2_with fail
                  go_meet
                  case rel => go_light; exact ⟨val_bool (by rw [E0.out]), rfl⟩
              · have e0 := hasB_out s t i (by omega)
                have E0 : Hid _ := e0
                clear e0
                go_wp2_with fail
                go_meet
                case rel => go_light; exact ⟨val_bool (by rw [E0.out]), rfl⟩
            case rest =>
              obtain ⟨rfl, rfl⟩ := hcut
              go_upto_region 22 with fail
              go_cut [162] from 155 to 162 (fun v wx => v = .bool (placeB s i) ∧ wx = wc)
              case first => as_aux_lemma =>
                by_cases ha : 0 ≤ i
                all_goals by_cases hb : i ≤ s.size
                all_goals
                  go_wp2_with fail
                  go_meet
                  case rel => go_light; exact ⟨val_bool (by unfold placeB; rw [Bool.eq_iff_iff]; simp; try omega), rfl⟩
              case rest =>
                obtain ⟨rfl, rfl⟩ := hcut
                go_upto_if 162 with fail
                go_cut [19, 20] from 155 to 162 (fun v19 v20 wx => v19 = .int .i64 (lineTo s i 0) ∧ v20 = .int .i64 (colTo s i 0) ∧ wx = wc)
                case first => as_aux_lemma =>
                  cases hp : placeB s i
                  · obtain ⟨e1, e2⟩ := to_zero s i 0 hp
                    go_wp2_with fail
                    go_meet
                    case rel => go_light; exact ⟨val_int (by rw [e1]; rfl), val_int (by rw [e2]; rfl), rfl⟩
                  · obtain ⟨e1, e2⟩ := to_one s i hp
                    go_wp2_with fail
                    go_meet
                    case rel => go_light; exact ⟨val_int (by rw [e1]; rfl), val_int (by rw [e2]; rfl), rfl⟩
                case rest =>
                  obtain ⟨rfl, rfl, rfl⟩ := hcut
                  go_wp2_with fail
                  go_loopg [19, 20, 21, 22] s.size (fun g v19 v20 v21 v22 wr => ∃ k : Nat, k + g = s.size ∧ v22 = .int .i64 k ∧ v19 = .int .i64 (lineTo s i k) ∧ v20 = .int .i64 (colTo s i k) ∧ v21 = .int .i64 (lineOf (s.data.toList.take k)) ∧ wr = wc)
                  case atStart => exact ⟨0, by omega, rfl, rfl, rfl, rfl, rfl⟩
                  case round =>
                    obtain ⟨k, hk, rfl, rfl, rfl, rfl, rfl⟩ := hrel
                    by_cases hlt : k < s.size
                    · have bl := to_le s i k
                      have bn : lineOf (s.data.toList.take k) ≤ k + 1 := by
                        have h0 : (s.data.toList.take k).length ≤ k := List.length_take_le _ _
                        have h1 := (lineOf_le (s.data.toList.take k)).2
                        omega
                      have en := lineOf_snoc (s.data.toList.take k) s[k]
                      rw [← take_snoc s k hlt] at en
                      have hnl : ∀ b, (((s[k]).toNat : Int) == 10) = b → (if s[k] = 10 then (1 : Nat) else 0) = (if b = true then 1 else 0) ∧ ∀ x y : Nat, (if s[k] = 10 then x else y) = (if b = true then x else y) := by
                        intro b hb
                        cases b
                        · have hb2 : ¬ s[k] = 10 := fun hh => by rw [hh] at hb; exact absurd hb (by decide)
                          simp [hb2]
                        · have hb2 : s[k] = 10 := (u8_eq _ _).2 (by simpa using hb)
                          simp [hb2]
                      have HNL : Hid _ := hnl
                      have EN : Hid _ := en
                      clear hnl en
                      by_cases hin : placeB s i = true ∧ (k : Int) < i
                      · obtain ⟨e1, e2, e3⟩ := to_in s i k hlt hin.1 hin.2
                        have hki := hin.2
                        have E1 : Hid _ := e1
                        have E2 : Hid _ := e2
                        clear e1 e2 hin
                        cases hb : (((s[k]).toNat : Int) == 10)
                        · obtain ⟨n1, n2⟩ := HNL.out false hb
                          have f1 : lineTo s i (k + 1) = lineTo s i k := by rw [E1.out, n1]; rfl
                          have f2 : colTo s i (k + 1) = colTo s i k + 1 := by rw [E2.out, n2]; rfl
                          have f3 : lineOf (s.data.toList.take (k + 1)) = lineOf (s.data.toList.take k) := by rw [EN.out, n1]; rfl
                          have F1 : Hid _ := f1
                          have F2 : Hid _ := f2
                          have F3 : Hid _ := f3
                          clear f1 f2 f3 n1 n2 E1 E2 EN HNL
                          go_wp2_with fail
                          go_roundg (s.size - (k + 1))
                          case measure => go_light; omega
                          case rel => go_light; exact ⟨k + 1, by omega, by go_num, by rw [F1.out], by rw [F2.out]; go_num, by rw [F3.out], rfl⟩
                        · obtain ⟨n1, n2⟩ := HNL.out true hb
                          have f1 : lineTo s i (k + 1) = lineTo s i k + 1 := by rw [E1.out, n1]; rfl
                          have f2 : colTo s i (k + 1) = 1 := by rw [E2.out, n2]; rfl
                          have f3 : lineOf (s.data.toList.take (k + 1)) = lineOf (s.data.toList.take k) + 1 := by rw [EN.out, n1]; rfl
                          have F1 : Hid _ := f1
                          have F2 : Hid _ := f2
                          have F3 : Hid _ := f3
                          clear f1 f2 f3 n1 n2 E1 E2 EN HNL
                          go_wp2_with fail
                          go_roundg (s.size - (k + 1))
                          case measure => go_light; omega
                          case rel => go_light; exact ⟨k + 1, by omega, by go_num, by rw [F1.out]; go_num, by rw [F2.out]; go_num, by rw [F3.out]; go_num, rfl⟩
                      · obtain ⟨e1, e2⟩ := to_out s i k hin
                        have E1 : Hid _ := e1
                        have E2 : Hid _ := e2
                        clear e1 e2
                        have hz0 : ¬ (k : Int) < i ∨ ((k : Int) < i ∧ lineTo s i k = 0) := by
                          by_cases hki : (k : Int) < i
                          · exact .inr ⟨hki, (to_zero s i k (by cases hp : placeB s i; rfl; exact absurd ⟨hp, hki⟩ hin)).1⟩
                          · exact .inl hki
                        clear hin
                        cases hb : (((s[k]).toNat : Int) == 10)
                        · obtain ⟨n1, n2⟩ := HNL.out false hb
                          have f3 : lineOf (s.data.toList.take (k + 1)) = lineOf (s.data.toList.take k) := by rw [EN.out, n1]; rfl
                          have F3 : Hid _ := f3
                          clear f3 n1 n2 EN HNL
                          rcases hz0 with hki | ⟨hki, hl0⟩
                          · go_wp2_with fail
                            go_roundg (s.size - (k + 1))
                            case measure => go_light; omega
                            case rel => go_light; exact ⟨k + 1, by omega, by go_num, by rw [E1.out], by rw [E2.out], by rw [F3.out], rfl⟩
                          · have HL0 : Hid _ := hl0
                            have hl1 : ¬ (0 : Int) < (lineTo s i k : Nat) := by omega
                            clear hl0
                            go_wp2_with fail
                            go_roundg (s.size - (k + 1))
                            case measure => go_light; omega
                            case rel => go_light; exact ⟨k + 1, by omega, by go_num, by rw [E1.out], by rw [E2.out], by rw [F3.out], rfl⟩
                        · obtain ⟨n1, n2⟩ := HNL.out true hb
                          have f3 : lineOf (s.data.toList.take (k + 1)) = lineOf (s.data.toList.take k) + 1 := by rw [EN.out, n1]; rfl
                          have F3 : Hid _ := f3
                          clear f3 n1 n2 EN HNL
                          rcases hz0 with hki | ⟨hki, hl0⟩
                          · go_wp2_with fail
                            go_roundg (s.size - (k + 1))
                            case measure => go_light; omega
                            case rel => go_light; exact ⟨k + 1, by omega, by go_num, by rw [E1.out], by rw [E2.out], by rw [F3.out]; go_num, rfl⟩
                          · have HL0 : Hid _ := hl0
                            have hl1 : ¬ (0 : Int) < (lineTo s i k : Nat) := by omega
                            clear hl0
                            go_wp2_with fail
                            go_roundg (s.size - (k + 1))
                            case measure => go_light; omega
                            case rel => go_light; exact ⟨k + 1, by omega, by go_num, by rw [E1.out], by rw [E2.out], by rw [F3.out]; go_num, rfl⟩
                    · have hks : k = s.size := by omega
                      subst hks
                      rw [List.take_of_length_le (show s.data.toList.length ≤ s.size by simp)]
                      clear hk hlt
                      go_upto_if 190 with fail
                      go_cut [14, 23] from 190 to 196 (fun _ v wx => v = .string ⟨(nameAt s i).toArray⟩ ∧ wx = wr)
                      case first => as_aux_lemma =>
                        by_cases hin : 0 ≤ i ∧ i < s.size
                        · obtain ⟨a, rfl⟩ := Int.eq_ofNat_of_zero_le hin.1
                          have ha : a < s.size := by omega
                          rw [inB_t hin]
                          clear hin
                          go_wp2_with fail
                          refine (rrun_any s a _ ha h2).mono ?_
                          rintro e w1 ⟨b, rfl, hw1, hab, hbs, hex⟩
                          obtain rfl := hw1.symm
                          have HEX : Hid _ := hex
                          clear hex
                          go_wp2_with fail
                          go_meet
                          case rel => go_light; exact ⟨by rw [HEX.out], rfl⟩
                        · rw [inB_f hin]
                          have e3 : nameAt s i = [] := by unfold nameAt; rw [dif_neg hin]
                          have E3 : Hid _ := e3
                          clear hin e3
                          go_wp2_with fail
                          go_meet
                          case rel => go_light; exact ⟨by rw [E3.out], rfl⟩
                      case rest =>
                        obtain ⟨rfl, rfl⟩ := hcut
                        go_wp2_with fail
                        refine (place_any _ _ _ _ hc (by omega)).mono ?_; rintro e w1 ⟨rfl, hw1⟩; obtain rfl := hw1.symm
                        go_wp2_with fail
                        refine (parse_any t _).mono ?_; rintro e w1 ⟨rfl, hw1⟩; obtain rfl := hw1.symm
                        have htail : ∀ k, parseV t.data.toList = some k → k ≤ 999999999 := fun k hk => parseV_le _ _ hk
                        cases hv : parseV t.data.toList with
                        | none =>
                          rw [parseRet_none]
                          go_wp2_with fail
                          refine (rparse_any t _).mono ?_; rintro e w1 ⟨rfl, hw1⟩; obtain rfl := hw1.symm
                          rw [hv, show refNum none = -1 from rfl]
                          clear htail hv
                          go_wp2_with fail
                          refine (slice_any _ s i j _ hc).mono ?_; rintro e w1 ⟨rfl, hw1⟩; obtain rfl := hw1.symm
                          go_wp2_with fail
                          refine (has_any _ s t i _ hc).mono ?_; rintro e w1 ⟨rfl, hw1⟩; obtain rfl := hw1.symm
                          go_wp2_with fail
                          refine (lines_any _ s _ hc (by omega)).mono ?_; rintro e w1 ⟨rfl, hw1⟩; obtain rfl := hw1.symm
                          go_wp2_with fail
                          refine (sname_any _ s i _ hc (by omega)).mono ?_; rintro e w1 ⟨rfl, hw1⟩; obtain rfl := hw1.symm
                          go_wp2_with fail
                          refine (name_any t _).mono ?_; rintro e w1 ⟨rfl, hw1⟩; obtain rfl := hw1.symm
                          go_wp2_with fail
                          refine (rname_any t _).mono ?_; rintro e w1 ⟨rfl, hw1⟩; obtain rfl := hw1.symm
                          go_wp2_with fail
                          refine (number_any i _ HI0.out HI1.out (Pow.stays HT.out hg hw)).mono ?_; rintro e w2 ⟨rfl, hb2⟩
                          have hg2 := hg.trans (hb2.mono hg.size)
                          go_wp2_with fail
                          refine (rnumber_any i _ HI0.out HI1.out).mono ?_; rintro e w3 ⟨rfl, hb3⟩
                          have hg3 := hg2.trans (hb3.mono hg2.size)
                          go_wp2_with fail
                          refine (blank_any _ _).mono ?_; rintro e w4 ⟨rfl, hw4⟩; obtain rfl := hw4.symm
                          go_wp2_with fail
                          refine (rblank_any _ _).mono ?_; rintro e w4 ⟨rfl, hw4⟩; obtain rfl := hw4.symm
                          go_wp2_with fail
                          go_ret
                          exact ⟨by simp, hg3⟩
                        | some n =>
                          have hn := htail n hv
                          have hn0 : (0 : Int) ≤ (n : Int) := by omega
                          have hn1 : decide ((0 : Int) ≤ (n : Int)) = true := decide_eq_true hn0
                          rw [parseRet_some]
                          go_wp2_with fail
                          refine (rparse_any t _).mono ?_; rintro e w1 ⟨rfl, hw1⟩; obtain rfl := hw1.symm
                          rw [hv, show refNum (some n) = (n : Int) from rfl]
                          clear htail hv
                          go_wp2_with fail
                          refine (slice_any _ s i j _ hc).mono ?_; rintro e w1 ⟨rfl, hw1⟩; obtain rfl := hw1.symm
                          go_wp2_with fail
                          refine (has_any _ s t i _ hc).mono ?_; rintro e w1 ⟨rfl, hw1⟩; obtain rfl := hw1.symm
                          go_wp2_with fail
                          refine (lines_any _ s _ hc (by omega)).mono ?_; rintro e w1 ⟨rfl, hw1⟩; obtain rfl := hw1.symm
                          go_wp2_with fail
                          refine (sname_any _ s i _ hc (by omega)).mono ?_; rintro e w1 ⟨rfl, hw1⟩; obtain rfl := hw1.symm
                          go_wp2_with fail
                          refine (name_any t _).mono ?_; rintro e w1 ⟨rfl, hw1⟩; obtain rfl := hw1.symm
                          go_wp2_with fail
                          refine (rname_any t _).mono ?_; rintro e w1 ⟨rfl, hw1⟩; obtain rfl := hw1.symm
                          have hu : undef = Value.tuple #[] := rfl
                          go_wp2_with fail
                          clear hu
                          refine (number_any i _ HI0.out HI1.out (Pow.stays HT.out hg hw)).mono ?_; rintro e w2 ⟨rfl, hb2⟩
                          have hg2 := hg.trans (hb2.mono hg.size)
                          go_wp2_with fail
                          refine (rnumber_any i _ HI0.out HI1.out).mono ?_; rintro e w3 ⟨rfl, hb3⟩
                          have hg3 := hg2.trans (hb3.mono hg2.size)
                          go_wp2_with fail
                          refine (blank_any _ _).mono ?_; rintro e w4 ⟨rfl, hw4⟩; obtain rfl := hw4.symm
                          go_wp2_with fail
                          refine (rblank_any _ _).mono ?_; rintro e w4 ⟨rfl, hw4⟩; obtain rfl := hw4.symm
                          go_wp2_with fail
                          go_ret
                          exact ⟨by simp, hg3⟩
end Go.Proofs.YtnapmbemoppfbaaDoor

/- The document's own Do, name by name: add, exit. -/
import Derived.Test.YtiddlineklfhfaaDoorRdo3
namespace Go.Proofs.YtiddlineklfhfaaDoor
open Go.RowKit Go.Shelf
attribute [local go_sem] Oper.semAt_some

theorem add_two (x y : List UInt8) : addR [x, y] = if 0 ≤ T.refNum (T.parseV x) ∧ 0 ≤ T.refNum (T.parseV y) then (sumL (T.refNum (T.parseV x)) (T.refNum (T.parseV y)), 0) else ([], 1) := by
  unfold addR
  rw [num_two]
  by_cases h1 : 0 ≤ T.refNum (T.parseV x) <;> by_cases h2 : 0 ≤ T.refNum (T.parseV y) <;> simp [h1, h2]
theorem ref_small (x : List UInt8) : T.refNum (T.parseV x) < 1000000000 := by
  have h := parse_small x
  cases hx : T.parseV x with
  | none => simp [T.refNum]
  | some n => rw [hx] at h; simp [T.refNum] at h ⊢; omega
theorem end_of (a : List UInt8) (r : List (List UInt8)) : endR (a :: r) = if 0 ≤ T.refNum (T.parseV a) ∧ T.refNum (T.parseV a) ≤ 255 then T.refNum (T.parseV a) else 0 := by
  cases hx : T.parseV a with
  | none => simp [endR, hx, T.refNum]
  | some n =>
    by_cases h : n ≤ 255
    · have h' : (n : Int) ≤ 255 := by omega
      simp [endR, hx, T.refNum, h, h']
    · have h' : ¬ (n : Int) ≤ 255 := by omega
      simp [endR, hx, T.refNum, h, h']
set_option maxRecDepth 100000 in
set_option maxHeartbeats 1600000 in
theorem rdo_add (s : ByteArray) (v : Value) (l : List (List UInt8)) (w : World) (h : Tx w v l) (hn : l.length ≤ 20) (hz : sumT l ≤ 3000) :
    Calls Tryd.prog 10 #[.string ⟨#[97, 100, 100]⟩, .string s, v] w fun e w' => e = .returned (.tuple #[ocV ⟨(addR l).1, s.data.toList, (addR l).2, [], [], false⟩, .bool true]) ∧ Below w.heap.size w w' := by
  have HT : Hid (Tx w v l) := h
  have HM : Hid (∀ p ∈ l, p.length ≤ 3000) := fun p hp => Nat.le_trans (sum_mem l p hp) hz
  obtain ⟨ad, cap, rfl⟩ := h.form
  obtain ⟨J0, hJ0⟩ : ∃ J0, Lib.join l [32] = J0 := ⟨_, rfl⟩
  have HJ0 : Hid (Lib.join l [32] = J0) := hJ0
  clear h hJ0
  rcases two_or l with ⟨x, y, hl⟩ | h2
  · have HL : Hid (l = [x, y]) := hl
    have hl2 : 2 ≤ l.length := by rw [hl]; simp
    have hb : ((l.length : Int) == 2) = true := by rw [hl]; rfl
    have HPX : Hid (∀ W, Calls Tryd.prog 25 #[str x] W fun e w' => e = .returned (.int .i64 (T.refNum (T.parseV x))) ∧ w' = W) := fun W => T.rparse_any ⟨x.toArray⟩ W
    have HPY : Hid (∀ W, Calls Tryd.prog 25 #[str y] W fun e w' => e = .returned (.int .i64 (T.refNum (T.parseV y))) ∧ w' = W) := fun W => T.rparse_any ⟨y.toArray⟩ W
    have HT2 : Hid (Tx w (.slice ad l.length cap) [x, y]) := by have := HT.out; rw [hl] at this ⊢; exact this
    obtain ⟨g, o, cap', hv, hc, hg, c0, c1⟩ := HT2.out.two
    have had : ad = some ⟨g, o, none⟩ := by have := hv; simp at this; exact this.1
    subst had
    have HC : Hid (w.cell? ⟨g, o, none⟩ = some (str x) ∧ w.cell? ⟨g, o + 1, none⟩ = some (str y)) := ⟨c0, c1⟩
    have hcap : 2 ≤ cap := by have := hv; simp at this; omega
    clear hl HT2 hv hc c0 c1
    have hxs := ref_small x
    have hys := ref_small y
    obtain ⟨pa, hpa⟩ : ∃ pa, T.refNum (T.parseV x) = pa := ⟨_, rfl⟩
    obtain ⟨pb, hpb⟩ : ∃ pb, T.refNum (T.parseV y) = pb := ⟨_, rfl⟩
    rw [hpa] at HPX
    rw [hpb] at HPY
    rw [hpa] at hxs
    rw [hpb] at hys
    have hv : addR l = if 0 ≤ pa ∧ 0 ≤ pb then (sumL pa pb, 0) else ([], 1) := by rw [HL.out, add_two, hpa, hpb]
    rw [hv]
    obtain ⟨⟨O, q⟩, hq⟩ : ∃ q, (if 0 ≤ pa ∧ 0 ≤ pb then (sumL pa pb, (0 : Int)) else ([], 1)) = q := ⟨_, rfl⟩
    have HQ : Hid ((if 0 ≤ pa ∧ 0 ≤ pb then (sumL pa pb, (0 : Int)) else ([], 1)) = (O, q)) := hq
    rw [hq]
    simp only
    clear hq hv hpa hpb
    go_enter Tryd.func10, Tryd.ntmps10
    go_wp2_with fail
    go_loop [9, 10] (fun t i => ∃ (k : Nat) (J : List UInt8), k ≤ l.length ∧ i = .int .i64 k ∧ t = str J ∧ J.length ≤ 3020 ∧ Hid (J = Lib.join (l.take k) [32])) (fun _ i => l.length - (intOf i).toNat)
    case atStart => exact ⟨0, [], by omega, rfl, rfl, by simp, rfl⟩
    case round =>
      obtain ⟨k, J, hk, rfl, rfl, hJ, HJ⟩ := hrel
      by_cases hlt : k < l.length
      · obtain ⟨p, hp⟩ : ∃ p, l[k]? = some p := ⟨_, List.getElem?_eq_getElem hlt⟩
        obtain ⟨g, o, cap', hv, hc, hg, hcell⟩ := HT.out.inRow (fun e => by rw [e] at hlt; simp at hlt)
        cases hv
        have hpl := HM.out p (List.mem_of_getElem? hp)
        have c := hcell k p hp
        have HPK : Hid (l[k]? = some p) := hp
        clear hcell hp
        have e3 := join_take_le l (k + 1)
        by_cases hk0 : 0 < k
        · go_wp2_with fail
          go_round
          case rel =>
            have e1 := join_next2 HPK.out hk0
            exact ⟨k + 1, Lib.join (l.take (k + 1)) [32], by omega, by go_num, by rw [e1, ← HJ.out, str_add, str_add], by omega, rfl⟩
          case measure => simp [intOf]; omega
        · obtain rfl : k = 0 := by omega
          have c : w.cell? ⟨g, o, none⟩ = some (str p) := c
          go_wp2_with fail
          go_round
          case rel =>
            have e1 := join_first2 HPK.out
            exact ⟨0 + 1, Lib.join (l.take (0 + 1)) [32], by omega, by go_num, by rw [e1, str_add, HJ.out]; simp [Lib.join], by omega, rfl⟩
          case measure => simp [intOf]; omega
      · have hk2 : k = l.length := by omega
        obtain rfl : J = J0 := by
          have := HJ.out
          rw [hk2, List.take_length] at this
          exact this.trans HJ0.out
        clear hk2
        obtain ⟨c0, c1⟩ := HC.out
        go_wp2_with fail
        refine (HPX.out _).mono ?_
        rintro e wp ⟨rfl, hw⟩
        obtain rfl := hw.symm
        go_wp2_with fail
        refine (HPY.out _).mono ?_
        rintro e wp ⟨rfl, hw⟩
        obtain rfl := hw.symm
        by_cases h1 : 0 ≤ pa
        · have d1 : decide (0 ≤ pa) = true := decide_eq_true h1
          by_cases h2 : 0 ≤ pb
          · have d2 : decide (0 ≤ pb) = true := decide_eq_true h2
            obtain ⟨rfl, rfl⟩ : O = sumL pa pb ∧ q = 0 := by
              have := HQ.out
              rw [if_pos ⟨h1, h2⟩] at this
              simpa [eq_comm] using this
            have hil := Lib.itoa_length_le ((pa + pb) % 1000000000) (by omega) (by omega)
            go_wp2_with fail
            refine (T.rnumber_any ((pa + pb) % 1000000000) _ (by omega) (by omega)).mono ?_
            rintro e w2 ⟨rfl, hw2⟩
            obtain ⟨hc2, hf2⟩ := bcell hw2
            go_wp2_with fail
            exact bodyPost_ret (results_oc28 rfl _ _ w.heap.size _ rfl (((Cel.first28 hw2).other (by omega) _).six _ _ _ _ _ _) rfl) rfl ⟨by rw [str_add]; rfl, set7 _ _ _ _ _ _ _ ((two_new w _ _).trans (hw2.mono (by simp; omega))) (by simp) (Nat.le_refl _)⟩
          · have d2 : decide (0 ≤ pb) = false := decide_eq_false h2
            obtain ⟨rfl, rfl⟩ : O = [] ∧ q = 1 := by
              have := HQ.out
              rw [if_neg (by omega)] at this
              simpa [eq_comm] using this
            go_wp2_with fail
            exact bodyPost_ret (v := .tuple #[ocV ⟨[], s.data.toList, 1, [], [], false⟩, .bool true]) (by simp [results, Tryd.results10, go_sem]) rfl ⟨rfl, two_new w _ _⟩
        · have d1 : decide (0 ≤ pa) = false := decide_eq_false h1
          obtain ⟨rfl, rfl⟩ : O = [] ∧ q = 1 := by
            have := HQ.out
            rw [if_neg (by omega)] at this
            simpa [eq_comm] using this
          go_wp2_with fail
          exact bodyPost_ret (v := .tuple #[ocV ⟨[], s.data.toList, 1, [], [], false⟩, .bool true]) (by simp [results, Tryd.results10, go_sem]) rfl ⟨rfl, two_new w _ _⟩
  · have hb := ne2 h2
    unfold addR
    rw [nums_no l h2]
    show Calls _ _ _ _ fun e w' => e = .returned (.tuple #[ocV ⟨[], s.data.toList, 1, [], [], false⟩, .bool true]) ∧ _
    go_enter Tryd.func10, Tryd.ntmps10
    go_wp2_with fail
    go_loop [9, 10] (fun t i => ∃ (k : Nat) (J : List UInt8), k ≤ l.length ∧ i = .int .i64 k ∧ t = str J ∧ J.length ≤ 3020 ∧ Hid (J = Lib.join (l.take k) [32])) (fun _ i => l.length - (intOf i).toNat)
    case atStart => exact ⟨0, [], by omega, rfl, rfl, by simp, rfl⟩
    case round =>
      obtain ⟨k, J, hk, rfl, rfl, hJ, HJ⟩ := hrel
      by_cases hlt : k < l.length
      · obtain ⟨p, hp⟩ : ∃ p, l[k]? = some p := ⟨_, List.getElem?_eq_getElem hlt⟩
        obtain ⟨g, o, cap', hv, hc, hg, hcell⟩ := HT.out.inRow (fun e => by rw [e] at hlt; simp at hlt)
        cases hv
        have hpl := HM.out p (List.mem_of_getElem? hp)
        have c := hcell k p hp
        have HPK : Hid (l[k]? = some p) := hp
        clear hcell hp
        have e3 := join_take_le l (k + 1)
        by_cases hk0 : 0 < k
        · go_wp2_with fail
          go_round
          case rel =>
            have e1 := join_next2 HPK.out hk0
            exact ⟨k + 1, Lib.join (l.take (k + 1)) [32], by omega, by go_num, by rw [e1, ← HJ.out, str_add, str_add], by omega, rfl⟩
          case measure => simp [intOf]; omega
        · obtain rfl : k = 0 := by omega
          have c : w.cell? ⟨g, o, none⟩ = some (str p) := c
          go_wp2_with fail
          go_round
          case rel =>
            have e1 := join_first2 HPK.out
            exact ⟨0 + 1, Lib.join (l.take (0 + 1)) [32], by omega, by go_num, by rw [e1, str_add, HJ.out]; simp [Lib.join], by omega, rfl⟩
          case measure => simp [intOf]; omega
      · have hk2 : k = l.length := by omega
        obtain rfl : J = J0 := by
          have := HJ.out
          rw [hk2, List.take_length] at this
          exact this.trans HJ0.out
        clear hk2
        go_wp2_with fail
        exact bodyPost_ret (v := .tuple #[ocV ⟨[], s.data.toList, 1, [], [], false⟩, .bool true]) (by simp [results, Tryd.results10, go_sem]) rfl ⟨rfl, two_new w _ _⟩
set_option maxRecDepth 100000 in
set_option maxHeartbeats 1600000 in
theorem rdo_exit (s : ByteArray) (v : Value) (l : List (List UInt8)) (w : World) (h : Tx w v l) (hn : l.length ≤ 20) (hz : sumT l ≤ 3000) :
    Calls Tryd.prog 10 #[.string ⟨#[101, 120, 105, 116]⟩, .string s, v] w fun e w' => e = .returned (.tuple #[ocV ⟨[], s.data.toList, endR l, [], [], true⟩, .bool true]) ∧ Below w.heap.size w w' := by
  have HT : Hid (Tx w v l) := h
  have HM : Hid (∀ p ∈ l, p.length ≤ 3000) := fun p hp => Nat.le_trans (sum_mem l p hp) hz
  obtain ⟨ad, cap, rfl⟩ := h.form
  obtain ⟨J0, hJ0⟩ : ∃ J0, Lib.join l [32] = J0 := ⟨_, rfl⟩
  have HJ0 : Hid (Lib.join l [32] = J0) := hJ0
  clear h hJ0
  rcases two_or l with ⟨x, y, hl⟩ | h2
  · have HL : Hid (l = [x, y]) := hl
    have hl2 : 2 ≤ l.length := by rw [hl]; simp
    have hb : ((l.length : Int) == 2) = true := by rw [hl]; rfl
    have HPX : Hid (∀ W, Calls Tryd.prog 25 #[str x] W fun e w' => e = .returned (.int .i64 (T.refNum (T.parseV x))) ∧ w' = W) := fun W => T.rparse_any ⟨x.toArray⟩ W
    have HPY : Hid (∀ W, Calls Tryd.prog 25 #[str y] W fun e w' => e = .returned (.int .i64 (T.refNum (T.parseV y))) ∧ w' = W) := fun W => T.rparse_any ⟨y.toArray⟩ W
    have HT2 : Hid (Tx w (.slice ad l.length cap) [x, y]) := by have := HT.out; rw [hl] at this ⊢; exact this
    obtain ⟨g, o, cap', hv, hc, hg, c0, c1⟩ := HT2.out.two
    have had : ad = some ⟨g, o, none⟩ := by have := hv; simp at this; exact this.1
    subst had
    have HC : Hid (w.cell? ⟨g, o, none⟩ = some (str x) ∧ w.cell? ⟨g, o + 1, none⟩ = some (str y)) := ⟨c0, c1⟩
    have hcap : 2 ≤ cap := by have := hv; simp at this; omega
    clear hl HT2 hv hc c0 c1
    obtain ⟨pa, hpa⟩ : ∃ pa, T.refNum (T.parseV x) = pa := ⟨_, rfl⟩
    obtain ⟨pb, hpb⟩ : ∃ pb, T.refNum (T.parseV y) = pb := ⟨_, rfl⟩
    rw [hpa] at HPX
    rw [hpb] at HPY
    have hv : endR l = if 0 ≤ pa ∧ pa ≤ 255 then pa else 0 := by rw [HL.out, end_of, hpa]
    rw [hv]
    obtain ⟨q, hq⟩ : ∃ q, (if 0 ≤ pa ∧ pa ≤ 255 then pa else 0) = q := ⟨_, rfl⟩
    have HQ : Hid ((if 0 ≤ pa ∧ pa ≤ 255 then pa else 0) = q) := hq
    rw [hq]
    clear hq hv hpa hpb
    go_enter Tryd.func10, Tryd.ntmps10
    go_wp2_with fail
    go_loop [9, 10] (fun t i => ∃ (k : Nat) (J : List UInt8), k ≤ l.length ∧ i = .int .i64 k ∧ t = str J ∧ J.length ≤ 3020 ∧ Hid (J = Lib.join (l.take k) [32])) (fun _ i => l.length - (intOf i).toNat)
    case atStart => exact ⟨0, [], by omega, rfl, rfl, by simp, rfl⟩
    case round =>
      obtain ⟨k, J, hk, rfl, rfl, hJ, HJ⟩ := hrel
      by_cases hlt : k < l.length
      · obtain ⟨p, hp⟩ : ∃ p, l[k]? = some p := ⟨_, List.getElem?_eq_getElem hlt⟩
        obtain ⟨g, o, cap', hv, hc, hg, hcell⟩ := HT.out.inRow (fun e => by rw [e] at hlt; simp at hlt)
        cases hv
        have hpl := HM.out p (List.mem_of_getElem? hp)
        have c := hcell k p hp
        have HPK : Hid (l[k]? = some p) := hp
        clear hcell hp
        have e3 := join_take_le l (k + 1)
        by_cases hk0 : 0 < k
        · go_wp2_with fail
          go_round
          case rel =>
            have e1 := join_next2 HPK.out hk0
            exact ⟨k + 1, Lib.join (l.take (k + 1)) [32], by omega, by go_num, by rw [e1, ← HJ.out, str_add, str_add], by omega, rfl⟩
          case measure => simp [intOf]; omega
        · obtain rfl : k = 0 := by omega
          have c : w.cell? ⟨g, o, none⟩ = some (str p) := c
          go_wp2_with fail
          go_round
          case rel =>
            have e1 := join_first2 HPK.out
            exact ⟨0 + 1, Lib.join (l.take (0 + 1)) [32], by omega, by go_num, by rw [e1, str_add, HJ.out]; simp [Lib.join], by omega, rfl⟩
          case measure => simp [intOf]; omega
      · have hk2 : k = l.length := by omega
        obtain rfl : J = J0 := by
          have := HJ.out
          rw [hk2, List.take_length] at this
          exact this.trans HJ0.out
        clear hk2
        obtain ⟨c0, c1⟩ := HC.out
        go_wp2_with fail
        refine (HPX.out _).mono ?_
        rintro e wp ⟨rfl, hw⟩
        obtain rfl := hw.symm
        go_wp2_with fail
        refine (HPY.out _).mono ?_
        rintro e wp ⟨rfl, hw⟩
        obtain rfl := hw.symm
        go_wp2_with fail
        refine (HPX.out _).mono ?_
        rintro e wp ⟨rfl, hw⟩
        obtain rfl := hw.symm
        by_cases h1 : 0 ≤ pa
        · have d1 : decide (0 ≤ pa) = true := decide_eq_true h1
          by_cases h2 : pa ≤ 255
          · have d2 : decide (pa ≤ 255) = true := decide_eq_true h2
            obtain rfl : q = pa := by rw [← HQ.out, if_pos ⟨h1, h2⟩]
            go_wp2_with fail
            exact bodyPost_ret (v := .tuple #[ocV ⟨[], s.data.toList, q, [], [], true⟩, .bool true]) (by simp [results, Tryd.results10, go_sem]) rfl ⟨rfl, two_new w _ _⟩
          · have d2 : decide (pa ≤ 255) = false := decide_eq_false h2
            obtain rfl : q = 0 := by rw [← HQ.out, if_neg (by omega)]
            go_wp2_with fail
            exact bodyPost_ret (v := .tuple #[ocV ⟨[], s.data.toList, 0, [], [], true⟩, .bool true]) (by simp [results, Tryd.results10, go_sem]) rfl ⟨rfl, two_new w _ _⟩
        · have d1 : decide (0 ≤ pa) = false := decide_eq_false h1
          obtain rfl : q = 0 := by rw [← HQ.out, if_neg (by omega)]
          go_wp2_with fail
          exact bodyPost_ret (v := .tuple #[ocV ⟨[], s.data.toList, 0, [], [], true⟩, .bool true]) (by simp [results, Tryd.results10, go_sem]) rfl ⟨rfl, two_new w _ _⟩
  · have hb := ne2 h2
    cases l with
    | nil =>
      show Calls _ _ _ _ fun e w' => e = .returned (.tuple #[ocV ⟨[], s.data.toList, 0, [], [], true⟩, .bool true]) ∧ _
      go_enter Tryd.func10, Tryd.ntmps10
      go_wp2_with fail
      go_loop [9, 10] (fun t i => t = str [] ∧ i = .int .i64 0) (fun _ _ => 0)
      case atStart => exact ⟨rfl, rfl⟩
      case round =>
        obtain ⟨rfl, rfl⟩ := hrel
        go_wp2_with fail
        exact bodyPost_ret (v := .tuple #[ocV ⟨[], s.data.toList, 0, [], [], true⟩, .bool true]) (by simp [results, Tryd.results10, go_sem]) rfl ⟨rfl, two_new w _ _⟩
    | cons a r =>
      have HPA : Hid (∀ W, Calls Tryd.prog 25 #[str a] W fun e w' => e = .returned (.int .i64 (T.refNum (T.parseV a))) ∧ w' = W) := fun W => T.rparse_any ⟨a.toArray⟩ W
      obtain ⟨pa, hpa⟩ : ∃ pa, T.refNum (T.parseV a) = pa := ⟨_, rfl⟩
      rw [hpa] at HPA
      have hv : endR (a :: r) = if 0 ≤ pa ∧ pa ≤ 255 then pa else 0 := by rw [end_of, hpa]
      rw [hv]
      obtain ⟨q, hq⟩ : ∃ q, (if 0 ≤ pa ∧ pa ≤ 255 then pa else 0) = q := ⟨_, rfl⟩
      have HQ : Hid ((if 0 ≤ pa ∧ pa ≤ 255 then pa else 0) = q) := hq
      rw [hq]
      clear hq hv hpa
      obtain ⟨g, o, cap', hvv, hc, hg, hcell⟩ := HT.out.inRow (by simp)
      have had : ad = some ⟨g, o, none⟩ := by have := hvv; simp at this; exact this.1
      subst had
      have hcap : (a :: r).length ≤ cap := by have := hvv; simp at this; rw [this]; exact hc
      have HC : Hid (w.cell? ⟨g, o, none⟩ = some (str a)) := hcell 0 a rfl
      have hl1 : 1 ≤ (a :: r).length := by simp
      clear hvv hc hcell
      generalize a :: r = l at *
      go_enter Tryd.func10, Tryd.ntmps10
      go_wp2_with fail
      go_loop [9, 10] (fun t i => ∃ (k : Nat) (J : List UInt8), k ≤ l.length ∧ i = .int .i64 k ∧ t = str J ∧ J.length ≤ 3020 ∧ Hid (J = Lib.join (l.take k) [32])) (fun _ i => l.length - (intOf i).toNat)
      case atStart => exact ⟨0, [], by omega, rfl, rfl, by simp, rfl⟩
      case round =>
        obtain ⟨k, J, hk, rfl, rfl, hJ, HJ⟩ := hrel
        by_cases hlt : k < l.length
        · obtain ⟨p, hp⟩ : ∃ p, l[k]? = some p := ⟨_, List.getElem?_eq_getElem hlt⟩
          obtain ⟨g, o, cap', hv, hc, hg, hcell⟩ := HT.out.inRow (fun e => by rw [e] at hlt; simp at hlt)
          cases hv
          have hpl := HM.out p (List.mem_of_getElem? hp)
          have c := hcell k p hp
          have HPK : Hid (l[k]? = some p) := hp
          clear hcell hp
          have e3 := join_take_le l (k + 1)
          by_cases hk0 : 0 < k
          · go_wp2_with fail
            go_round
            case rel =>
              have e1 := join_next2 HPK.out hk0
              exact ⟨k + 1, Lib.join (l.take (k + 1)) [32], by omega, by go_num, by rw [e1, ← HJ.out, str_add, str_add], by omega, rfl⟩
            case measure => simp [intOf]; omega
          · obtain rfl : k = 0 := by omega
            have c : w.cell? ⟨g, o, none⟩ = some (str p) := c
            go_wp2_with fail
            go_round
            case rel =>
              have e1 := join_first2 HPK.out
              exact ⟨0 + 1, Lib.join (l.take (0 + 1)) [32], by omega, by go_num, by rw [e1, str_add, HJ.out]; simp [Lib.join], by omega, rfl⟩
            case measure => simp [intOf]; omega
        · have hk2 : k = l.length := by omega
          obtain rfl : J = J0 := by
            have := HJ.out
            rw [hk2, List.take_length] at this
            exact this.trans HJ0.out
          clear hk2
          have c0 := HC.out
          go_wp2_with fail
          refine (HPA.out _).mono ?_
          rintro e wp ⟨rfl, hw⟩
          obtain rfl := hw.symm
          by_cases h1 : 0 ≤ pa
          · have d1 : decide (0 ≤ pa) = true := decide_eq_true h1
            by_cases h2 : pa ≤ 255
            · have d2 : decide (pa ≤ 255) = true := decide_eq_true h2
              obtain rfl : q = pa := by rw [← HQ.out, if_pos ⟨h1, h2⟩]
              go_wp2_with fail
              exact bodyPost_ret (v := .tuple #[ocV ⟨[], s.data.toList, q, [], [], true⟩, .bool true]) (by simp [results, Tryd.results10, go_sem]) rfl ⟨rfl, two_new w _ _⟩
            · have d2 : decide (pa ≤ 255) = false := decide_eq_false h2
              obtain rfl : q = 0 := by rw [← HQ.out, if_neg (by omega)]
              go_wp2_with fail
              exact bodyPost_ret (v := .tuple #[ocV ⟨[], s.data.toList, 0, [], [], true⟩, .bool true]) (by simp [results, Tryd.results10, go_sem]) rfl ⟨rfl, two_new w _ _⟩
          · have d1 : decide (0 ≤ pa) = false := decide_eq_false h1
            obtain rfl : q = 0 := by rw [← HQ.out, if_neg (by omega)]
            go_wp2_with fail
            exact bodyPost_ret (v := .tuple #[ocV ⟨[], s.data.toList, 0, [], [], true⟩, .bool true]) (by simp [results, Tryd.results10, go_sem]) rfl ⟨rfl, two_new w _ _⟩
end Go.Proofs.YtiddlineklfhfaaDoor

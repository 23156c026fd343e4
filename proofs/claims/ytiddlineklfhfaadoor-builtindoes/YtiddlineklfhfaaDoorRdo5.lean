/- The document's own Do, name by name: read, and what is none of them. -/
import Derived.Test.YtiddlineklfhfaaDoorRdo3
namespace Go.Proofs.YtiddlineklfhfaaDoor
open Go.RowKit Go.Shelf
attribute [local go_sem] Oper.semAt_some

theorem line_at : ∀ (l : List UInt8) (k : Nat), (∀ j, j < k → l[j]? ≠ some 10) → k ≤ l.length → (l[k]? = some 10 ∨ k = l.length) → lineL l = l.take k ∧ restL l = l.drop (k + 1)
  | [], k, _, hk, _ => by
    have : k = 0 := by simpa using hk
    subst this
    exact ⟨rfl, rfl⟩
  | b :: l, 0, _, _, he => by
    have hb : b = 10 := by simpa using he
    subst hb
    exact ⟨by simp [lineL], by simp [restL]⟩
  | b :: l, k + 1, h, hk, he => by
    have hb : (b != 10) = true := by
      have := h 0 (by omega)
      simpa using this
    obtain ⟨h1, h2⟩ := line_at l k (fun j hj => by have := h (j + 1) (by omega); simpa using this) (by simpa using hk) (by simpa using he)
    exact ⟨by unfold lineL at h1 ⊢; rw [List.takeWhile_cons, if_pos hb, h1]; rfl, by unfold restL at h2 ⊢; rw [List.dropWhile_cons, if_pos hb, h2]; rfl⟩
theorem none_snoc {s : ByteArray} {k : Nat} (h : ∀ j, j < k → s.data.toList[j]? ≠ some 10) (hk : k < s.size) (hb : (((s[k]'hk).toNat : Int) == 10) = false) : ∀ j, j < k + 1 → s.data.toList[j]? ≠ some 10 := by
  intro j hj
  by_cases e : j = k
  · subst e
    rw [s_get s j hk]
    intro he
    have he := Option.some.inj he
    rw [he] at hb
    simp at hb
  · exact h j (by omega)
theorem read_out (s : ByteArray) (a : List UInt8) (hn : T.nameB a = true) (h0 : 0 < s.size) : readR s.data.toList [a] = ⟨[], restL s.data.toList, 0, a, lineL s.data.toList, false⟩ := by
  have : s.data.toList.isEmpty = false := by
    rw [← ByteArray.toList_eq]
    exact T.nonempty_of s h0
  simp only [readR]
  rw [hn, this]
  rfl
set_option maxRecDepth 100000 in
set_option maxHeartbeats 1600000 in
theorem rdo_read (s : ByteArray) (v : Value) (l : List (List UInt8)) (w : World) (h : Tx w v l) (hn : l.length ≤ 20) (hz : sumT l ≤ 3000) (hs : s.size ≤ 3000) :
    Calls Tryd.prog 10 #[.string ⟨#[114, 101, 97, 100]⟩, .string s, v] w fun e w' => e = .returned (.tuple #[ocV (readR s.data.toList l), .bool true]) ∧ Below w.heap.size w w' := by
  have HT : Hid (Tx w v l) := h
  have HM : Hid (∀ p ∈ l, p.length ≤ 3000) := fun p hp => Nat.le_trans (sum_mem l p hp) hz
  obtain ⟨ad, cap, rfl⟩ := h.form
  obtain ⟨J0, hJ0⟩ : ∃ J0, Lib.join l [32] = J0 := ⟨_, rfl⟩
  have HJ0 : Hid (Lib.join l [32] = J0) := hJ0
  clear h hJ0
  rcases two_or l with ⟨x, y, hl⟩ | h2
  · have HL : Hid (l = [x, y]) := hl
    have hl2 : 2 ≤ l.length := by rw [hl]; simp
    have hb : ((l.length : Int) == 2) = true := by rw [hl]; rfl
    have HPX : Hid (∀ W, Calls Tryd.prog 25 #[str x] W fun e w' => e = .returned (.int .i64 (T.refNum (T.parseV x))) ∧ w' = W) := fun W => T.rparse_any ⟨x.toArray⟩ W
    have HPY : Hid (∀ W, Calls Tryd.prog 25 #[str y] W fun e w' => e = .returned (.int .i64 (T.refNum (T.parseV y))) ∧ w' = W) := fun W => T.rparse_any ⟨y.toArray⟩ W
    have HT2 : Hid (Tx w (.slice ad l.length cap) [x, y]) := by have := HT.out; rw [hl] at this ⊢; exact this
    obtain ⟨g, o, cap', hv, hc, hg, c0, c1⟩ := HT2.out.two
    have had : ad = some ⟨g, o, none⟩ := by have := hv; simp at this; exact this.1
    subst had
    have HC : Hid (w.cell? ⟨g, o, none⟩ = some (str x) ∧ w.cell? ⟨g, o + 1, none⟩ = some (str y)) := ⟨c0, c1⟩
    have hcap : 2 ≤ cap := by have := hv; simp at this; omega
    clear hl HT2 hv hc c0 c1
    obtain ⟨pa, hpa⟩ : ∃ pa, T.refNum (T.parseV x) = pa := ⟨_, rfl⟩
    obtain ⟨pb, hpb⟩ : ∃ pb, T.refNum (T.parseV y) = pb := ⟨_, rfl⟩
    rw [hpa] at HPX
    rw [hpb] at HPY
    clear hpa hpb
    have hb1 : (l.length == 1) = false := by rw [beq_eq_false_iff_ne]; omega
    have hb2 : ¬ l.length = 1 := by omega
    have hb3 : ((l.length : Int) == 1) = false := ne1 hb2
    rw [read_no1 _ l hb2]
    go_enter Tryd.func10, Tryd.ntmps10
    go_wp2_with fail
    go_loop [9, 10] (fun t i => ∃ (k : Nat) (J : List UInt8), k ≤ l.length ∧ i = .int .i64 k ∧ t = str J ∧ J.length ≤ 3020 ∧ Hid (J = Lib.join (l.take k) [32])) (fun _ i => l.length - (intOf i).toNat)
    case atStart => exact ⟨0, [], by omega, rfl, rfl, by simp, rfl⟩
    case round =>
      obtain ⟨k, J, hk, rfl, rfl, hJ, HJ⟩ := hrel
      by_cases hlt : k < l.length
      · obtain ⟨p, hp⟩ : ∃ p, l[k]? = some p := ⟨_, List.getElem?_eq_getElem hlt⟩
        obtain ⟨g, o, cap', hv, hc, hg, hcell⟩ := HT.out.inRow (fun e => by rw [e] at hlt; simp at hlt)
        cases hv
        have hpl := HM.out p (List.mem_of_getElem? hp)
        have c := hcell k p hp
        have HPK : Hid (l[k]? = some p) := hp
        clear hcell hp
        have e3 := join_take_le l (k + 1)
        by_cases hk0 : 0 < k
        · go_wp2_with fail
          go_round
          case rel =>
            have e1 := join_next2 HPK.out hk0
            exact ⟨k + 1, Lib.join (l.take (k + 1)) [32], by omega, by go_num, by rw [e1, ← HJ.out, str_add, str_add], by omega, rfl⟩
          case measure => simp [intOf]; omega
        · obtain rfl : k = 0 := by omega
          have c : w.cell? ⟨g, o, none⟩ = some (str p) := c
          go_wp2_with fail
          go_round
          case rel =>
            have e1 := join_first2 HPK.out
            exact ⟨0 + 1, Lib.join (l.take (0 + 1)) [32], by omega, by go_num, by rw [e1, str_add, HJ.out]; simp [Lib.join], by omega, rfl⟩
          case measure => simp [intOf]; omega
      · have hk2 : k = l.length := by omega
        obtain rfl : J = J0 := by
          have := HJ.out
          rw [hk2, List.take_length] at this
          exact this.trans HJ0.out
        clear hk2
        obtain ⟨c0, c1⟩ := HC.out
        go_wp2_with fail
        refine (HPX.out _).mono ?_
        rintro e wp ⟨rfl, hw⟩
        obtain rfl := hw.symm
        go_wp2_with fail
        refine (HPY.out _).mono ?_
        rintro e wp ⟨rfl, hw⟩
        obtain rfl := hw.symm
        go_wp2_with fail
        exact bodyPost_ret (v := .tuple #[ocV ⟨[], s.data.toList, 1, [], [], false⟩, .bool true]) (by simp [results, Tryd.results10, go_sem]) rfl ⟨rfl, two_new w _ _⟩
  · have hb := ne2 h2
    rcases one_or l with ⟨a, hl⟩ | h1
    · subst hl
      obtain ⟨g, o, cap', hvv, hc, hg, c0⟩ := HT.out.one
      have had : ad = some ⟨g, o, none⟩ := by have := hvv; simp at this; exact this.1
      subst had
      have HC : Hid (w.cell? ⟨g, o, none⟩ = some (str a)) := c0
      have hcap : 1 ≤ cap := by have := hvv; simp at this; omega
      have HN : Hid (∀ W, Calls Tryd.prog 28 #[str a] W fun e w' => e = .returned (.bool (T.nameB a)) ∧ w' = W) := fun W => T.rname_any ⟨a.toArray⟩ W
      have HRR : Hid (readR s.data.toList [a] = if T.nameB a && !s.data.toList.isEmpty then ⟨[], restL s.data.toList, 0, a, lineL s.data.toList, false⟩ else ⟨[], s.data.toList, 1, [], [], false⟩) := rfl
      clear hvv hc c0
      cases hnm : T.nameB a
      · rw [hnm] at HN HRR
        have e1 : readR s.data.toList [a] = ⟨[], s.data.toList, 1, [], [], false⟩ := HRR.out
        rw [e1]
        clear e1 hnm
        generalize hl : [a] = l at *
        have hl1 : 1 ≤ l.length := by rw [← hl]; simp
        have hb1 : ((l.length : Int) == 1) = true := by rw [← hl]; rfl
        have HLA : Hid ([a] = l) := hl
        clear hl
        go_enter Tryd.func10, Tryd.ntmps10
        go_wp2_with fail
        go_loop [9, 10] (fun t i => ∃ (k : Nat) (J : List UInt8), k ≤ l.length ∧ i = .int .i64 k ∧ t = str J ∧ J.length ≤ 3020 ∧ Hid (J = Lib.join (l.take k) [32])) (fun _ i => l.length - (intOf i).toNat)
        case atStart => exact ⟨0, [], by omega, rfl, rfl, by simp, rfl⟩
        case round =>
          obtain ⟨k, J, hk, rfl, rfl, hJ, HJ⟩ := hrel
          by_cases hlt : k < l.length
          · obtain ⟨p, hp⟩ : ∃ p, l[k]? = some p := ⟨_, List.getElem?_eq_getElem hlt⟩
            obtain ⟨g, o, cap', hv, hc, hg, hcell⟩ := HT.out.inRow (fun e => by rw [e] at hlt; simp at hlt)
            cases hv
            have hpl := HM.out p (List.mem_of_getElem? hp)
            have c := hcell k p hp
            have HPK : Hid (l[k]? = some p) := hp
            clear hcell hp
            have e3 := join_take_le l (k + 1)
            by_cases hk0 : 0 < k
            · go_wp2_with fail
              go_round
              case rel =>
                have e1 := join_next2 HPK.out hk0
                exact ⟨k + 1, Lib.join (l.take (k + 1)) [32], by omega, by go_num, by rw [e1, ← HJ.out, str_add, str_add], by omega, rfl⟩
              case measure => simp [intOf]; omega
            · obtain rfl : k = 0 := by omega
              have c : w.cell? ⟨g, o, none⟩ = some (str p) := c
              go_wp2_with fail
              go_round
              case rel =>
                have e1 := join_first2 HPK.out
                exact ⟨0 + 1, Lib.join (l.take (0 + 1)) [32], by omega, by go_num, by rw [e1, str_add, HJ.out]; simp [Lib.join], by omega, rfl⟩
              case measure => simp [intOf]; omega
          · have hk2 : k = l.length := by omega
            obtain rfl : J = J0 := by
              have := HJ.out
              rw [hk2, List.take_length] at this
              exact this.trans HJ0.out
            clear hk2
            have c0 := HC.out
            go_wp2_with fail
            refine (HN.out _).mono ?_
            rintro e wp ⟨rfl, hw⟩
            obtain rfl := hw.symm
            go_wp2_with fail
            exact bodyPost_ret (v := .tuple #[ocV ⟨[], s.data.toList, 1, [], [], false⟩, .bool true]) (by simp [results, Tryd.results10, go_sem]) rfl ⟨rfl, two_new w _ _⟩
      · rw [hnm] at HN
        by_cases hs0 : s.size = 0
        · obtain rfl := T.empty_of s hs0
          have e1 : readR (⟨#[]⟩ : ByteArray).data.toList [a] = ⟨[], [], 1, [], [], false⟩ := by rw [HRR.out]; simp
          rw [e1]
          clear e1 hnm
          generalize hl : [a] = l at *
          have hl1 : 1 ≤ l.length := by rw [← hl]; simp
          have hb1 : ((l.length : Int) == 1) = true := by rw [← hl]; rfl
          have HLA : Hid ([a] = l) := hl
          clear hl
          go_enter Tryd.func10, Tryd.ntmps10
          go_wp2_with fail
          go_loop [9, 10] (fun t i => ∃ (k : Nat) (J : List UInt8), k ≤ l.length ∧ i = .int .i64 k ∧ t = str J ∧ J.length ≤ 3020 ∧ Hid (J = Lib.join (l.take k) [32])) (fun _ i => l.length - (intOf i).toNat)
          case atStart => exact ⟨0, [], by omega, rfl, rfl, by simp, rfl⟩
          case round =>
            obtain ⟨k, J, hk, rfl, rfl, hJ, HJ⟩ := hrel
            by_cases hlt : k < l.length
            · obtain ⟨p, hp⟩ : ∃ p, l[k]? = some p := ⟨_, List.getElem?_eq_getElem hlt⟩
              obtain ⟨g, o, cap', hv, hc, hg, hcell⟩ := HT.out.inRow (fun e => by rw [e] at hlt; simp at hlt)
              cases hv
              have hpl := HM.out p (List.mem_of_getElem? hp)
              have c := hcell k p hp
              have HPK : Hid (l[k]? = some p) := hp
              clear hcell hp
              have e3 := join_take_le l (k + 1)
              by_cases hk0 : 0 < k
              · go_wp2_with fail
                go_round
                case rel =>
                  have e1 := join_next2 HPK.out hk0
                  exact ⟨k + 1, Lib.join (l.take (k + 1)) [32], by omega, by go_num, by rw [e1, ← HJ.out, str_add, str_add], by omega, rfl⟩
                case measure => simp [intOf]; omega
              · obtain rfl : k = 0 := by omega
                have c : w.cell? ⟨g, o, none⟩ = some (str p) := c
                go_wp2_with fail
                go_round
                case rel =>
                  have e1 := join_first2 HPK.out
                  exact ⟨0 + 1, Lib.join (l.take (0 + 1)) [32], by omega, by go_num, by rw [e1, str_add, HJ.out]; simp [Lib.join], by omega, rfl⟩
                case measure => simp [intOf]; omega
            · have hk2 : k = l.length := by omega
              obtain rfl : J = J0 := by
                have := HJ.out
                rw [hk2, List.take_length] at this
                exact this.trans HJ0.out
              clear hk2
              have c0 := HC.out
              go_wp2_with fail
              refine (HN.out _).mono ?_
              rintro e wp ⟨rfl, hw⟩
              obtain rfl := hw.symm
              go_wp2_with fail
              exact bodyPost_ret (v := .tuple #[ocV ⟨[], [], 1, [], [], false⟩, .bool true]) (by simp [results, Tryd.results10, go_sem]) rfl ⟨rfl, two_new w _ _⟩
        · have hne := T.nonempty_of s (by omega)
          rw [read_out s a hnm (by omega)]
          obtain ⟨Lx, hLx⟩ : ∃ L, lineL s.data.toList = L := ⟨_, rfl⟩
          obtain ⟨Rx, hRx⟩ : ∃ R, restL s.data.toList = R := ⟨_, rfl⟩
          have HLx : Hid (lineL s.data.toList = Lx) := hLx
          have HRx : Hid (restL s.data.toList = Rx) := hRx
          rw [hLx, hRx]
          clear hLx hRx hnm HRR
          generalize hl : [a] = l at *
          have hl1 : 1 ≤ l.length := by rw [← hl]; simp
          have hb1 : ((l.length : Int) == 1) = true := by rw [← hl]; rfl
          have HLA : Hid ([a] = l) := hl
          clear hl
          go_enter Tryd.func10, Tryd.ntmps10
          go_wp2_with fail
          go_loop [9, 10] (fun t i => ∃ (k : Nat) (J : List UInt8), k ≤ l.length ∧ i = .int .i64 k ∧ t = str J ∧ J.length ≤ 3020 ∧ Hid (J = Lib.join (l.take k) [32])) (fun _ i => l.length - (intOf i).toNat)
          case atStart => exact ⟨0, [], by omega, rfl, rfl, by simp, rfl⟩
          case round =>
            obtain ⟨k, J, hk, rfl, rfl, hJ, HJ⟩ := hrel
            by_cases hlt : k < l.length
            · obtain ⟨p, hp⟩ : ∃ p, l[k]? = some p := ⟨_, List.getElem?_eq_getElem hlt⟩
              obtain ⟨g, o, cap', hv, hc, hg, hcell⟩ := HT.out.inRow (fun e => by rw [e] at hlt; simp at hlt)
              cases hv
              have hpl := HM.out p (List.mem_of_getElem? hp)
              have c := hcell k p hp
              have HPK : Hid (l[k]? = some p) := hp
              clear hcell hp
              have e3 := join_take_le l (k + 1)
              by_cases hk0 : 0 < k
              · go_wp2_with fail
                go_round
                case rel =>
                  have e1 := join_next2 HPK.out hk0
                  exact ⟨k + 1, Lib.join (l.take (k + 1)) [32], by omega, by go_num, by rw [e1, ← HJ.out, str_add, str_add], by omega, rfl⟩
                case measure => simp [intOf]; omega
              · obtain rfl : k = 0 := by omega
                have c : w.cell? ⟨g, o, none⟩ = some (str p) := c
                go_wp2_with fail
                go_round
                case rel =>
                  have e1 := join_first2 HPK.out
                  exact ⟨0 + 1, Lib.join (l.take (0 + 1)) [32], by omega, by go_num, by rw [e1, str_add, HJ.out]; simp [Lib.join], by omega, rfl⟩
                case measure => simp [intOf]; omega
            · have hk2 : k = l.length := by omega
              obtain rfl : J = J0 := by
                have := HJ.out
                rw [hk2, List.take_length] at this
                exact this.trans HJ0.out
              clear hk2
              have c0 := HC.out
              go_wp2_with fail
              refine (HN.out _).mono ?_
              rintro e wp ⟨rfl, hw⟩
              obtain rfl := hw.symm
              go_wp2_with fail
              go_loop [14] (fun t => ∃ i : Nat, i ≤ s.size ∧ t = .int .i64 i ∧ Hid (∀ j, j < i → s.data.toList[j]? ≠ some 10)) (fun t => s.size - (intOf t).toNat)
              case atStart => exact ⟨0, by omega, rfl, fun j hj => by omega⟩
              case round =>
                obtain ⟨i, hi, rfl, hh⟩ := hrel
                by_cases hlt2 : i < s.size
                · cases hbt : (((s[i]'hlt2).toNat : Int) == 10)
                  · have HN2 : Hid (∀ j, j < i + 1 → s.data.toList[j]? ≠ some 10) := none_snoc hh.out hlt2 hbt
                    go_wp2_with fail
                    go_round
                    case rel => exact ⟨i + 1, by omega, by go_num, HN2⟩
                    case measure => simp [intOf]; omega
                  · have hten : s.data.toList[i]? = some 10 := by
                      rw [s_get s i hlt2]
                      have h1 := eq_of_beq hbt
                      rw [UInt8.toNat_inj.1 (show (s[i]'hlt2).toNat = (10 : UInt8).toNat by show _ = 10; omega)]
                    obtain ⟨e1, e2⟩ := line_at s.data.toList i hh.out (by simp; omega) (.inl hten)
                    have E1 : Hid (Lx = s.data.toList.take i) := by rw [← HLx.out]; exact e1
                    have E2 : Hid (Rx = s.data.toList.drop (i + 1)) := by rw [← HRx.out]; exact e2
                    clear hten e1 e2 hh
                    have hmin : min ((i : Int) + 1) s.size = (i : Int) + 1 := by omega
                    go_wp2_with fail
                    exact bodyPost_ret (v := .tuple #[.agg #[.string ⟨#[]⟩, .string (s.extract (i + 1) s.size), .int .i64 0, str a, .string (s.extract 0 i), .bool false], .bool true]) (by simp [results, Tryd.results10, go_sem]) rfl ⟨by rw [extract_drop, extract_take, E1.out, E2.out], two_new w _ _⟩
                · have hie : i = s.size := by omega
                  obtain ⟨e1, e2⟩ := line_at s.data.toList i hh.out (by simp; omega) (.inr (by simp; omega))
                  have E1 : Hid (Lx = s.data.toList.take i) := by rw [← HLx.out]; exact e1
                  have E2 : Hid (Rx = s.data.toList.drop s.size) := by
                    rw [← HRx.out]
                    rw [hie] at e2
                    show restL s.data.toList = _
                    rw [e2, List.drop_of_length_le (by simp), List.drop_of_length_le (by simp)]
                  clear e1 e2 hh
                  have hmin : min ((i : Int) + 1) s.size = (s.size : Int) := by omega
                  clear hie
                  go_wp2_with fail
                  exact bodyPost_ret (v := .tuple #[.agg #[.string ⟨#[]⟩, .string (s.extract s.size s.size), .int .i64 0, str a, .string (s.extract 0 i), .bool false], .bool true]) (by simp [results, Tryd.results10, go_sem]) rfl ⟨by rw [extract_drop, extract_take, E1.out, E2.out], two_new w _ _⟩
    · have hb1 : (l.length == 1) = false := by rw [beq_eq_false_iff_ne]; omega
      have hb3 : ((l.length : Int) == 1) = false := ne1 h1
      rw [read_no1 _ l h1]
      go_enter Tryd.func10, Tryd.ntmps10
      go_wp2_with fail
      go_loop [9, 10] (fun t i => ∃ (k : Nat) (J : List UInt8), k ≤ l.length ∧ i = .int .i64 k ∧ t = str J ∧ J.length ≤ 3020 ∧ Hid (J = Lib.join (l.take k) [32])) (fun _ i => l.length - (intOf i).toNat)
      case atStart => exact ⟨0, [], by omega, rfl, rfl, by simp, rfl⟩
      case round =>
        obtain ⟨k, J, hk, rfl, rfl, hJ, HJ⟩ := hrel
        by_cases hlt : k < l.length
        · obtain ⟨p, hp⟩ : ∃ p, l[k]? = some p := ⟨_, List.getElem?_eq_getElem hlt⟩
          obtain ⟨g, o, cap', hv, hc, hg, hcell⟩ := HT.out.inRow (fun e => by rw [e] at hlt; simp at hlt)
          cases hv
          have hpl := HM.out p (List.mem_of_getElem? hp)
          have c := hcell k p hp
          have HPK : Hid (l[k]? = some p) := hp
          clear hcell hp
          have e3 := join_take_le l (k + 1)
          by_cases hk0 : 0 < k
          · go_wp2_with fail
            go_round
            case rel =>
              have e1 := join_next2 HPK.out hk0
              exact ⟨k + 1, Lib.join (l.take (k + 1)) [32], by omega, by go_num, by rw [e1, ← HJ.out, str_add, str_add], by omega, rfl⟩
            case measure => simp [intOf]; omega
          · obtain rfl : k = 0 := by omega
            have c : w.cell? ⟨g, o, none⟩ = some (str p) := c
            go_wp2_with fail
            go_round
            case rel =>
              have e1 := join_first2 HPK.out
              exact ⟨0 + 1, Lib.join (l.take (0 + 1)) [32], by omega, by go_num, by rw [e1, str_add, HJ.out]; simp [Lib.join], by omega, rfl⟩
            case measure => simp [intOf]; omega
        · have hk2 : k = l.length := by omega
          obtain rfl : J = J0 := by
            have := HJ.out
            rw [hk2, List.take_length] at this
            exact this.trans HJ0.out
          clear hk2
          go_wp2_with fail
          exact bodyPost_ret (v := .tuple #[ocV ⟨[], s.data.toList, 1, [], [], false⟩, .bool true]) (by simp [results, Tryd.results10, go_sem]) rfl ⟨rfl, two_new w _ _⟩
set_option maxRecDepth 100000 in
set_option maxHeartbeats 1600000 in
theorem rdo_none (nm s : ByteArray) (v : Value) (l : List (List UInt8)) (w : World) (h : Tx w v l) (hn : l.length ≤ 20) (hz : sumT l ≤ 3000) (h0 : (nm.toList == [97, 100, 100]) = false) (h1 : (nm.toList == [99, 97, 116]) = false) (h2 : (nm.toList == [101, 99, 104, 111]) = false) (h3 : (nm.toList == [101, 113]) = false) (h4 : (nm.toList == [101, 120, 105, 116]) = false) (h5 : (nm.toList == [102, 97, 108, 115, 101]) = false) (h6 : (nm.toList == [108, 101, 115, 115]) = false) (h7 : (nm.toList == [108, 105, 107, 101]) = false) (h8 : (nm.toList == [112, 117, 116]) = false) (h9 : (nm.toList == [114, 101, 97, 100]) = false) (h10 : (nm.toList == [116, 114, 117, 101]) = false) :
    Calls Tryd.prog 10 #[.string nm, .string s, v] w fun e w' => e = .returned (.tuple #[ocV ⟨[], [], 0, [], [], false⟩, .bool false]) ∧ Below w.heap.size w w' := by
  have HT : Hid (Tx w v l) := h
  have HM : Hid (∀ p ∈ l, p.length ≤ 3000) := fun p hp => Nat.le_trans (sum_mem l p hp) hz
  obtain ⟨ad, cap, rfl⟩ := h.form
  obtain ⟨J0, hJ0⟩ : ∃ J0, Lib.join l [32] = J0 := ⟨_, rfl⟩
  have HJ0 : Hid (Lib.join l [32] = J0) := hJ0
  clear h hJ0
  rcases two_or l with ⟨x, y, hl⟩ | h2
  · have HL : Hid (l = [x, y]) := hl
    have hl2 : 2 ≤ l.length := by rw [hl]; simp
    have hb : ((l.length : Int) == 2) = true := by rw [hl]; rfl
    have HPX : Hid (∀ W, Calls Tryd.prog 25 #[str x] W fun e w' => e = .returned (.int .i64 (T.refNum (T.parseV x))) ∧ w' = W) := fun W => T.rparse_any ⟨x.toArray⟩ W
    have HPY : Hid (∀ W, Calls Tryd.prog 25 #[str y] W fun e w' => e = .returned (.int .i64 (T.refNum (T.parseV y))) ∧ w' = W) := fun W => T.rparse_any ⟨y.toArray⟩ W
    have HT2 : Hid (Tx w (.slice ad l.length cap) [x, y]) := by have := HT.out; rw [hl] at this ⊢; exact this
    obtain ⟨g, o, cap', hv, hc, hg, c0, c1⟩ := HT2.out.two
    have had : ad = some ⟨g, o, none⟩ := by have := hv; simp at this; exact this.1
    subst had
    have HC : Hid (w.cell? ⟨g, o, none⟩ = some (str x) ∧ w.cell? ⟨g, o + 1, none⟩ = some (str y)) := ⟨c0, c1⟩
    have hcap : 2 ≤ cap := by have := hv; simp at this; omega
    clear hl HT2 hv hc c0 c1
    obtain ⟨pa, hpa⟩ : ∃ pa, T.refNum (T.parseV x) = pa := ⟨_, rfl⟩
    obtain ⟨pb, hpb⟩ : ∃ pb, T.refNum (T.parseV y) = pb := ⟨_, rfl⟩
    rw [hpa] at HPX
    rw [hpb] at HPY
    clear hpa hpb
    go_enter Tryd.func10, Tryd.ntmps10
    go_wp2_with fail
    go_loop [9, 10] (fun t i => ∃ (k : Nat) (J : List UInt8), k ≤ l.length ∧ i = .int .i64 k ∧ t = str J ∧ J.length ≤ 3020 ∧ Hid (J = Lib.join (l.take k) [32])) (fun _ i => l.length - (intOf i).toNat)
    case atStart => exact ⟨0, [], by omega, rfl, rfl, by simp, rfl⟩
    case round =>
      obtain ⟨k, J, hk, rfl, rfl, hJ, HJ⟩ := hrel
      by_cases hlt : k < l.length
      · obtain ⟨p, hp⟩ : ∃ p, l[k]? = some p := ⟨_, List.getElem?_eq_getElem hlt⟩
        obtain ⟨g, o, cap', hv, hc, hg, hcell⟩ := HT.out.inRow (fun e => by rw [e] at hlt; simp at hlt)
        cases hv
        have hpl := HM.out p (List.mem_of_getElem? hp)
        have c := hcell k p hp
        have HPK : Hid (l[k]? = some p) := hp
        clear hcell hp
        have e3 := join_take_le l (k + 1)
        by_cases hk0 : 0 < k
        · go_wp2_with fail
          go_round
          case rel =>
            have e1 := join_next2 HPK.out hk0
            exact ⟨k + 1, Lib.join (l.take (k + 1)) [32], by omega, by go_num, by rw [e1, ← HJ.out, str_add, str_add], by omega, rfl⟩
          case measure => simp [intOf]; omega
        · obtain rfl : k = 0 := by omega
          have c : w.cell? ⟨g, o, none⟩ = some (str p) := c
          go_wp2_with fail
          go_round
          case rel =>
            have e1 := join_first2 HPK.out
            exact ⟨0 + 1, Lib.join (l.take (0 + 1)) [32], by omega, by go_num, by rw [e1, str_add, HJ.out]; simp [Lib.join], by omega, rfl⟩
          case measure => simp [intOf]; omega
      · have hk2 : k = l.length := by omega
        obtain rfl : J = J0 := by
          have := HJ.out
          rw [hk2, List.take_length] at this
          exact this.trans HJ0.out
        clear hk2
        obtain ⟨c0, c1⟩ := HC.out
        go_wp2_with fail
        refine (HPX.out _).mono ?_
        rintro e wp ⟨rfl, hw⟩
        obtain rfl := hw.symm
        go_wp2_with fail
        refine (HPY.out _).mono ?_
        rintro e wp ⟨rfl, hw⟩
        obtain rfl := hw.symm
        go_wp2_with fail
        exact bodyPost_ret (v := .tuple #[ocV ⟨[], [], 0, [], [], false⟩, .bool false]) (by simp [results, Tryd.results10, go_sem]) rfl ⟨rfl, two_new w _ _⟩
  · have hb := ne2 h2
    go_enter Tryd.func10, Tryd.ntmps10
    go_wp2_with fail
    go_loop [9, 10] (fun t i => ∃ (k : Nat) (J : List UInt8), k ≤ l.length ∧ i = .int .i64 k ∧ t = str J ∧ J.length ≤ 3020 ∧ Hid (J = Lib.join (l.take k) [32])) (fun _ i => l.length - (intOf i).toNat)
    case atStart => exact ⟨0, [], by omega, rfl, rfl, by simp, rfl⟩
    case round =>
      obtain ⟨k, J, hk, rfl, rfl, hJ, HJ⟩ := hrel
      by_cases hlt : k < l.length
      · obtain ⟨p, hp⟩ : ∃ p, l[k]? = some p := ⟨_, List.getElem?_eq_getElem hlt⟩
        obtain ⟨g, o, cap', hv, hc, hg, hcell⟩ := HT.out.inRow (fun e => by rw [e] at hlt; simp at hlt)
        cases hv
        have hpl := HM.out p (List.mem_of_getElem? hp)
        have c := hcell k p hp
        have HPK : Hid (l[k]? = some p) := hp
        clear hcell hp
        have e3 := join_take_le l (k + 1)
        by_cases hk0 : 0 < k
        · go_wp2_with fail
          go_round
          case rel =>
            have e1 := join_next2 HPK.out hk0
            exact ⟨k + 1, Lib.join (l.take (k + 1)) [32], by omega, by go_num, by rw [e1, ← HJ.out, str_add, str_add], by omega, rfl⟩
          case measure => simp [intOf]; omega
        · obtain rfl : k = 0 := by omega
          have c : w.cell? ⟨g, o, none⟩ = some (str p) := c
          go_wp2_with fail
          go_round
          case rel =>
            have e1 := join_first2 HPK.out
            exact ⟨0 + 1, Lib.join (l.take (0 + 1)) [32], by omega, by go_num, by rw [e1, str_add, HJ.out]; simp [Lib.join], by omega, rfl⟩
          case measure => simp [intOf]; omega
      · have hk2 : k = l.length := by omega
        obtain rfl : J = J0 := by
          have := HJ.out
          rw [hk2, List.take_length] at this
          exact this.trans HJ0.out
        clear hk2
        go_wp2_with fail
        exact bodyPost_ret (v := .tuple #[ocV ⟨[], [], 0, [], [], false⟩, .bool false]) (by simp [results, Tryd.results10, go_sem]) rfl ⟨rfl, two_new w _ _⟩
end Go.Proofs.YtiddlineklfhfaaDoor

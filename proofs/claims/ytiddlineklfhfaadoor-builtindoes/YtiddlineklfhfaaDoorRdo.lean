/- The document's own Do, name by name. -/
import Derived.Test.YtiddlineklfhfaaDoorDo2
import Derived.Test.YtiddlineklfhfaaDoorRefN
import Derived.Test.YtiddlineklfhfaaDoorJoins
namespace Go.Proofs.YtiddlineklfhfaaDoor
open Go.RowKit Go.Shelf
attribute [local go_sem] Oper.semAt_some

theorem size28 : (Tryd.prog.info? 28).map (·.size) = some 6 := by kernel_rfl
theorem results_oc28 {fn : Func} {p u : Tmp} (h : fn.results = #[.cell p 28, .tmp u]) (tmps : Array Value) (w : World) (g : Nat) (cs : Array Value) (hp : tmps.getD p undef = .pointer (some ⟨g, 0, none⟩)) (hc : Cel w g 28 cs) (hz : cs.size = 6) :
    (results fn tmps).run Tryd.prog w = .ok (.tuple #[.agg cs, tmps.getD u undef]) w := by
  rw [results_cell_tmp h, hp]
  simp only [asAddr, Sem.run_pure, Result.andThen]
  rw [run_loadVar_row w g 28 28 cs (0, 0) _ hc Tryd.underlying28 rfl (by rw [hz]; exact size28)]
theorem Cel.first28 {w w2 : World} {o : Obj} (h : Below ((w.alloc (.cells zeroC 28)).alloc o).heap.size ((w.alloc (.cells zeroC 28)).alloc o) w2) : Cel w2 w.heap.size 28 zeroC :=
  Cel.below ((Cel.new w 28 _).alloc _) h (by simp; omega)
theorem sum_mem (l : List (List UInt8)) : ∀ p ∈ l, p.length ≤ sumT l := by
  induction l with
  | nil => intro p hp; simp at hp
  | cons a l ih =>
    intro p hp
    simp only [sumT, List.map_cons, List.sum_cons] at ih ⊢
    rcases List.mem_cons.1 hp with rfl | hp
    · omega
    · have := ih p hp
      omega
set_option maxRecDepth 100000 in
set_option maxHeartbeats 1600000 in
theorem rdo_echo (s : ByteArray) (v : Value) (l : List (List UInt8)) (w : World) (h : Tx w v l) (hn : l.length ≤ 20) (hz : sumT l ≤ 3000) :
    Calls Tryd.prog 10 #[.string ⟨#[101, 99, 104, 111]⟩, .string s, v] w fun e w' => e = .returned (.tuple #[ocV ⟨Lib.join l [32] ++ [10], s.data.toList, 0, [], [], false⟩, .bool true]) ∧ Below w.heap.size w w' := by
  have HT : Hid (Tx w v l) := h
  have HM : Hid (∀ p ∈ l, p.length ≤ 3000) := fun p hp => Nat.le_trans (sum_mem l p hp) hz
  obtain ⟨ad, cap, rfl⟩ := h.form
  obtain ⟨J0, hJ0⟩ : ∃ J0, Lib.join l [32] = J0 := ⟨_, rfl⟩
  have HJ0 : Hid (Lib.join l [32] = J0) := hJ0
  rw [hJ0]
  clear h hJ0
  rcases two_or l with ⟨x, y, hl⟩ | h2
  · have HL : Hid (l = [x, y]) := hl
    have hl2 : 2 ≤ l.length := by rw [hl]; simp
    have hb : ((l.length : Int) == 2) = true := by rw [hl]; rfl
    have HPX : Hid (∀ W, Calls Tryd.prog 25 #[str x] W fun e w' => e = .returned (.int .i64 (T.refNum (T.parseV x))) ∧ w' = W) := fun W => T.rparse_any ⟨x.toArray⟩ W
    have HPY : Hid (∀ W, Calls Tryd.prog 25 #[str y] W fun e w' => e = .returned (.int .i64 (T.refNum (T.parseV y))) ∧ w' = W) := fun W => T.rparse_any ⟨y.toArray⟩ W
    have HT2 : Hid (Tx w (.slice ad l.length cap) [x, y]) := by have := HT.out; rw [hl] at this ⊢; exact this
    obtain ⟨g, o, cap', hv, hc, hg, c0, c1⟩ := HT2.out.two
    have had : ad = some ⟨g, o, none⟩ := by have := hv; simp at this; exact this.1
    subst had
    have HC : Hid (w.cell? ⟨g, o, none⟩ = some (str x) ∧ w.cell? ⟨g, o + 1, none⟩ = some (str y)) := ⟨c0, c1⟩
    have hcap : 2 ≤ cap := by have := hv; simp at this; omega
    clear hl HT2 hv hc c0 c1
    obtain ⟨pa, hpa⟩ : ∃ pa, T.refNum (T.parseV x) = pa := ⟨_, rfl⟩
    obtain ⟨pb, hpb⟩ : ∃ pb, T.refNum (T.parseV y) = pb := ⟨_, rfl⟩
    rw [hpa] at HPX
    rw [hpb] at HPY
    clear hpa hpb
    go_enter Tryd.func10, Tryd.ntmps10
    go_wp2_with fail
    go_loop [9, 10] (fun t i => ∃ (k : Nat) (J : List UInt8), k ≤ l.length ∧ i = .int .i64 k ∧ t = str J ∧ J.length ≤ 3020 ∧ Hid (J = Lib.join (l.take k) [32])) (fun _ i => l.length - (intOf i).toNat)
    case atStart => exact ⟨0, [], by omega, rfl, rfl, by simp, rfl⟩
    case round =>
      obtain ⟨k, J, hk, rfl, rfl, hJ, HJ⟩ := hrel
      by_cases hlt : k < l.length
      · obtain ⟨p, hp⟩ : ∃ p, l[k]? = some p := ⟨_, List.getElem?_eq_getElem hlt⟩
        obtain ⟨g, o, cap', hv, hc, hg, hcell⟩ := HT.out.inRow (fun e => by rw [e] at hlt; simp at hlt)
        cases hv
        have hpl := HM.out p (List.mem_of_getElem? hp)
        have c := hcell k p hp
        have HPK : Hid (l[k]? = some p) := hp
        clear hcell hp
        have e3 := join_take_le l (k + 1)
        by_cases hk0 : 0 < k
        · go_wp2_with fail
          go_round
          case rel =>
            have e1 := join_next2 HPK.out hk0
            exact ⟨k + 1, Lib.join (l.take (k + 1)) [32], by omega, by go_num, by rw [e1, ← HJ.out, str_add, str_add], by omega, rfl⟩
          case measure => simp [intOf]; omega
        · obtain rfl : k = 0 := by omega
          have c : w.cell? ⟨g, o, none⟩ = some (str p) := c
          go_wp2_with fail
          go_round
          case rel =>
            have e1 := join_first2 HPK.out
            exact ⟨0 + 1, Lib.join (l.take (0 + 1)) [32], by omega, by go_num, by rw [e1, str_add, HJ.out]; simp [Lib.join], by omega, rfl⟩
          case measure => simp [intOf]; omega
      · have hk2 : k = l.length := by omega
        obtain rfl : J = J0 := by
          have := HJ.out
          rw [hk2, List.take_length] at this
          exact this.trans HJ0.out
        clear hk2
        obtain ⟨c0, c1⟩ := HC.out
        go_wp2_with fail
        refine (HPX.out _).mono ?_
        rintro e wp ⟨rfl, hw⟩
        obtain rfl := hw.symm
        go_wp2_with fail
        refine (HPY.out _).mono ?_
        rintro e wp ⟨rfl, hw⟩
        obtain rfl := hw.symm
        go_wp2_with fail
        exact bodyPost_ret (v := .tuple #[ocV ⟨J ++ [10], s.data.toList, 0, [], [], false⟩, .bool true]) (by simp [results, Tryd.results10, go_sem, str_add]) rfl ⟨rfl, two_new w _ _⟩
  · have hb := ne2 h2
    go_enter Tryd.func10, Tryd.ntmps10
    go_wp2_with fail
    go_loop [9, 10] (fun t i => ∃ (k : Nat) (J : List UInt8), k ≤ l.length ∧ i = .int .i64 k ∧ t = str J ∧ J.length ≤ 3020 ∧ Hid (J = Lib.join (l.take k) [32])) (fun _ i => l.length - (intOf i).toNat)
    case atStart => exact ⟨0, [], by omega, rfl, rfl, by simp, rfl⟩
    case round =>
      obtain ⟨k, J, hk, rfl, rfl, hJ, HJ⟩ := hrel
      by_cases hlt : k < l.length
      · obtain ⟨p, hp⟩ : ∃ p, l[k]? = some p := ⟨_, List.getElem?_eq_getElem hlt⟩
        obtain ⟨g, o, cap', hv, hc, hg, hcell⟩ := HT.out.inRow (fun e => by rw [e] at hlt; simp at hlt)
        cases hv
        have hpl := HM.out p (List.mem_of_getElem? hp)
        have c := hcell k p hp
        have HPK : Hid (l[k]? = some p) := hp
        clear hcell hp
        have e3 := join_take_le l (k + 1)
        by_cases hk0 : 0 < k
        · go_wp2_with fail
          go_round
          case rel =>
            have e1 := join_next2 HPK.out hk0
            exact ⟨k + 1, Lib.join (l.take (k + 1)) [32], by omega, by go_num, by rw [e1, ← HJ.out, str_add, str_add], by omega, rfl⟩
          case measure => simp [intOf]; omega
        · obtain rfl : k = 0 := by omega
          have c : w.cell? ⟨g, o, none⟩ = some (str p) := c
          go_wp2_with fail
          go_round
          case rel =>
            have e1 := join_first2 HPK.out
            exact ⟨0 + 1, Lib.join (l.take (0 + 1)) [32], by omega, by go_num, by rw [e1, str_add, HJ.out]; simp [Lib.join], by omega, rfl⟩
          case measure => simp [intOf]; omega
      · have hk2 : k = l.length := by omega
        obtain rfl : J = J0 := by
          have := HJ.out
          rw [hk2, List.take_length] at this
          exact this.trans HJ0.out
        clear hk2
        go_wp2_with fail
        exact bodyPost_ret (v := .tuple #[ocV ⟨J ++ [10], s.data.toList, 0, [], [], false⟩, .bool true]) (by simp [results, Tryd.results10, go_sem, str_add]) rfl ⟨rfl, two_new w _ _⟩
set_option maxRecDepth 100000 in
set_option maxHeartbeats 1600000 in
theorem rdo_put (s : ByteArray) (v : Value) (l : List (List UInt8)) (w : World) (h : Tx w v l) (hn : l.length ≤ 20) (hz : sumT l ≤ 3000) :
    Calls Tryd.prog 10 #[.string ⟨#[112, 117, 116]⟩, .string s, v] w fun e w' => e = .returned (.tuple #[ocV ⟨Lib.join l [32], s.data.toList, 0, [], [], false⟩, .bool true]) ∧ Below w.heap.size w w' := by
  have HT : Hid (Tx w v l) := h
  have HM : Hid (∀ p ∈ l, p.length ≤ 3000) := fun p hp => Nat.le_trans (sum_mem l p hp) hz
  obtain ⟨ad, cap, rfl⟩ := h.form
  obtain ⟨J0, hJ0⟩ : ∃ J0, Lib.join l [32] = J0 := ⟨_, rfl⟩
  have HJ0 : Hid (Lib.join l [32] = J0) := hJ0
  rw [hJ0]
  clear h hJ0
  rcases two_or l with ⟨x, y, hl⟩ | h2
  · have HL : Hid (l = [x, y]) := hl
    have hl2 : 2 ≤ l.length := by rw [hl]; simp
    have hb : ((l.length : Int) == 2) = true := by rw [hl]; rfl
    have HPX : Hid (∀ W, Calls Tryd.prog 25 #[str x] W fun e w' => e = .returned (.int .i64 (T.refNum (T.parseV x))) ∧ w' = W) := fun W => T.rparse_any ⟨x.toArray⟩ W
    have HPY : Hid (∀ W, Calls Tryd.prog 25 #[str y] W fun e w' => e = .returned (.int .i64 (T.refNum (T.parseV y))) ∧ w' = W) := fun W => T.rparse_any ⟨y.toArray⟩ W
    have HT2 : Hid (Tx w (.slice ad l.length cap) [x, y]) := by have := HT.out; rw [hl] at this ⊢; exact this
    obtain ⟨g, o, cap', hv, hc, hg, c0, c1⟩ := HT2.out.two
    have had : ad = some ⟨g, o, none⟩ := by have := hv; simp at this; exact this.1
    subst had
    have HC : Hid (w.cell? ⟨g, o, none⟩ = some (str x) ∧ w.cell? ⟨g, o + 1, none⟩ = some (str y)) := ⟨c0, c1⟩
    have hcap : 2 ≤ cap := by have := hv; simp at this; omega
    clear hl HT2 hv hc c0 c1
    obtain ⟨pa, hpa⟩ : ∃ pa, T.refNum (T.parseV x) = pa := ⟨_, rfl⟩
    obtain ⟨pb, hpb⟩ : ∃ pb, T.refNum (T.parseV y) = pb := ⟨_, rfl⟩
    rw [hpa] at HPX
    rw [hpb] at HPY
    clear hpa hpb
    go_enter Tryd.func10, Tryd.ntmps10
    go_wp2_with fail
    go_loop [9, 10] (fun t i => ∃ (k : Nat) (J : List UInt8), k ≤ l.length ∧ i = .int .i64 k ∧ t = str J ∧ J.length ≤ 3020 ∧ Hid (J = Lib.join (l.take k) [32])) (fun _ i => l.length - (intOf i).toNat)
    case atStart => exact ⟨0, [], by omega, rfl, rfl, by simp, rfl⟩
    case round =>
      obtain ⟨k, J, hk, rfl, rfl, hJ, HJ⟩ := hrel
      by_cases hlt : k < l.length
      · obtain ⟨p, hp⟩ : ∃ p, l[k]? = some p := ⟨_, List.getElem?_eq_getElem hlt⟩
        obtain ⟨g, o, cap', hv, hc, hg, hcell⟩ := HT.out.inRow (fun e => by rw [e] at hlt; simp at hlt)
        cases hv
        have hpl := HM.out p (List.mem_of_getElem? hp)
        have c := hcell k p hp
        have HPK : Hid (l[k]? = some p) := hp
        clear hcell hp
        have e3 := join_take_le l (k + 1)
        by_cases hk0 : 0 < k
        · go_wp2_with fail
          go_round
          case rel =>
            have e1 := join_next2 HPK.out hk0
            exact ⟨k + 1, Lib.join (l.take (k + 1)) [32], by omega, by go_num, by rw [e1, ← HJ.out, str_add, str_add], by omega, rfl⟩
          case measure => simp [intOf]; omega
        · obtain rfl : k = 0 := by omega
          have c : w.cell? ⟨g, o, none⟩ = some (str p) := c
          go_wp2_with fail
          go_round
          case rel =>
            have e1 := join_first2 HPK.out
            exact ⟨0 + 1, Lib.join (l.take (0 + 1)) [32], by omega, by go_num, by rw [e1, str_add, HJ.out]; simp [Lib.join], by omega, rfl⟩
          case measure => simp [intOf]; omega
      · have hk2 : k = l.length := by omega
        obtain rfl : J = J0 := by
          have := HJ.out
          rw [hk2, List.take_length] at this
          exact this.trans HJ0.out
        clear hk2
        obtain ⟨c0, c1⟩ := HC.out
        go_wp2_with fail
        refine (HPX.out _).mono ?_
        rintro e wp ⟨rfl, hw⟩
        obtain rfl := hw.symm
        go_wp2_with fail
        refine (HPY.out _).mono ?_
        rintro e wp ⟨rfl, hw⟩
        obtain rfl := hw.symm
        go_wp2_with fail
        exact bodyPost_ret (v := .tuple #[ocV ⟨J, s.data.toList, 0, [], [], false⟩, .bool true]) (by simp [results, Tryd.results10, go_sem]) rfl ⟨rfl, two_new w _ _⟩
  · have hb := ne2 h2
    go_enter Tryd.func10, Tryd.ntmps10
    go_wp2_with fail
    go_loop [9, 10] (fun t i => ∃ (k : Nat) (J : List UInt8), k ≤ l.length ∧ i = .int .i64 k ∧ t = str J ∧ J.length ≤ 3020 ∧ Hid (J = Lib.join (l.take k) [32])) (fun _ i => l.length - (intOf i).toNat)
    case atStart => exact ⟨0, [], by omega, rfl, rfl, by simp, rfl⟩
    case round =>
      obtain ⟨k, J, hk, rfl, rfl, hJ, HJ⟩ := hrel
      by_cases hlt : k < l.length
      · obtain ⟨p, hp⟩ : ∃ p, l[k]? = some p := ⟨_, List.getElem?_eq_getElem hlt⟩
        obtain ⟨g, o, cap', hv, hc, hg, hcell⟩ := HT.out.inRow (fun e => by rw [e] at hlt; simp at hlt)
        cases hv
        have hpl := HM.out p (List.mem_of_getElem? hp)
        have c := hcell k p hp
        have HPK : Hid (l[k]? = some p) := hp
        clear hcell hp
        have e3 := join_take_le l (k + 1)
        by_cases hk0 : 0 < k
        · go_wp2_with fail
          go_round
          case rel =>
            have e1 := join_next2 HPK.out hk0
            exact ⟨k + 1, Lib.join (l.take (k + 1)) [32], by omega, by go_num, by rw [e1, ← HJ.out, str_add, str_add], by omega, rfl⟩
          case measure => simp [intOf]; omega
        · obtain rfl : k = 0 := by omega
          have c : w.cell? ⟨g, o, none⟩ = some (str p) := c
          go_wp2_with fail
          go_round
          case rel =>
            have e1 := join_first2 HPK.out
            exact ⟨0 + 1, Lib.join (l.take (0 + 1)) [32], by omega, by go_num, by rw [e1, str_add, HJ.out]; simp [Lib.join], by omega, rfl⟩
          case measure => simp [intOf]; omega
      · have hk2 : k = l.length := by omega
        obtain rfl : J = J0 := by
          have := HJ.out
          rw [hk2, List.take_length] at this
          exact this.trans HJ0.out
        clear hk2
        go_wp2_with fail
        exact bodyPost_ret (v := .tuple #[ocV ⟨J, s.data.toList, 0, [], [], false⟩, .bool true]) (by simp [results, Tryd.results10, go_sem]) rfl ⟨rfl, two_new w _ _⟩
set_option maxRecDepth 100000 in
set_option maxHeartbeats 1600000 in
theorem rdo_cat (s : ByteArray) (v : Value) (l : List (List UInt8)) (w : World) (h : Tx w v l) (hn : l.length ≤ 20) (hz : sumT l ≤ 3000) :
    Calls Tryd.prog 10 #[.string ⟨#[99, 97, 116]⟩, .string s, v] w fun e w' => e = .returned (.tuple #[ocV ⟨s.data.toList, [], 0, [], [], false⟩, .bool true]) ∧ Below w.heap.size w w' := by
  have HT : Hid (Tx w v l) := h
  have HM : Hid (∀ p ∈ l, p.length ≤ 3000) := fun p hp => Nat.le_trans (sum_mem l p hp) hz
  obtain ⟨ad, cap, rfl⟩ := h.form
  obtain ⟨J0, hJ0⟩ : ∃ J0, Lib.join l [32] = J0 := ⟨_, rfl⟩
  have HJ0 : Hid (Lib.join l [32] = J0) := hJ0
  clear h hJ0
  rcases two_or l with ⟨x, y, hl⟩ | h2
  · have HL : Hid (l = [x, y]) := hl
    have hl2 : 2 ≤ l.length := by rw [hl]; simp
    have hb : ((l.length : Int) == 2) = true := by rw [hl]; rfl
    have HPX : Hid (∀ W, Calls Tryd.prog 25 #[str x] W fun e w' => e = .returned (.int .i64 (T.refNum (T.parseV x))) ∧ w' = W) := fun W => T.rparse_any ⟨x.toArray⟩ W
    have HPY : Hid (∀ W, Calls Tryd.prog 25 #[str y] W fun e w' => e = .returned (.int .i64 (T.refNum (T.parseV y))) ∧ w' = W) := fun W => T.rparse_any ⟨y.toArray⟩ W
    have HT2 : Hid (Tx w (.slice ad l.length cap) [x, y]) := by have := HT.out; rw [hl] at this ⊢; exact this
    obtain ⟨g, o, cap', hv, hc, hg, c0, c1⟩ := HT2.out.two
    have had : ad = some ⟨g, o, none⟩ := by have := hv; simp at this; exact this.1
    subst had
    have HC : Hid (w.cell? ⟨g, o, none⟩ = some (str x) ∧ w.cell? ⟨g, o + 1, none⟩ = some (str y)) := ⟨c0, c1⟩
    have hcap : 2 ≤ cap := by have := hv; simp at this; omega
    clear hl HT2 hv hc c0 c1
    obtain ⟨pa, hpa⟩ : ∃ pa, T.refNum (T.parseV x) = pa := ⟨_, rfl⟩
    obtain ⟨pb, hpb⟩ : ∃ pb, T.refNum (T.parseV y) = pb := ⟨_, rfl⟩
    rw [hpa] at HPX
    rw [hpb] at HPY
    clear hpa hpb
    go_enter Tryd.func10, Tryd.ntmps10
    go_wp2_with fail
    go_loop [9, 10] (fun t i => ∃ (k : Nat) (J : List UInt8), k ≤ l.length ∧ i = .int .i64 k ∧ t = str J ∧ J.length ≤ 3020 ∧ Hid (J = Lib.join (l.take k) [32])) (fun _ i => l.length - (intOf i).toNat)
    case atStart => exact ⟨0, [], by omega, rfl, rfl, by simp, rfl⟩
    case round =>
      obtain ⟨k, J, hk, rfl, rfl, hJ, HJ⟩ := hrel
      by_cases hlt : k < l.length
      · obtain ⟨p, hp⟩ : ∃ p, l[k]? = some p := ⟨_, List.getElem?_eq_getElem hlt⟩
        obtain ⟨g, o, cap', hv, hc, hg, hcell⟩ := HT.out.inRow (fun e => by rw [e] at hlt; simp at hlt)
        cases hv
        have hpl := HM.out p (List.mem_of_getElem? hp)
        have c := hcell k p hp
        have HPK : Hid (l[k]? = some p) := hp
        clear hcell hp
        have e3 := join_take_le l (k + 1)
        by_cases hk0 : 0 < k
        · go_wp2_with fail
          go_round
          case rel =>
            have e1 := join_next2 HPK.out hk0
            exact ⟨k + 1, Lib.join (l.take (k + 1)) [32], by omega, by go_num, by rw [e1, ← HJ.out, str_add, str_add], by omega, rfl⟩
          case measure => simp [intOf]; omega
        · obtain rfl : k = 0 := by omega
          have c : w.cell? ⟨g, o, none⟩ = some (str p) := c
          go_wp2_with fail
          go_round
          case rel =>
            have e1 := join_first2 HPK.out
            exact ⟨0 + 1, Lib.join (l.take (0 + 1)) [32], by omega, by go_num, by rw [e1, str_add, HJ.out]; simp [Lib.join], by omega, rfl⟩
          case measure => simp [intOf]; omega
      · have hk2 : k = l.length := by omega
        obtain rfl : J = J0 := by
          have := HJ.out
          rw [hk2, List.take_length] at this
          exact this.trans HJ0.out
        clear hk2
        obtain ⟨c0, c1⟩ := HC.out
        go_wp2_with fail
        refine (HPX.out _).mono ?_
        rintro e wp ⟨rfl, hw⟩
        obtain rfl := hw.symm
        go_wp2_with fail
        refine (HPY.out _).mono ?_
        rintro e wp ⟨rfl, hw⟩
        obtain rfl := hw.symm
        go_wp2_with fail
        exact bodyPost_ret (v := .tuple #[ocV ⟨s.data.toList, [], 0, [], [], false⟩, .bool true]) (by simp [results, Tryd.results10, go_sem]) rfl ⟨rfl, two_new w _ _⟩
  · have hb := ne2 h2
    go_enter Tryd.func10, Tryd.ntmps10
    go_wp2_with fail
    go_loop [9, 10] (fun t i => ∃ (k : Nat) (J : List UInt8), k ≤ l.length ∧ i = .int .i64 k ∧ t = str J ∧ J.length ≤ 3020 ∧ Hid (J = Lib.join (l.take k) [32])) (fun _ i => l.length - (intOf i).toNat)
    case atStart => exact ⟨0, [], by omega, rfl, rfl, by simp, rfl⟩
    case round =>
      obtain ⟨k, J, hk, rfl, rfl, hJ, HJ⟩ := hrel
      by_cases hlt : k < l.length
      · obtain ⟨p, hp⟩ : ∃ p, l[k]? = some p := ⟨_, List.getElem?_eq_getElem hlt⟩
        obtain ⟨g, o, cap', hv, hc, hg, hcell⟩ := HT.out.inRow (fun e => by rw [e] at hlt; simp at hlt)
        cases hv
        have hpl := HM.out p (List.mem_of_getElem? hp)
        have c := hcell k p hp
        have HPK : Hid (l[k]? = some p) := hp
        clear hcell hp
        have e3 := join_take_le l (k + 1)
        by_cases hk0 : 0 < k
        · go_wp2_with fail
          go_round
          case rel =>
            have e1 := join_next2 HPK.out hk0
            exact ⟨k + 1, Lib.join (l.take (k + 1)) [32], by omega, by go_num, by rw [e1, ← HJ.out, str_add, str_add], by omega, rfl⟩
          case measure => simp [intOf]; omega
        · obtain rfl : k = 0 := by omega
          have c : w.cell? ⟨g, o, none⟩ = some (str p) := c
          go_wp2_with fail
          go_round
          case rel =>
            have e1 := join_first2 HPK.out
            exact ⟨0 + 1, Lib.join (l.take (0 + 1)) [32], by omega, by go_num, by rw [e1, str_add, HJ.out]; simp [Lib.join], by omega, rfl⟩
          case measure => simp [intOf]; omega
      · have hk2 : k = l.length := by omega
        obtain rfl : J = J0 := by
          have := HJ.out
          rw [hk2, List.take_length] at this
          exact this.trans HJ0.out
        clear hk2
        go_wp2_with fail
        exact bodyPost_ret (v := .tuple #[ocV ⟨s.data.toList, [], 0, [], [], false⟩, .bool true]) (by simp [results, Tryd.results10, go_sem]) rfl ⟨rfl, two_new w _ _⟩
set_option maxRecDepth 100000 in
set_option maxHeartbeats 1600000 in
theorem rdo_true (s : ByteArray) (v : Value) (l : List (List UInt8)) (w : World) (h : Tx w v l) (hn : l.length ≤ 20) (hz : sumT l ≤ 3000) :
    Calls Tryd.prog 10 #[.string ⟨#[116, 114, 117, 101]⟩, .string s, v] w fun e w' => e = .returned (.tuple #[ocV ⟨[], s.data.toList, 0, [], [], false⟩, .bool true]) ∧ Below w.heap.size w w' := by
  have HT : Hid (Tx w v l) := h
  have HM : Hid (∀ p ∈ l, p.length ≤ 3000) := fun p hp => Nat.le_trans (sum_mem l p hp) hz
  obtain ⟨ad, cap, rfl⟩ := h.form
  obtain ⟨J0, hJ0⟩ : ∃ J0, Lib.join l [32] = J0 := ⟨_, rfl⟩
  have HJ0 : Hid (Lib.join l [32] = J0) := hJ0
  clear h hJ0
  rcases two_or l with ⟨x, y, hl⟩ | h2
  · have HL : Hid (l = [x, y]) := hl
    have hl2 : 2 ≤ l.length := by rw [hl]; simp
    have hb : ((l.length : Int) == 2) = true := by rw [hl]; rfl
    have HPX : Hid (∀ W, Calls Tryd.prog 25 #[str x] W fun e w' => e = .returned (.int .i64 (T.refNum (T.parseV x))) ∧ w' = W) := fun W => T.rparse_any ⟨x.toArray⟩ W
    have HPY : Hid (∀ W, Calls Tryd.prog 25 #[str y] W fun e w' => e = .returned (.int .i64 (T.refNum (T.parseV y))) ∧ w' = W) := fun W => T.rparse_any ⟨y.toArray⟩ W
    have HT2 : Hid (Tx w (.slice ad l.length cap) [x, y]) := by have := HT.out; rw [hl] at this ⊢; exact this
    obtain ⟨g, o, cap', hv, hc, hg, c0, c1⟩ := HT2.out.two
    have had : ad = some ⟨g, o, none⟩ := by have := hv; simp at this; exact this.1
    subst had
    have HC : Hid (w.cell? ⟨g, o, none⟩ = some (str x) ∧ w.cell? ⟨g, o + 1, none⟩ = some (str y)) := ⟨c0, c1⟩
    have hcap : 2 ≤ cap := by have := hv; simp at this; omega
    clear hl HT2 hv hc c0 c1
    obtain ⟨pa, hpa⟩ : ∃ pa, T.refNum (T.parseV x) = pa := ⟨_, rfl⟩
    obtain ⟨pb, hpb⟩ : ∃ pb, T.refNum (T.parseV y) = pb := ⟨_, rfl⟩
    rw [hpa] at HPX
    rw [hpb] at HPY
    clear hpa hpb
    go_enter Tryd.func10, Tryd.ntmps10
    go_wp2_with fail
    go_loop [9, 10] (fun t i => ∃ (k : Nat) (J : List UInt8), k ≤ l.length ∧ i = .int .i64 k ∧ t = str J ∧ J.length ≤ 3020 ∧ Hid (J = Lib.join (l.take k) [32])) (fun _ i => l.length - (intOf i).toNat)
    case atStart => exact ⟨0, [], by omega, rfl, rfl, by simp, rfl⟩
    case round =>
      obtain ⟨k, J, hk, rfl, rfl, hJ, HJ⟩ := hrel
      by_cases hlt : k < l.length
      · obtain ⟨p, hp⟩ : ∃ p, l[k]? = some p := ⟨_, List.getElem?_eq_getElem hlt⟩
        obtain ⟨g, o, cap', hv, hc, hg, hcell⟩ := HT.out.inRow (fun e => by rw [e] at hlt; simp at hlt)
        cases hv
        have hpl := HM.out p (List.mem_of_getElem? hp)
        have c := hcell k p hp
        have HPK : Hid (l[k]? = some p) := hp
        clear hcell hp
        have e3 := join_take_le l (k + 1)
        by_cases hk0 : 0 < k
        · go_wp2_with fail
          go_round
          case rel =>
            have e1 := join_next2 HPK.out hk0
            exact ⟨k + 1, Lib.join (l.take (k + 1)) [32], by omega, by go_num, by rw [e1, ← HJ.out, str_add, str_add], by omega, rfl⟩
          case measure => simp [intOf]; omega
        · obtain rfl : k = 0 := by omega
          have c : w.cell? ⟨g, o, none⟩ = some (str p) := c
          go_wp2_with fail
          go_round
          case rel =>
            have e1 := join_first2 HPK.out
            exact ⟨0 + 1, Lib.join (l.take (0 + 1)) [32], by omega, by go_num, by rw [e1, str_add, HJ.out]; simp [Lib.join], by omega, rfl⟩
          case measure => simp [intOf]; omega
      · have hk2 : k = l.length := by omega
        obtain rfl : J = J0 := by
          have := HJ.out
          rw [hk2, List.take_length] at this
          exact this.trans HJ0.out
        clear hk2
        obtain ⟨c0, c1⟩ := HC.out
        go_wp2_with fail
        refine (HPX.out _).mono ?_
        rintro e wp ⟨rfl, hw⟩
        obtain rfl := hw.symm
        go_wp2_with fail
        refine (HPY.out _).mono ?_
        rintro e wp ⟨rfl, hw⟩
        obtain rfl := hw.symm
        go_wp2_with fail
        exact bodyPost_ret (v := .tuple #[ocV ⟨[], s.data.toList, 0, [], [], false⟩, .bool true]) (by simp [results, Tryd.results10, go_sem]) rfl ⟨rfl, two_new w _ _⟩
  · have hb := ne2 h2
    go_enter Tryd.func10, Tryd.ntmps10
    go_wp2_with fail
    go_loop [9, 10] (fun t i => ∃ (k : Nat) (J : List UInt8), k ≤ l.length ∧ i = .int .i64 k ∧ t = str J ∧ J.length ≤ 3020 ∧ Hid (J = Lib.join (l.take k) [32])) (fun _ i => l.length - (intOf i).toNat)
    case atStart => exact ⟨0, [], by omega, rfl, rfl, by simp, rfl⟩
    case round =>
      obtain ⟨k, J, hk, rfl, rfl, hJ, HJ⟩ := hrel
      by_cases hlt : k < l.length
      · obtain ⟨p, hp⟩ : ∃ p, l[k]? = some p := ⟨_, List.getElem?_eq_getElem hlt⟩
        obtain ⟨g, o, cap', hv, hc, hg, hcell⟩ := HT.out.inRow (fun e => by rw [e] at hlt; simp at hlt)
        cases hv
        have hpl := HM.out p (List.mem_of_getElem? hp)
        have c := hcell k p hp
        have HPK : Hid (l[k]? = some p) := hp
        clear hcell hp
        have e3 := join_take_le l (k + 1)
        by_cases hk0 : 0 < k
        · go_wp2_with fail
          go_round
          case rel =>
            have e1 := join_next2 HPK.out hk0
            exact ⟨k + 1, Lib.join (l.take (k + 1)) [32], by omega, by go_num, by rw [e1, ← HJ.out, str_add, str_add], by omega, rfl⟩
          case measure => simp [intOf]; omega
        · obtain rfl : k = 0 := by omega
          have c : w.cell? ⟨g, o, none⟩ = some (str p) := c
          go_wp2_with fail
          go_round
          case rel =>
            have e1 := join_first2 HPK.out
            exact ⟨0 + 1, Lib.join (l.take (0 + 1)) [32], by omega, by go_num, by rw [e1, str_add, HJ.out]; simp [Lib.join], by omega, rfl⟩
          case measure => simp [intOf]; omega
      · have hk2 : k = l.length := by omega
        obtain rfl : J = J0 := by
          have := HJ.out
          rw [hk2, List.take_length] at this
          exact this.trans HJ0.out
        clear hk2
        go_wp2_with fail
        exact bodyPost_ret (v := .tuple #[ocV ⟨[], s.data.toList, 0, [], [], false⟩, .bool true]) (by simp [results, Tryd.results10, go_sem]) rfl ⟨rfl, two_new w _ _⟩
set_option maxRecDepth 100000 in
set_option maxHeartbeats 1600000 in
theorem rdo_false (s : ByteArray) (v : Value) (l : List (List UInt8)) (w : World) (h : Tx w v l) (hn : l.length ≤ 20) (hz : sumT l ≤ 3000) :
    Calls Tryd.prog 10 #[.string ⟨#[102, 97, 108, 115, 101]⟩, .string s, v] w fun e w' => e = .returned (.tuple #[ocV ⟨[], s.data.toList, 1, [], [], false⟩, .bool true]) ∧ Below w.heap.size w w' := by
  have HT : Hid (Tx w v l) := h
  have HM : Hid (∀ p ∈ l, p.length ≤ 3000) := fun p hp => Nat.le_trans (sum_mem l p hp) hz
  obtain ⟨ad, cap, rfl⟩ := h.form
  obtain ⟨J0, hJ0⟩ : ∃ J0, Lib.join l [32] = J0 := ⟨_, rfl⟩
  have HJ0 : Hid (Lib.join l [32] = J0) := hJ0
  clear h hJ0
  rcases two_or l with ⟨x, y, hl⟩ | h2
  · have HL : Hid (l = [x, y]) := hl
    have hl2 : 2 ≤ l.length := by rw [hl]; simp
    have hb : ((l.length : Int) == 2) = true := by rw [hl]; rfl
    have HPX : Hid (∀ W, Calls Tryd.prog 25 #[str x] W fun e w' => e = .returned (.int .i64 (T.refNum (T.parseV x))) ∧ w' = W) := fun W => T.rparse_any ⟨x.toArray⟩ W
    have HPY : Hid (∀ W, Calls Tryd.prog 25 #[str y] W fun e w' => e = .returned (.int .i64 (T.refNum (T.parseV y))) ∧ w' = W) := fun W => T.rparse_any ⟨y.toArray⟩ W
    have HT2 : Hid (Tx w (.slice ad l.length cap) [x, y]) := by have := HT.out; rw [hl] at this ⊢; exact this
    obtain ⟨g, o, cap', hv, hc, hg, c0, c1⟩ := HT2.out.two
    have had : ad = some ⟨g, o, none⟩ := by have := hv; simp at this; exact this.1
    subst had
    have HC : Hid (w.cell? ⟨g, o, none⟩ = some (str x) ∧ w.cell? ⟨g, o + 1, none⟩ = some (str y)) := ⟨c0, c1⟩
    have hcap : 2 ≤ cap := by have := hv; simp at this; omega
    clear hl HT2 hv hc c0 c1
    obtain ⟨pa, hpa⟩ : ∃ pa, T.refNum (T.parseV x) = pa := ⟨_, rfl⟩
    obtain ⟨pb, hpb⟩ : ∃ pb, T.refNum (T.parseV y) = pb := ⟨_, rfl⟩
    rw [hpa] at HPX
    rw [hpb] at HPY
    clear hpa hpb
    go_enter Tryd.func10, Tryd.ntmps10
    go_wp2_with fail
    go_loop [9, 10] (fun t i => ∃ (k : Nat) (J : List UInt8), k ≤ l.length ∧ i = .int .i64 k ∧ t = str J ∧ J.length ≤ 3020 ∧ Hid (J = Lib.join (l.take k) [32])) (fun _ i => l.length - (intOf i).toNat)
    case atStart => exact ⟨0, [], by omega, rfl, rfl, by simp, rfl⟩
    case round =>
      obtain ⟨k, J, hk, rfl, rfl, hJ, HJ⟩ := hrel
      by_cases hlt : k < l.length
      · obtain ⟨p, hp⟩ : ∃ p, l[k]? = some p := ⟨_, List.getElem?_eq_getElem hlt⟩
        obtain ⟨g, o, cap', hv, hc, hg, hcell⟩ := HT.out.inRow (fun e => by rw [e] at hlt; simp at hlt)
        cases hv
        have hpl := HM.out p (List.mem_of_getElem? hp)
        have c := hcell k p hp
        have HPK : Hid (l[k]? = some p) := hp
        clear hcell hp
        have e3 := join_take_le l (k + 1)
        by_cases hk0 : 0 < k
        · go_wp2_with fail
          go_round
          case rel =>
            have e1 := join_next2 HPK.out hk0
            exact ⟨k + 1, Lib.join (l.take (k + 1)) [32], by omega, by go_num, by rw [e1, ← HJ.out, str_add, str_add], by omega, rfl⟩
          case measure => simp [intOf]; omega
        · obtain rfl : k = 0 := by omega
          have c : w.cell? ⟨g, o, none⟩ = some (str p) := c
          go_wp2_with fail
          go_round
          case rel =>
            have e1 := join_first2 HPK.out
            exact ⟨0 + 1, Lib.join (l.take (0 + 1)) [32], by omega, by go_num, by rw [e1, str_add, HJ.out]; simp [Lib.join], by omega, rfl⟩
          case measure => simp [intOf]; omega
      · have hk2 : k = l.length := by omega
        obtain rfl : J = J0 := by
          have := HJ.out
          rw [hk2, List.take_length] at this
          exact this.trans HJ0.out
        clear hk2
        obtain ⟨c0, c1⟩ := HC.out
        go_wp2_with fail
        refine (HPX.out _).mono ?_
        rintro e wp ⟨rfl, hw⟩
        obtain rfl := hw.symm
        go_wp2_with fail
        refine (HPY.out _).mono ?_
        rintro e wp ⟨rfl, hw⟩
        obtain rfl := hw.symm
        go_wp2_with fail
        exact bodyPost_ret (v := .tuple #[ocV ⟨[], s.data.toList, 1, [], [], false⟩, .bool true]) (by simp [results, Tryd.results10, go_sem]) rfl ⟨rfl, two_new w _ _⟩
  · have hb := ne2 h2
    go_enter Tryd.func10, Tryd.ntmps10
    go_wp2_with fail
    go_loop [9, 10] (fun t i => ∃ (k : Nat) (J : List UInt8), k ≤ l.length ∧ i = .int .i64 k ∧ t = str J ∧ J.length ≤ 3020 ∧ Hid (J = Lib.join (l.take k) [32])) (fun _ i => l.length - (intOf i).toNat)
    case atStart => exact ⟨0, [], by omega, rfl, rfl, by simp, rfl⟩
    case round =>
      obtain ⟨k, J, hk, rfl, rfl, hJ, HJ⟩ := hrel
      by_cases hlt : k < l.length
      · obtain ⟨p, hp⟩ : ∃ p, l[k]? = some p := ⟨_, List.getElem?_eq_getElem hlt⟩
        obtain ⟨g, o, cap', hv, hc, hg, hcell⟩ := HT.out.inRow (fun e => by rw [e] at hlt; simp at hlt)
        cases hv
        have hpl := HM.out p (List.mem_of_getElem? hp)
        have c := hcell k p hp
        have HPK : Hid (l[k]? = some p) := hp
        clear hcell hp
        have e3 := join_take_le l (k + 1)
        by_cases hk0 : 0 < k
        · go_wp2_with fail
          go_round
          case rel =>
            have e1 := join_next2 HPK.out hk0
            exact ⟨k + 1, Lib.join (l.take (k + 1)) [32], by omega, by go_num, by rw [e1, ← HJ.out, str_add, str_add], by omega, rfl⟩
          case measure => simp [intOf]; omega
        · obtain rfl : k = 0 := by omega
          have c : w.cell? ⟨g, o, none⟩ = some (str p) := c
          go_wp2_with fail
          go_round
          case rel =>
            have e1 := join_first2 HPK.out
            exact ⟨0 + 1, Lib.join (l.take (0 + 1)) [32], by omega, by go_num, by rw [e1, str_add, HJ.out]; simp [Lib.join], by omega, rfl⟩
          case measure => simp [intOf]; omega
      · have hk2 : k = l.length := by omega
        obtain rfl : J = J0 := by
          have := HJ.out
          rw [hk2, List.take_length] at this
          exact this.trans HJ0.out
        clear hk2
        go_wp2_with fail
        exact bodyPost_ret (v := .tuple #[ocV ⟨[], s.data.toList, 1, [], [], false⟩, .bool true]) (by simp [results, Tryd.results10, go_sem]) rfl ⟨rfl, two_new w _ _⟩
end Go.Proofs.YtiddlineklfhfaaDoor

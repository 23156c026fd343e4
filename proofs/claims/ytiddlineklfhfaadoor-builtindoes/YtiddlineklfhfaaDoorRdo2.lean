/- The document's own Do, name by name: eq, less, add. -/
import Derived.Test.YtiddlineklfhfaaDoorRdo
import Derived.Deep.RegionHeld
import Derived.OrdersHeld
namespace Go.Proofs.YtiddlineklfhfaaDoor
open Go.RowKit Go.Shelf
attribute [local go_sem] Oper.semAt_some

def Told2 (g o : Nat) (x y : List UInt8) (W : World) : Prop := W.cell? ⟨g, o, none⟩ = some (str x) ∧ W.cell? ⟨g, o + 1, none⟩ = some (str y)
theorem told_two {w : World} {g o : Nat} {x y : List UInt8} {a b : Obj} (hg : g < w.heap.size) (c0 : w.cell? ⟨g, o, none⟩ = some (str x)) (c1 : w.cell? ⟨g, o + 1, none⟩ = some (str y)) : Told2 g o x y (World.drew ((w.alloc a).alloc b)) :=
  ⟨((two_new w a b).cell (p := ⟨g, o, none⟩) hg).trans c0, ((two_new w a b).cell (p := ⟨g, o + 1, none⟩) hg).trans c1⟩
theorem bdrew1 {B : Nat} {a w : World} (h : Below B a w) : Below B a w.drew := ⟨h.os, h.tape, h.output, h.size, h.block⟩
theorem st_true : stB true = 0 := rfl
theorem st_false : stB false = 1 := rfl
set_option maxRecDepth 100000 in
set_option maxHeartbeats 1600000 in
theorem rdo_eq (s : ByteArray) (v : Value) (l : List (List UInt8)) (w : World) (h : Tx w v l) (hn : l.length ≤ 20) (hz : sumT l ≤ 3000) :
    Calls Tryd.prog 10 #[.string ⟨#[101, 113]⟩, .string s, v] w fun e w' => e = .returned (.tuple #[ocV ⟨[], s.data.toList, stB (eqR l), [], [], false⟩, .bool true]) ∧ Below w.heap.size w w' := by
  have HT : Hid (Tx w v l) := h
  have HM : Hid (∀ p ∈ l, p.length ≤ 3000) := fun p hp => Nat.le_trans (sum_mem l p hp) hz
  obtain ⟨ad, cap, rfl⟩ := h.form
  obtain ⟨J0, hJ0⟩ : ∃ J0, Lib.join l [32] = J0 := ⟨_, rfl⟩
  have HJ0 : Hid (Lib.join l [32] = J0) := hJ0
  clear h hJ0
  rcases two_or l with ⟨x, y, hl⟩ | h2
  · have HL : Hid (l = [x, y]) := hl
    have hl2 : 2 ≤ l.length := by rw [hl]; simp
    have hb : ((l.length : Int) == 2) = true := by rw [hl]; rfl
    have HPX : Hid (∀ W, Calls Tryd.prog 25 #[str x] W fun e w' => e = .returned (.int .i64 (T.refNum (T.parseV x))) ∧ w' = W) := fun W => T.rparse_any ⟨x.toArray⟩ W
    have HPY : Hid (∀ W, Calls Tryd.prog 25 #[str y] W fun e w' => e = .returned (.int .i64 (T.refNum (T.parseV y))) ∧ w' = W) := fun W => T.rparse_any ⟨y.toArray⟩ W
    have HT2 : Hid (Tx w (.slice ad l.length cap) [x, y]) := by have := HT.out; rw [hl] at this ⊢; exact this
    obtain ⟨g, o, cap', hv, hc, hg, c0, c1⟩ := HT2.out.two
    have had : ad = some ⟨g, o, none⟩ := by have := hv; simp at this; exact this.1
    subst had
    have HC : Hid (w.cell? ⟨g, o, none⟩ = some (str x) ∧ w.cell? ⟨g, o + 1, none⟩ = some (str y)) := ⟨c0, c1⟩
    have hcap : 2 ≤ cap := by have := hv; simp at this; omega
    clear hl HT2 hv hc c0 c1
    obtain ⟨pa, hpa⟩ : ∃ pa, T.refNum (T.parseV x) = pa := ⟨_, rfl⟩
    obtain ⟨pb, hpb⟩ : ∃ pb, T.refNum (T.parseV y) = pb := ⟨_, rfl⟩
    rw [hpa] at HPX
    rw [hpb] at HPY
    clear hpa hpb
    rw [show eqR l = (x == y) by rw [HL.out]; rfl]
    obtain ⟨r, hr⟩ : ∃ r, (x == y) = r := ⟨_, rfl⟩
    have HR : Hid ((x == y) = r) := hr
    rw [hr]
    clear hr
    obtain ⟨q, hq⟩ : ∃ q, stB r = q := ⟨_, rfl⟩
    have HQ : Hid (stB r = q) := hq
    rw [hq]
    clear hq
    go_enter Tryd.func10, Tryd.ntmps10
    go_wp2_with fail
    go_loop [9, 10] (fun t i => ∃ (k : Nat) (J : List UInt8), k ≤ l.length ∧ i = .int .i64 k ∧ t = str J ∧ J.length ≤ 3020 ∧ Hid (J = Lib.join (l.take k) [32])) (fun _ i => l.length - (intOf i).toNat)
    case atStart => exact ⟨0, [], by omega, rfl, rfl, by simp, rfl⟩
    case round =>
      obtain ⟨k, J, hk, rfl, rfl, hJ, HJ⟩ := hrel
      by_cases hlt : k < l.length
      · obtain ⟨p, hp⟩ : ∃ p, l[k]? = some p := ⟨_, List.getElem?_eq_getElem hlt⟩
        obtain ⟨g, o, cap', hv, hc, hg, hcell⟩ := HT.out.inRow (fun e => by rw [e] at hlt; simp at hlt)
        cases hv
        have hpl := HM.out p (List.mem_of_getElem? hp)
        have c := hcell k p hp
        have HPK : Hid (l[k]? = some p) := hp
        clear hcell hp
        have e3 := join_take_le l (k + 1)
        by_cases hk0 : 0 < k
        · go_wp2_with fail
          go_round
          case rel =>
            have e1 := join_next2 HPK.out hk0
            exact ⟨k + 1, Lib.join (l.take (k + 1)) [32], by omega, by go_num, by rw [e1, ← HJ.out, str_add, str_add], by omega, rfl⟩
          case measure => simp [intOf]; omega
        · obtain rfl : k = 0 := by omega
          have c : w.cell? ⟨g, o, none⟩ = some (str p) := c
          go_wp2_with fail
          go_round
          case rel =>
            have e1 := join_first2 HPK.out
            exact ⟨0 + 1, Lib.join (l.take (0 + 1)) [32], by omega, by go_num, by rw [e1, str_add, HJ.out]; simp [Lib.join], by omega, rfl⟩
          case measure => simp [intOf]; omega
      · have hk2 : k = l.length := by omega
        obtain rfl : J = J0 := by
          have := HJ.out
          rw [hk2, List.take_length] at this
          exact this.trans HJ0.out
        clear hk2
        obtain ⟨c0, c1⟩ := HC.out
        go_wp2_with fail
        refine (HPX.out _).mono ?_
        rintro e wp ⟨rfl, hw⟩
        obtain rfl := hw.symm
        go_wp2_with fail
        refine (HPY.out _).mono ?_
        rintro e wp ⟨rfl, hw⟩
        obtain rfl := hw.symm
        go_upto_region 28 with fail
        refine wp_region_held (S := Told2 g o x y) (by kernel_rfl) ?_
        try (change wpAnyH _ _ _ _ _ _ _ _ (World.drew _))
        have hS0 : Told2 g o x y (World.drew ((w.alloc (.cells zeroC 28)).alloc (.cells #[.string ⟨#[]⟩, .string s, .int .i64 0, .string ⟨#[]⟩, .string ⟨#[]⟩, .bool false] 28))) := told_two hg c0 c1
        have hr := HR.out
        refine wpAnyH_take (i := 0) (v := .slice (some ⟨g, o, none⟩) l.length cap) rfl (by kernel_rfl) (by kernel_rfl) (by kernel_rfl) (fun _ _ _ h => h) (Yields.yieldsIf (Or.inl ⟨by rfl, by intro wz; go_simp⟩)) hS0 ?_
        try simp only [Act.put, List.getElem_toArray, List.getElem_cons_zero, List.setIfInBounds_toArray, List.set_cons_zero, List.set_cons_succ]
        refine wpAnyH_take (i := 1) (v := .int .i64 (l.length : Int)) rfl (by kernel_rfl) (by kernel_rfl) (by kernel_rfl) (fun _ _ _ h => h) (Yields.yieldsIf (Or.inl ⟨by rfl, by intro wz; go_simp⟩)) hS0 ?_
        try simp only [Act.put, List.getElem_toArray, List.getElem_cons_succ, List.getElem_cons_zero, List.setIfInBounds_toArray, List.set_cons_zero, List.set_cons_succ]
        refine wpAnyH_take (i := 2) (v := .bool true) rfl (by kernel_rfl) (by kernel_rfl) (by kernel_rfl) (fun _ _ _ h => h) (Yields.yieldsIf (Or.inl ⟨by rfl, by intro wz; go_simp⟩)) hS0 ?_
        try simp only [Act.put, List.getElem_toArray, List.getElem_cons_succ, List.getElem_cons_zero, List.setIfInBounds_toArray, List.set_cons_zero, List.set_cons_succ]
        refine wpAnyH_take (i := 3) (v := .bool true) rfl (by kernel_rfl) (by kernel_rfl) (by kernel_rfl) (fun _ _ _ h => h) (Yields.yieldsIf (Or.inl ⟨by rfl, by intro wz; go_simp⟩)) hS0 ?_
        try simp only [Act.put, List.getElem_toArray, List.getElem_cons_succ, List.getElem_cons_zero, List.setIfInBounds_toArray, List.set_cons_zero, List.set_cons_succ]
        refine wpAnyH_take (i := 4) (v := .slice (some ⟨g, o, none⟩) l.length cap) rfl (by kernel_rfl) (by kernel_rfl) (by kernel_rfl) (fun _ _ _ h => h) (Yields.yieldsIf (Or.inl ⟨by rfl, by intro wz; go_simp⟩)) hS0 ?_
        try simp only [Act.put, List.getElem_toArray, List.getElem_cons_succ, List.getElem_cons_zero, List.setIfInBounds_toArray, List.set_cons_zero, List.set_cons_succ]
        refine wpAnyH_take (i := 5) (v := .pointer (some ⟨g, o, none⟩)) rfl (by kernel_rfl) (by kernel_rfl) (by kernel_rfl) (fun _ _ _ h => h) (Yields.yieldsIf (Or.inl ⟨by rfl, by intro wz; go_simp; intro e; rw [e] at hl2; simp at hl2⟩)) hS0 ?_
        try simp only [Act.put, List.getElem_toArray, List.getElem_cons_succ, List.getElem_cons_zero, List.setIfInBounds_toArray, List.set_cons_zero, List.set_cons_succ]
        refine wpAnyH_take (i := 6) (v := str x) rfl (by kernel_rfl) (by kernel_rfl) (by kernel_rfl) (fun _ _ _ h => h) (Or.inl ⟨by rfl, fun wz hS => by obtain ⟨s1, s2⟩ := hS; go_simp⟩) hS0 ?_
        try simp only [Act.put, List.getElem_toArray, List.getElem_cons_succ, List.getElem_cons_zero, List.setIfInBounds_toArray, List.set_cons_zero, List.set_cons_succ]
        refine wpAnyH_take (i := 7) (v := .slice (some ⟨g, o, none⟩) l.length cap) rfl (by kernel_rfl) (by kernel_rfl) (by kernel_rfl) (fun _ _ _ h => h) (Yields.yieldsIf (Or.inl ⟨by rfl, by intro wz; go_simp⟩)) hS0 ?_
        try simp only [Act.put, List.getElem_toArray, List.getElem_cons_succ, List.getElem_cons_zero, List.setIfInBounds_toArray, List.set_cons_zero, List.set_cons_succ]
        refine wpAnyH_take (i := 8) (v := .pointer (some ⟨g, o + 1, none⟩)) rfl (by kernel_rfl) (by kernel_rfl) (by kernel_rfl) (fun _ _ _ h => h) (Yields.yieldsIf (Or.inl ⟨by rfl, by intro wz; go_simp; intro e; omega⟩)) hS0 ?_
        try simp only [Act.put, List.getElem_toArray, List.getElem_cons_succ, List.getElem_cons_zero, List.setIfInBounds_toArray, List.set_cons_zero, List.set_cons_succ]
        refine wpAnyH_take (i := 9) (v := str y) rfl (by kernel_rfl) (by kernel_rfl) (by kernel_rfl) (fun _ _ _ h => h) (Or.inl ⟨by rfl, fun wz hS => by obtain ⟨s1, s2⟩ := hS; go_simp⟩) hS0 ?_
        try simp only [Act.put, List.getElem_toArray, List.getElem_cons_succ, List.getElem_cons_zero, List.setIfInBounds_toArray, List.set_cons_zero, List.set_cons_succ]
        refine wpAnyH_take (i := 10) (v := .bool r) rfl (by kernel_rfl) (by kernel_rfl) (by kernel_rfl) (fun _ _ _ h => h) (Yields.yieldsIf (Or.inl ⟨by rfl, by intro wz; go_simp⟩)) hS0 ?_
        try simp only [Act.put, List.getElem_toArray, List.getElem_cons_succ, List.getElem_cons_zero, List.setIfInBounds_toArray, List.set_cons_zero, List.set_cons_succ]
        refine wpAnyH_take (i := 11) (v := .bool r) rfl (by kernel_rfl) (by kernel_rfl) (by kernel_rfl) (fun _ _ _ h => h) (Yields.yieldsIf (Or.inl ⟨by rfl, by intro wz; go_simp⟩)) hS0 ?_
        try simp only [Act.put, List.getElem_toArray, List.getElem_cons_succ, List.getElem_cons_zero, List.setIfInBounds_toArray, List.set_cons_zero, List.set_cons_succ]
        refine wpAnyH_take (i := 12) (v := .bool r) rfl (by kernel_rfl) (by kernel_rfl) (by kernel_rfl) (fun _ _ _ h => h) (Yields.yieldsIf (Or.inl ⟨by rfl, by intro wz; go_simp⟩)) hS0 ?_
        try simp only [Act.put, List.getElem_toArray, List.getElem_cons_succ, List.getElem_cons_zero, List.setIfInBounds_toArray, List.set_cons_zero, List.set_cons_succ]
        refine wpAnyH_done (by kernel_rfl) ?_ _
        clear hS0
        clear hr HR
        cases r
        · obtain rfl : q = 1 := HQ.out.symm
          go_wp2_with fail
          exact bodyPost_ret (v := .tuple #[ocV ⟨[], s.data.toList, 1, [], [], false⟩, .bool true]) (by simp [results, Tryd.results10, go_sem]) rfl ⟨rfl, bdrew1 (two_new w _ _)⟩
        · obtain rfl : q = 0 := HQ.out.symm
          go_wp2_with fail
          exact bodyPost_ret (v := .tuple #[ocV ⟨[], s.data.toList, 0, [], [], false⟩, .bool true]) (by simp [results, Tryd.results10, go_sem]) rfl ⟨rfl, bdrew1 (two_new w _ _)⟩
  · have hb := ne2 h2
    rw [eq_no l h2, st_false]
    go_enter Tryd.func10, Tryd.ntmps10
    go_wp2_with fail
    go_loop [9, 10] (fun t i => ∃ (k : Nat) (J : List UInt8), k ≤ l.length ∧ i = .int .i64 k ∧ t = str J ∧ J.length ≤ 3020 ∧ Hid (J = Lib.join (l.take k) [32])) (fun _ i => l.length - (intOf i).toNat)
    case atStart => exact ⟨0, [], by omega, rfl, rfl, by simp, rfl⟩
    case round =>
      obtain ⟨k, J, hk, rfl, rfl, hJ, HJ⟩ := hrel
      by_cases hlt : k < l.length
      · obtain ⟨p, hp⟩ : ∃ p, l[k]? = some p := ⟨_, List.getElem?_eq_getElem hlt⟩
        obtain ⟨g, o, cap', hv, hc, hg, hcell⟩ := HT.out.inRow (fun e => by rw [e] at hlt; simp at hlt)
        cases hv
        have hpl := HM.out p (List.mem_of_getElem? hp)
        have c := hcell k p hp
        have HPK : Hid (l[k]? = some p) := hp
        clear hcell hp
        have e3 := join_take_le l (k + 1)
        by_cases hk0 : 0 < k
        · go_wp2_with fail
          go_round
          case rel =>
            have e1 := join_next2 HPK.out hk0
            exact ⟨k + 1, Lib.join (l.take (k + 1)) [32], by omega, by go_num, by rw [e1, ← HJ.out, str_add, str_add], by omega, rfl⟩
          case measure => simp [intOf]; omega
        · obtain rfl : k = 0 := by omega
          have c : w.cell? ⟨g, o, none⟩ = some (str p) := c
          go_wp2_with fail
          go_round
          case rel =>
            have e1 := join_first2 HPK.out
            exact ⟨0 + 1, Lib.join (l.take (0 + 1)) [32], by omega, by go_num, by rw [e1, str_add, HJ.out]; simp [Lib.join], by omega, rfl⟩
          case measure => simp [intOf]; omega
      · have hk2 : k = l.length := by omega
        obtain rfl : J = J0 := by
          have := HJ.out
          rw [hk2, List.take_length] at this
          exact this.trans HJ0.out
        clear hk2
        go_upto_region 28 with fail
        refine wp_region_held (S := fun _ => True) (by kernel_rfl) ?_
        try (change wpAnyH _ _ _ _ _ _ _ _ (World.drew _))
        have hS0 : (fun _ => True) (World.drew ((w.alloc (.cells zeroC 28)).alloc (.cells #[.string ⟨#[]⟩, .string s, .int .i64 0, .string ⟨#[]⟩, .string ⟨#[]⟩, .bool false] 28))) := trivial
        refine wpAnyH_take (i := 0) (v := .slice ad l.length cap) rfl (by kernel_rfl) (by kernel_rfl) (by kernel_rfl) (fun _ _ _ h => h) (Yields.yieldsIf (Or.inl ⟨by rfl, by intro wz; go_simp⟩)) hS0 ?_
        try simp only [Act.put, List.getElem_toArray, List.getElem_cons_zero, List.setIfInBounds_toArray, List.set_cons_zero, List.set_cons_succ]
        refine wpAnyH_take (i := 1) (v := .int .i64 (l.length : Int)) rfl (by kernel_rfl) (by kernel_rfl) (by kernel_rfl) (fun _ _ _ h => h) (Yields.yieldsIf (Or.inl ⟨by rfl, by intro wz; go_simp⟩)) hS0 ?_
        try simp only [Act.put, List.getElem_toArray, List.getElem_cons_succ, List.getElem_cons_zero, List.setIfInBounds_toArray, List.set_cons_zero, List.set_cons_succ]
        refine wpAnyH_take (i := 2) (v := .bool false) rfl (by kernel_rfl) (by kernel_rfl) (by kernel_rfl) (fun _ _ _ h => h) (Yields.yieldsIf (Or.inl ⟨by rfl, by intro wz; go_simp⟩)) hS0 ?_
        try simp only [Act.put, List.getElem_toArray, List.getElem_cons_succ, List.getElem_cons_zero, List.setIfInBounds_toArray, List.set_cons_zero, List.set_cons_succ]
        refine wpAnyH_take (i := 3) (v := .bool false) rfl (by kernel_rfl) (by kernel_rfl) (by kernel_rfl) (fun _ _ _ h => h) (Yields.yieldsIf (Or.inl ⟨by rfl, by intro wz; go_simp⟩)) hS0 ?_
        try simp only [Act.put, List.getElem_toArray, List.getElem_cons_succ, List.getElem_cons_zero, List.setIfInBounds_toArray, List.set_cons_zero, List.set_cons_succ]
        refine wpAnyH_take (i := 4) (v := undef) rfl (by kernel_rfl) (by kernel_rfl) (by kernel_rfl) (fun _ _ _ h => h) (Yields.yieldsIf (Or.inr ⟨by rfl, rfl⟩)) hS0 ?_
        try simp only [Act.put, List.getElem_toArray, List.getElem_cons_succ, List.getElem_cons_zero, List.setIfInBounds_toArray, List.set_cons_zero, List.set_cons_succ]
        refine wpAnyH_take (i := 5) (v := undef) rfl (by kernel_rfl) (by kernel_rfl) (by kernel_rfl) (fun _ _ _ h => h) (Yields.yieldsIf (Or.inr ⟨by rfl, rfl⟩)) hS0 ?_
        try simp only [Act.put, List.getElem_toArray, List.getElem_cons_succ, List.getElem_cons_zero, List.setIfInBounds_toArray, List.set_cons_zero, List.set_cons_succ]
        refine wpAnyH_take (i := 6) (v := undef) rfl (by kernel_rfl) (by kernel_rfl) (by kernel_rfl) (fun _ _ _ h => h) (Yields.yieldsIf (Or.inr ⟨by rfl, rfl⟩)) hS0 ?_
        try simp only [Act.put, List.getElem_toArray, List.getElem_cons_succ, List.getElem_cons_zero, List.setIfInBounds_toArray, List.set_cons_zero, List.set_cons_succ]
        refine wpAnyH_take (i := 7) (v := undef) rfl (by kernel_rfl) (by kernel_rfl) (by kernel_rfl) (fun _ _ _ h => h) (Yields.yieldsIf (Or.inr ⟨by rfl, rfl⟩)) hS0 ?_
        try simp only [Act.put, List.getElem_toArray, List.getElem_cons_succ, List.getElem_cons_zero, List.setIfInBounds_toArray, List.set_cons_zero, List.set_cons_succ]
        refine wpAnyH_take (i := 8) (v := undef) rfl (by kernel_rfl) (by kernel_rfl) (by kernel_rfl) (fun _ _ _ h => h) (Yields.yieldsIf (Or.inr ⟨by rfl, rfl⟩)) hS0 ?_
        try simp only [Act.put, List.getElem_toArray, List.getElem_cons_succ, List.getElem_cons_zero, List.setIfInBounds_toArray, List.set_cons_zero, List.set_cons_succ]
        refine wpAnyH_take (i := 9) (v := undef) rfl (by kernel_rfl) (by kernel_rfl) (by kernel_rfl) (fun _ _ _ h => h) (Yields.yieldsIf (Or.inr ⟨by rfl, rfl⟩)) hS0 ?_
        try simp only [Act.put, List.getElem_toArray, List.getElem_cons_succ, List.getElem_cons_zero, List.setIfInBounds_toArray, List.set_cons_zero, List.set_cons_succ]
        refine wpAnyH_take (i := 10) (v := undef) rfl (by kernel_rfl) (by kernel_rfl) (by kernel_rfl) (fun _ _ _ h => h) (Yields.yieldsIf (Or.inr ⟨by rfl, rfl⟩)) hS0 ?_
        try simp only [Act.put, List.getElem_toArray, List.getElem_cons_succ, List.getElem_cons_zero, List.setIfInBounds_toArray, List.set_cons_zero, List.set_cons_succ]
        refine wpAnyH_take (i := 11) (v := .bool false) rfl (by kernel_rfl) (by kernel_rfl) (by kernel_rfl) (fun _ _ _ h => h) (Yields.yieldsIf (Or.inl ⟨by rfl, by intro wz; go_simp⟩)) hS0 ?_
        try simp only [Act.put, List.getElem_toArray, List.getElem_cons_succ, List.getElem_cons_zero, List.setIfInBounds_toArray, List.set_cons_zero, List.set_cons_succ]
        refine wpAnyH_take (i := 12) (v := .bool false) rfl (by kernel_rfl) (by kernel_rfl) (by kernel_rfl) (fun _ _ _ h => h) (Yields.yieldsIf (Or.inl ⟨by rfl, by intro wz; go_simp⟩)) hS0 ?_
        try simp only [Act.put, List.getElem_toArray, List.getElem_cons_succ, List.getElem_cons_zero, List.setIfInBounds_toArray, List.set_cons_zero, List.set_cons_succ]
        refine wpAnyH_done (by kernel_rfl) ?_ _
        clear hS0
        go_wp2_with fail
        exact bodyPost_ret (v := .tuple #[ocV ⟨[], s.data.toList, 1, [], [], false⟩, .bool true]) (by simp [results, Tryd.results10, go_sem]) rfl ⟨rfl, bdrew1 (two_new w _ _)⟩
end Go.Proofs.YtiddlineklfhfaaDoor

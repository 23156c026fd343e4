/- Two arguments are the same, or like a pattern, or they are not; of any other number they never are. -/
import Derived.Test.YtiddlineklfhfaaDoorFirst
import Derived.Deep.RegionHeld
import Derived.OrdersHeld
namespace Go.Proofs.YtiddlineklfhfaaDoor
open Go.RowKit Go.Shelf
attribute [local go_sem] Oper.semAt_some

theorem bstep2 {B : Nat} {w W W' : World} (h : Below B w W) (k : Below W.heap.size W W') (hB : B ≤ w.heap.size) : Below B w W' := h.trans (k.mono (Nat.le_trans hB h.size))
def ToldT (ba bb g o : Nat) (p q : Int) (x y : List UInt8) (W : World) : Prop := W.cell? ⟨ba, 2, none⟩ = some (.int .i64 p) ∧ W.cell? ⟨bb, 2, none⟩ = some (.int .i64 q) ∧ W.cell? ⟨g, o, none⟩ = some (str x) ∧ W.cell? ⟨g, o + 1, none⟩ = some (str y)
theorem take_all {l : List (List UInt8)} {k : Nat} {p : List UInt8} (hp : l[k]? = some p) (h : ∀ s ∈ l.take k, s.length ≤ 40) (hl : p.length ≤ 40) : ∀ s ∈ l.take (k + 1), s.length ≤ 40 := by
  rw [List.take_add_one, hp]
  intro s hs
  rcases List.mem_append.1 hs with h1 | h1
  · exact h s h1
  · simp at h1; rw [h1]; exact hl
section
variable (v : Value) (l : List (List UInt8)) (w : World) (h : Tx w v l)
include h
theorem do_eqT (hn : l.length ≤ 8) : Calls Tryd.prog 9 #[.string ⟨#[101, 113]⟩, .string ⟨#[]⟩, v] w fun e w' => e = .returned (.tuple #[.agg #[.string ⟨#[]⟩, .string ⟨#[]⟩, .int .i64 (stB (eqR l)), .string ⟨#[]⟩, .string ⟨#[]⟩, .bool false], .bool true]) ∧ Below w.heap.size w w' := do_eq ⟨#[]⟩ v l w h (by omega)
theorem do_likeT (hn : l.length ≤ 8) (hz : ∀ s ∈ l, s.length ≤ 40) : Calls Tryd.prog 9 #[.string ⟨#[108, 105, 107, 101]⟩, .string ⟨#[]⟩, v] w fun e w' => e = .returned (.tuple #[.agg #[.string ⟨#[]⟩, .string ⟨#[]⟩, .int .i64 (stB (likeR l)), .string ⟨#[]⟩, .string ⟨#[]⟩, .bool false], .bool true]) ∧ Below w.heap.size w w' := do_like ⟨#[]⟩ v l w h (by omega) (fun s hs => by have := hz s hs; omega)
end
set_option maxRecDepth 100000 in
set_option maxHeartbeats 4000000 in
theorem tests_any (v : Value) (l : List (List UInt8)) (w : World) (h : Tx w v l) (hn : l.length < 140737488355328) (hz : ∀ s ∈ l, s.length ≤ 140737488355328) (hP : ∀ W, Below w.heap.size w W → Pow W) :
    Calls Tryd.prog 7 #[v] w fun e w' => e = .returned (.bool true) ∧ Below w.heap.size w w' := by
  have HP : Hid (∀ W, Below w.heap.size w W → Pow W) := hP
  have HT : Hid (∀ W, Below w.heap.size w W → Tx W v l) := fun W hW => h.below hW (Nat.le_refl _)
  have HZ : Hid (∀ s ∈ l, s.length ≤ 140737488355328) := hz
  clear hP hz
  obtain ⟨ad, cap, rfl⟩ := h.form
  clear h
  by_cases h8 : 8 < l.length
  · go_enter Tryd.func7, Tryd.ntmps7
    go_wp2_with fail
    refine (first_any w HP.out).mono ?_
    rintro e w1 ⟨rfl, HB⟩
    have HB : Hid (Below w.heap.size w w1) := HB
    go_wp2_with fail
    go_ret
    exact ⟨rfl, HB.out⟩
  · go_enter Tryd.func7, Tryd.ntmps7
    go_wp2_with fail
    refine (first_any w HP.out).mono ?_
    rintro e w1 ⟨rfl, HB⟩
    have HB : Hid (Below w.heap.size w w1) := HB
    go_wp2_with fail
    go_loop [4] (fun i => ∃ k : Nat, k ≤ l.length ∧ i = .int .i64 k ∧ Hid (∀ s ∈ l.take k, s.length ≤ 40)) (fun i => l.length - (intOf i).toNat)
    case atStart => exact ⟨0, by omega, rfl, fun s hs => by simp at hs⟩
    case round =>
      obtain ⟨k, hk, rfl, hh⟩ := hrel
      by_cases hlt : k < l.length
      · obtain ⟨p, hp⟩ : ∃ p, l[k]? = some p := ⟨_, List.getElem?_eq_getElem hlt⟩
        obtain ⟨g, o, cap', hv, hc, hg, hcell⟩ := (HT.out _ HB.out).inRow (fun e => by rw [e] at hlt; simp at hlt)
        cases hv
        have hpl := HZ.out p (List.mem_of_getElem? hp)
        have c := hcell k p hp
        have HPK : Hid (l[k]? = some p) := hp
        clear hcell hp
        by_cases h40 : 40 < p.length
        · go_wp2_with fail
          go_ret
          exact ⟨rfl, HB.out⟩
        · go_wp2_with fail
          go_round
          case rel => exact ⟨k + 1, by omega, by go_num, take_all HPK.out hh.out (by omega)⟩
          case measure => simp [intOf]; omega
      · have hk2 : k = l.length := by omega
        have HL : Hid (∀ s ∈ l, s.length ≤ 40) := by
          have := hh.out
          rw [hk2, List.take_length] at this
          exact this
        clear hh hk2
        have HEQ : Hid (∀ W, Below w.heap.size w W → Calls Tryd.prog 9 #[.string ⟨#[101, 113]⟩, .string ⟨#[]⟩, .slice ad l.length cap] W fun e w' => e = .returned (.tuple #[.agg #[.string ⟨#[]⟩, .string ⟨#[]⟩, .int .i64 (stB (eqR l)), .string ⟨#[]⟩, .string ⟨#[]⟩, .bool false], .bool true]) ∧ Below W.heap.size W w') := fun W hW => do_eqT _ l _ (HT.out _ hW) (by omega)
        have HLK : Hid (∀ W, Below w.heap.size w W → Calls Tryd.prog 9 #[.string ⟨#[108, 105, 107, 101]⟩, .string ⟨#[]⟩, .slice ad l.length cap] W fun e w' => e = .returned (.tuple #[.agg #[.string ⟨#[]⟩, .string ⟨#[]⟩, .int .i64 (stB (likeR l)), .string ⟨#[]⟩, .string ⟨#[]⟩, .bool false], .bool true]) ∧ Below W.heap.size W w') := fun W hW => do_likeT _ l _ (HT.out _ hW) (by omega) HL.out
        rcases two_or l with ⟨x, y, rfl⟩ | h2
        · have HM : Hid (∀ W, Calls Tryd.prog 16 #[str y, str x] W fun e w' => e = .returned (.bool (likeR [x, y])) ∧ Below W.heap.size W w') := fun W => by
            have hx := HL.out x (by simp)
            have hy := HL.out y (by simp)
            exact match_any ⟨y.toArray⟩ ⟨x.toArray⟩ (by show y.length < _; omega) (by show x.length < _; omega) W
          have hp : (stB (eqR [x, y]) == 0) = (x == y) := by
            rw [show eqR [x, y] = (x == y) from rfl]
            cases (x == y) <;> rfl
          have hq : (stB (likeR [x, y]) == 0) = likeR [x, y] := by cases likeR [x, y] <;> rfl
          have hlt : ¬ k < 2 := hlt
          have hk : k ≤ 2 := hk
          have HEQ : Hid (∀ W, Below w.heap.size w W → Calls Tryd.prog 9 #[.string ⟨#[101, 113]⟩, .string ⟨#[]⟩, .slice ad 2 cap] W fun e w' => e = .returned (.tuple #[.agg #[.string ⟨#[]⟩, .string ⟨#[]⟩, .int .i64 (stB (eqR [x, y])), .string ⟨#[]⟩, .string ⟨#[]⟩, .bool false], .bool true]) ∧ Below W.heap.size W w') := HEQ
          have HLK : Hid (∀ W, Below w.heap.size w W → Calls Tryd.prog 9 #[.string ⟨#[108, 105, 107, 101]⟩, .string ⟨#[]⟩, .slice ad 2 cap] W fun e w' => e = .returned (.tuple #[.agg #[.string ⟨#[]⟩, .string ⟨#[]⟩, .int .i64 (stB (likeR [x, y])), .string ⟨#[]⟩, .string ⟨#[]⟩, .bool false], .bool true]) ∧ Below W.heap.size W w') := HLK
          generalize stB (eqR [x, y]) = p at *
          generalize stB (likeR [x, y]) = q at *
          generalize likeR [x, y] = r at *
          go_wp2_with fail
          refine (HEQ.out _ HB.out).mono ?_
          rintro e w2 ⟨rfl, hw⟩
          have HB : Hid (Below w.heap.size w w2) := bstep2 HB.out hw (Nat.le_refl _)
          clear hw
          go_wp2_with fail
          refine (HLK.out _ (bstep2 HB.out (below_new _ _) (Nat.le_refl _))).mono ?_
          rintro e w3 ⟨rfl, hw⟩
          have KA : Hid (Cel w3 w2.heap.size 25 #[.string ⟨#[]⟩, .string ⟨#[]⟩, .int .i64 p, .string ⟨#[]⟩, .string ⟨#[]⟩, .bool false]) := (Cel.new w2 25 _).later hw
          have HB : Hid (Below w.heap.size w w3) := bstep2 (bstep2 HB.out (below_new _ _) (Nat.le_refl _)) hw (Nat.le_refl _)
          clear hw
          have HB2 : Hid (Below w.heap.size w (w3.alloc (.cells #[.string ⟨#[]⟩, .string ⟨#[]⟩, .int .i64 q, .string ⟨#[]⟩, .string ⟨#[]⟩, .bool false] 25))) := bstep2 HB.out (below_new _ _) (Nat.le_refl _)
          have KA2 : Hid (Cel (w3.alloc (.cells #[.string ⟨#[]⟩, .string ⟨#[]⟩, .int .i64 q, .string ⟨#[]⟩, .string ⟨#[]⟩, .bool false] 25)) w2.heap.size 25 #[.string ⟨#[]⟩, .string ⟨#[]⟩, .int .i64 p, .string ⟨#[]⟩, .string ⟨#[]⟩, .bool false]) := KA.out.alloc _
          have KB2 : Hid (Cel (w3.alloc (.cells #[.string ⟨#[]⟩, .string ⟨#[]⟩, .int .i64 q, .string ⟨#[]⟩, .string ⟨#[]⟩, .bool false] 25)) w3.heap.size 25 #[.string ⟨#[]⟩, .string ⟨#[]⟩, .int .i64 q, .string ⟨#[]⟩, .string ⟨#[]⟩, .bool false]) := Cel.new _ _ _
          have ca := KA.out.cell 2
          have la := KA.out.lt
          generalize w2.heap.size = ba at *
          go_wp2_with fail
          obtain ⟨W0, hW0⟩ : ∃ W0, w3.alloc (.cells #[.string ⟨#[]⟩, .string ⟨#[]⟩, .int .i64 q, .string ⟨#[]⟩, .string ⟨#[]⟩, .bool false] 25) = W0 := ⟨_, rfl⟩
          obtain ⟨bb, hbb⟩ : ∃ bb, w3.heap.size = bb := ⟨_, rfl⟩
          rw [hW0] at HB2 KA2 KB2 ⊢
          rw [hbb] at KB2 ⊢
          obtain ⟨g, o, cap', hv, hc, hg, c0, c1⟩ := (HT.out _ HB2.out).two
          cases hv
          have HS : Hid (∀ W, Below W0.heap.size W0 W → ToldT ba bb g o p q x y W) := fun W hW =>
            ⟨(KA2.out.later hW).cell 2, (KB2.out.later hW).cell 2, (hW.cell (p := ⟨g, o, none⟩) hg).trans c0, (hW.cell (p := ⟨g, o + 1, none⟩) hg).trans c1⟩
          clear hW0 hbb KA2 KB2 KA ca la c0 c1
          refine wp_region_held (S := ToldT ba bb g o p q x y) (by kernel_rfl) ?_
          try (change wpAnyH _ _ _ _ _ _ _ _ (World.drew _))
          have hd0 : Below W0.heap.size W0 (World.drew W0) := below_drew W0
          have hS0 := HS.out _ hd0
          refine wpAnyH_take (i := 0) (v := .pointer (some ⟨ba, 2, none⟩)) rfl (by kernel_rfl) (by kernel_rfl) (by kernel_rfl) (fun _ _ _ h => h) (Yields.yieldsIf (Or.inl ⟨by rfl, by intro wz; go_simp⟩)) hS0 ?_
          try simp only [Act.put, List.getElem_toArray, List.getElem_cons_zero, List.setIfInBounds_toArray, List.set_cons_zero, List.set_cons_succ]
          refine wpAnyH_take (i := 1) (v := .int .i64 p) rfl (by kernel_rfl) (by kernel_rfl) (by kernel_rfl) (fun _ _ _ h => h) (Or.inl ⟨by rfl, fun wz hS => by obtain ⟨s1, s2, s3, s4⟩ := hS; go_simp⟩) hS0 ?_
          try simp only [Act.put, List.getElem_toArray, List.getElem_cons_succ, List.getElem_cons_zero, List.setIfInBounds_toArray, List.set_cons_zero, List.set_cons_succ]
          refine wpAnyH_take (i := 2) (v := .bool (x == y)) rfl (by kernel_rfl) (by kernel_rfl) (by kernel_rfl) (fun _ _ _ h => h) (Yields.yieldsIf (Or.inl ⟨by rfl, by intro wz; go_simp⟩)) hS0 ?_
          try simp only [Act.put, List.getElem_toArray, List.getElem_cons_succ, List.getElem_cons_zero, List.setIfInBounds_toArray, List.set_cons_zero, List.set_cons_succ]
          refine wpAnyH_take (i := 3) (v := .slice (some ⟨g, o, none⟩) 2 cap) rfl (by kernel_rfl) (by kernel_rfl) (by kernel_rfl) (fun _ _ _ h => h) (Yields.yieldsIf (Or.inl ⟨by rfl, by intro wz; go_simp⟩)) hS0 ?_
          try simp only [Act.put, List.getElem_toArray, List.getElem_cons_succ, List.getElem_cons_zero, List.setIfInBounds_toArray, List.set_cons_zero, List.set_cons_succ]
          refine wpAnyH_take (i := 4) (v := .pointer (some ⟨g, o, none⟩)) rfl (by kernel_rfl) (by kernel_rfl) (by kernel_rfl) (fun _ _ _ h => h) (Yields.yieldsIf (Or.inl ⟨by rfl, by intro wz; go_simp⟩)) hS0 ?_
          try simp only [Act.put, List.getElem_toArray, List.getElem_cons_succ, List.getElem_cons_zero, List.setIfInBounds_toArray, List.set_cons_zero, List.set_cons_succ]
          refine wpAnyH_take (i := 5) (v := str x) rfl (by kernel_rfl) (by kernel_rfl) (by kernel_rfl) (fun _ _ _ h => h) (Or.inl ⟨by rfl, fun wz hS => by obtain ⟨s1, s2, s3, s4⟩ := hS; go_simp⟩) hS0 ?_
          try simp only [Act.put, List.getElem_toArray, List.getElem_cons_succ, List.getElem_cons_zero, List.setIfInBounds_toArray, List.set_cons_zero, List.set_cons_succ]
          refine wpAnyH_take (i := 6) (v := .slice (some ⟨g, o, none⟩) 2 cap) rfl (by kernel_rfl) (by kernel_rfl) (by kernel_rfl) (fun _ _ _ h => h) (Yields.yieldsIf (Or.inl ⟨by rfl, by intro wz; go_simp⟩)) hS0 ?_
          try simp only [Act.put, List.getElem_toArray, List.getElem_cons_succ, List.getElem_cons_zero, List.setIfInBounds_toArray, List.set_cons_zero, List.set_cons_succ]
          refine wpAnyH_take (i := 7) (v := .pointer (some ⟨g, o + 1, none⟩)) rfl (by kernel_rfl) (by kernel_rfl) (by kernel_rfl) (fun _ _ _ h => h) (Yields.yieldsIf (Or.inl ⟨by rfl, by intro wz; go_simp⟩)) hS0 ?_
          try simp only [Act.put, List.getElem_toArray, List.getElem_cons_succ, List.getElem_cons_zero, List.setIfInBounds_toArray, List.set_cons_zero, List.set_cons_succ]
          refine wpAnyH_take (i := 8) (v := str y) rfl (by kernel_rfl) (by kernel_rfl) (by kernel_rfl) (fun _ _ _ h => h) (Or.inl ⟨by rfl, fun wz hS => by obtain ⟨s1, s2, s3, s4⟩ := hS; go_simp⟩) hS0 ?_
          try simp only [Act.put, List.getElem_toArray, List.getElem_cons_succ, List.getElem_cons_zero, List.setIfInBounds_toArray, List.set_cons_zero, List.set_cons_succ]
          refine wpAnyH_take (i := 9) (v := .bool (x == y)) rfl (by kernel_rfl) (by kernel_rfl) (by kernel_rfl) (fun _ _ _ h => h) (Yields.yieldsIf (Or.inl ⟨by rfl, by intro wz; go_simp⟩)) hS0 ?_
          try simp only [Act.put, List.getElem_toArray, List.getElem_cons_succ, List.getElem_cons_zero, List.setIfInBounds_toArray, List.set_cons_zero, List.set_cons_succ]
          refine wpAnyH_take (i := 10) (v := .bool true) rfl (by kernel_rfl) (by kernel_rfl) (by kernel_rfl) (fun _ _ _ h => h) (Yields.yieldsIf (Or.inl ⟨by rfl, by intro wz; go_simp⟩)) hS0 ?_
          try simp only [Act.put, List.getElem_toArray, List.getElem_cons_succ, List.getElem_cons_zero, List.setIfInBounds_toArray, List.set_cons_zero, List.set_cons_succ]
          refine wpAnyH_take (i := 11) (v := .bool true) rfl (by kernel_rfl) (by kernel_rfl) (by kernel_rfl) (fun _ _ _ h => h) (Yields.yieldsIf (Or.inl ⟨by rfl, by intro wz; go_simp⟩)) hS0 ?_
          try simp only [Act.put, List.getElem_toArray, List.getElem_cons_succ, List.getElem_cons_zero, List.setIfInBounds_toArray, List.set_cons_zero, List.set_cons_succ]
          refine wpAnyH_take (i := 12) (v := .pointer (some ⟨bb, 2, none⟩)) rfl (by kernel_rfl) (by kernel_rfl) (by kernel_rfl) (fun _ _ _ h => h) (Yields.yieldsIf (Or.inl ⟨by rfl, by intro wz; go_simp⟩)) hS0 ?_
          try simp only [Act.put, List.getElem_toArray, List.getElem_cons_succ, List.getElem_cons_zero, List.setIfInBounds_toArray, List.set_cons_zero, List.set_cons_succ]
          refine wpAnyH_take (i := 13) (v := .int .i64 q) rfl (by kernel_rfl) (by kernel_rfl) (by kernel_rfl) (fun _ _ _ h => h) (Or.inl ⟨by rfl, fun wz hS => by obtain ⟨s1, s2, s3, s4⟩ := hS; go_simp⟩) hS0 ?_
          try simp only [Act.put, List.getElem_toArray, List.getElem_cons_succ, List.getElem_cons_zero, List.setIfInBounds_toArray, List.set_cons_zero, List.set_cons_succ]
          refine wpAnyH_take (i := 14) (v := .bool r) rfl (by kernel_rfl) (by kernel_rfl) (by kernel_rfl) (fun _ _ _ h => h) (Yields.yieldsIf (Or.inl ⟨by rfl, by intro wz; go_simp⟩)) hS0 ?_
          try simp only [Act.put, List.getElem_toArray, List.getElem_cons_succ, List.getElem_cons_zero, List.setIfInBounds_toArray, List.set_cons_zero, List.set_cons_succ]
          refine wpAnyH_take (i := 15) (v := .slice (some ⟨g, o, none⟩) 2 cap) rfl (by kernel_rfl) (by kernel_rfl) (by kernel_rfl) (fun _ _ _ h => h) (Yields.yieldsIf (Or.inl ⟨by rfl, by intro wz; go_simp⟩)) hS0 ?_
          try simp only [Act.put, List.getElem_toArray, List.getElem_cons_succ, List.getElem_cons_zero, List.setIfInBounds_toArray, List.set_cons_zero, List.set_cons_succ]
          refine wpAnyH_take (i := 16) (v := .pointer (some ⟨g, o + 1, none⟩)) rfl (by kernel_rfl) (by kernel_rfl) (by kernel_rfl) (fun _ _ _ h => h) (Yields.yieldsIf (Or.inl ⟨by rfl, by intro wz; go_simp⟩)) hS0 ?_
          try simp only [Act.put, List.getElem_toArray, List.getElem_cons_succ, List.getElem_cons_zero, List.setIfInBounds_toArray, List.set_cons_zero, List.set_cons_succ]
          refine wpAnyH_take (i := 17) (v := str y) rfl (by kernel_rfl) (by kernel_rfl) (by kernel_rfl) (fun _ _ _ h => h) (Or.inl ⟨by rfl, fun wz hS => by obtain ⟨s1, s2, s3, s4⟩ := hS; go_simp⟩) hS0 ?_
          try simp only [Act.put, List.getElem_toArray, List.getElem_cons_succ, List.getElem_cons_zero, List.setIfInBounds_toArray, List.set_cons_zero, List.set_cons_succ]
          refine wpAnyH_take (i := 18) (v := .slice (some ⟨g, o, none⟩) 2 cap) rfl (by kernel_rfl) (by kernel_rfl) (by kernel_rfl) (fun _ _ _ h => h) (Yields.yieldsIf (Or.inl ⟨by rfl, by intro wz; go_simp⟩)) hS0 ?_
          try simp only [Act.put, List.getElem_toArray, List.getElem_cons_succ, List.getElem_cons_zero, List.setIfInBounds_toArray, List.set_cons_zero, List.set_cons_succ]
          refine wpAnyH_take (i := 19) (v := .pointer (some ⟨g, o, none⟩)) rfl (by kernel_rfl) (by kernel_rfl) (by kernel_rfl) (fun _ _ _ h => h) (Yields.yieldsIf (Or.inl ⟨by rfl, by intro wz; go_simp⟩)) hS0 ?_
          try simp only [Act.put, List.getElem_toArray, List.getElem_cons_succ, List.getElem_cons_zero, List.setIfInBounds_toArray, List.set_cons_zero, List.set_cons_succ]
          refine wpAnyH_take (i := 20) (v := str x) rfl (by kernel_rfl) (by kernel_rfl) (by kernel_rfl) (fun _ _ _ h => h) (Or.inl ⟨by rfl, fun wz hS => by obtain ⟨s1, s2, s3, s4⟩ := hS; go_simp⟩) hS0 ?_
          try simp only [Act.put, List.getElem_toArray, List.getElem_cons_succ, List.getElem_cons_zero, List.setIfInBounds_toArray, List.set_cons_zero, List.set_cons_succ]
          refine wpAnyH_ready (rs := [21]) (by kernel_rfl) (by simp) ?_
          refine AllReadyH.cons rfl (fun K' hK => ?_) AllReadyH.nil
          go_simp
          refine (HM.out _).mono ?_
          rintro e w11 ⟨rfl, hw⟩
          have hd1 := hd0.trans hw
          have hSn := HS.out _ hd1
          refine hK.out _ _ hSn (fun _ => ?_)
          clear hK K' hS0
          have hS0 := hSn
          clear hSn
          try simp only [Act.put, List.getElem_toArray, List.getElem_cons_succ, List.getElem_cons_zero, List.setIfInBounds_toArray, List.set_cons_zero, List.set_cons_succ]
          refine wpAnyH_take (i := 22) (v := .bool true) rfl (by kernel_rfl) (by kernel_rfl) (by kernel_rfl) (fun _ _ _ h => h) (Yields.yieldsIf (Or.inl ⟨by rfl, by intro wz; go_simp⟩)) hS0 ?_
          try simp only [Act.put, List.getElem_toArray, List.getElem_cons_succ, List.getElem_cons_zero, List.setIfInBounds_toArray, List.set_cons_zero, List.set_cons_succ]
          refine wpAnyH_take (i := 23) (v := .bool true) rfl (by kernel_rfl) (by kernel_rfl) (by kernel_rfl) (fun _ _ _ h => h) (Yields.yieldsIf (Or.inl ⟨by rfl, by intro wz; go_simp⟩)) hS0 ?_
          try simp only [Act.put, List.getElem_toArray, List.getElem_cons_succ, List.getElem_cons_zero, List.setIfInBounds_toArray, List.set_cons_zero, List.set_cons_succ]
          refine wpAnyH_take (i := 24) (v := .bool true) rfl (by kernel_rfl) (by kernel_rfl) (by kernel_rfl) (fun _ _ _ h => h) (Yields.yieldsIf (Or.inl ⟨by rfl, by intro wz; go_simp⟩)) hS0 ?_
          try simp only [Act.put, List.getElem_toArray, List.getElem_cons_succ, List.getElem_cons_zero, List.setIfInBounds_toArray, List.set_cons_zero, List.set_cons_succ]
          refine wpAnyH_done (by kernel_rfl) ?_ _
          clear hS0
          go_wp2_with fail
          go_ret
          exact ⟨rfl, bstep2 HB2.out hd1 (Nat.le_refl _)⟩
        · have hb2 := ne2 h2
          rw [eq_no l h2] at HEQ
          rw [like_no l h2] at HLK
          have HEQ : Hid (∀ W, Below w.heap.size w W → Calls Tryd.prog 9 #[.string ⟨#[101, 113]⟩, .string ⟨#[]⟩, .slice ad l.length cap] W fun e w' => e = .returned (.tuple #[.agg #[.string ⟨#[]⟩, .string ⟨#[]⟩, .int .i64 1, .string ⟨#[]⟩, .string ⟨#[]⟩, .bool false], .bool true]) ∧ Below W.heap.size W w') := HEQ
          have HLK : Hid (∀ W, Below w.heap.size w W → Calls Tryd.prog 9 #[.string ⟨#[108, 105, 107, 101]⟩, .string ⟨#[]⟩, .slice ad l.length cap] W fun e w' => e = .returned (.tuple #[.agg #[.string ⟨#[]⟩, .string ⟨#[]⟩, .int .i64 1, .string ⟨#[]⟩, .string ⟨#[]⟩, .bool false], .bool true]) ∧ Below W.heap.size W w') := HLK
          go_wp2_with fail
          refine (HEQ.out _ HB.out).mono ?_
          rintro e w2 ⟨rfl, hw⟩
          have HB : Hid (Below w.heap.size w w2) := bstep2 HB.out hw (Nat.le_refl _)
          clear hw
          go_wp2_with fail
          refine (HLK.out _ (bstep2 HB.out (below_new _ _) (Nat.le_refl _))).mono ?_
          rintro e w3 ⟨rfl, hw⟩
          have KA : Hid (Cel w3 w2.heap.size 25 #[.string ⟨#[]⟩, .string ⟨#[]⟩, .int .i64 1, .string ⟨#[]⟩, .string ⟨#[]⟩, .bool false]) := (Cel.new w2 25 _).later hw
          have HB : Hid (Below w.heap.size w w3) := bstep2 (bstep2 HB.out (below_new _ _) (Nat.le_refl _)) hw (Nat.le_refl _)
          clear hw
          have HB2 : Hid (Below w.heap.size w (w3.alloc (.cells #[.string ⟨#[]⟩, .string ⟨#[]⟩, .int .i64 1, .string ⟨#[]⟩, .string ⟨#[]⟩, .bool false] 25))) := bstep2 HB.out (below_new _ _) (Nat.le_refl _)
          have KA2 : Hid (Cel (w3.alloc (.cells #[.string ⟨#[]⟩, .string ⟨#[]⟩, .int .i64 1, .string ⟨#[]⟩, .string ⟨#[]⟩, .bool false] 25)) w2.heap.size 25 #[.string ⟨#[]⟩, .string ⟨#[]⟩, .int .i64 1, .string ⟨#[]⟩, .string ⟨#[]⟩, .bool false]) := KA.out.alloc _
          have KB2 : Hid (Cel (w3.alloc (.cells #[.string ⟨#[]⟩, .string ⟨#[]⟩, .int .i64 1, .string ⟨#[]⟩, .string ⟨#[]⟩, .bool false] 25)) w3.heap.size 25 #[.string ⟨#[]⟩, .string ⟨#[]⟩, .int .i64 1, .string ⟨#[]⟩, .string ⟨#[]⟩, .bool false]) := Cel.new _ _ _
          have ca := KA.out.cell 2
          have la := KA.out.lt
          generalize w2.heap.size = ba at *
          go_wp2_with fail
          go_ret
          exact ⟨rfl, HB2.out⟩
end Go.Proofs.YtiddlineklfhfaaDoor

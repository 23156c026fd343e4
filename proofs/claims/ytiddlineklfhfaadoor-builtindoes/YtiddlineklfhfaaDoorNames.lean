/- The names of the shell's own commands; both answers side by side. -/
import Derived.Test.YtiddlineklfhfaaDoorRdo4
import Derived.Test.YtiddlineklfhfaaDoorRdo5
namespace Go.Proofs.YtiddlineklfhfaaDoor
open Go.RowKit Go.Shelf
attribute [local go_sem] Oper.semAt_some

def nms : List (List UInt8) := [[97, 100, 100], [99, 97, 116], [101, 99, 104, 111], [101, 113], [101, 120, 105, 116], [102, 97, 108, 115, 101], [108, 101, 115, 115], [108, 105, 107, 101], [112, 117, 116], [114, 101, 97, 100], [116, 114, 117, 101]]
theorem names_any (w : World) : Calls Tryd.prog 13 #[] w fun e w' => e = .returned (.slice (some ⟨w.heap.size, 0, none⟩) 11 11) ∧ w' = w.alloc (.cells #[.string ⟨#[97, 100, 100]⟩, .string ⟨#[99, 97, 116]⟩, .string ⟨#[101, 99, 104, 111]⟩, .string ⟨#[101, 113]⟩, .string ⟨#[101, 120, 105, 116]⟩, .string ⟨#[102, 97, 108, 115, 101]⟩, .string ⟨#[108, 101, 115, 115]⟩, .string ⟨#[108, 105, 107, 101]⟩, .string ⟨#[112, 117, 116]⟩, .string ⟨#[114, 101, 97, 100]⟩, .string ⟨#[116, 114, 117, 101]⟩] 9) := by
  go_enter Tryd.func13, Tryd.ntmps13
  go_wp2_with fail
  go_ret
  exact ⟨rfl, rfl⟩
theorem builtins_any (w : World) : Calls Tryd.prog 14 #[] w fun e w' => e = .returned (.slice (some ⟨w.heap.size, 0, none⟩) 11 11) ∧ w' = w.alloc (.cells #[.string ⟨#[97, 100, 100]⟩, .string ⟨#[99, 97, 116]⟩, .string ⟨#[101, 99, 104, 111]⟩, .string ⟨#[101, 113]⟩, .string ⟨#[101, 120, 105, 116]⟩, .string ⟨#[102, 97, 108, 115, 101]⟩, .string ⟨#[108, 101, 115, 115]⟩, .string ⟨#[108, 105, 107, 101]⟩, .string ⟨#[112, 117, 116]⟩, .string ⟨#[114, 101, 97, 100]⟩, .string ⟨#[116, 114, 117, 101]⟩] 9) := by
  go_enter Tryd.func14, Tryd.ntmps14
  go_wp2_with fail
  go_ret
  exact ⟨rfl, rfl⟩
theorem nms_new (w : World) : Tx (w.alloc (.cells #[.string ⟨#[97, 100, 100]⟩, .string ⟨#[99, 97, 116]⟩, .string ⟨#[101, 99, 104, 111]⟩, .string ⟨#[101, 113]⟩, .string ⟨#[101, 120, 105, 116]⟩, .string ⟨#[102, 97, 108, 115, 101]⟩, .string ⟨#[108, 101, 115, 115]⟩, .string ⟨#[108, 105, 107, 101]⟩, .string ⟨#[112, 117, 116]⟩, .string ⟨#[114, 101, 97, 100]⟩, .string ⟨#[116, 114, 117, 101]⟩] 9)) (.slice (some ⟨w.heap.size, 0, none⟩) 11 11) nms := Tx.built (ps := nms) 9
theorem names_tx (w : World) : Calls Tryd.prog 13 #[] w fun e w' => ∃ v, e = .returned v ∧ Tx w' v nms ∧ Below w.heap.size w w' := (names_any w).mono fun _ _ ⟨he, hw⟩ => ⟨_, he, hw ▸ nms_new w, hw ▸ below_new w _⟩
theorem builtins_tx (w : World) : Calls Tryd.prog 14 #[] w fun e w' => ∃ v, e = .returned v ∧ Tx w' v nms ∧ Below w.heap.size w w' := (builtins_any w).mono fun _ _ ⟨he, hw⟩ => ⟨_, he, hw ▸ nms_new w, hw ▸ below_new w _⟩
theorem any_take {l : List (List UInt8)} {k : Nat} {p n : List UInt8} (hp : l[k]? = some p) (h : (l.take k).any (· == n) = false) (hn : (p == n) = false) : (l.take (k + 1)).any (· == n) = false := by
  rw [List.take_add_one, hp, List.any_append, h]
  simp [hn]
theorem any_hit {l : List (List UInt8)} {k : Nat} {p n : List UInt8} (hp : l[k]? = some p) (hn : (p == n) = true) : l.any (· == n) = true :=
  List.any_eq_true.2 ⟨p, List.mem_of_getElem? hp, hn⟩
set_option maxHeartbeats 400000 in
theorem index_any (v : Value) (l : List (List UInt8)) (n : List UInt8) (w : World) (h : Tx w v l) (hl : l.length ≤ 100) (hs : ∀ p ∈ l, p.length ≤ 100) :
    Calls Tryd.prog 42 #[v, str n] w fun e w' => ∃ i : Int, e = .returned (.int .i64 i) ∧ decide (0 ≤ i) = l.any (· == n) ∧ w' = w := by
  have HT : Hid (Tx w v l) := h
  have HM : Hid (∀ p ∈ l, p.length ≤ 100) := hs
  obtain ⟨ad, cap, rfl⟩ := h.form
  clear h hs
  go_enter Tryd.func42, Tryd.ntmps42
  go_wp2_with fail
  go_loop [8] (fun i => ∃ k : Nat, k ≤ l.length ∧ i = .int .i64 k ∧ Hid ((l.take k).any (· == n) = false)) (fun i => l.length - (intOf i).toNat)
  case atStart => exact ⟨0, by omega, rfl, rfl⟩
  case round =>
    obtain ⟨k, hk, rfl, hh⟩ := hrel
    by_cases hlt : k < l.length
    · obtain ⟨p, hp⟩ : ∃ p, l[k]? = some p := ⟨_, List.getElem?_eq_getElem hlt⟩
      obtain ⟨g, o, cap', hv, hc, hg, hcell⟩ := HT.out.inRow (fun e => by rw [e] at hlt; simp at hlt)
      cases hv
      have hpl := HM.out p (List.mem_of_getElem? hp)
      have c := hcell k p hp
      have HPK : Hid (l[k]? = some p) := hp
      clear hcell hp
      cases hnp : (n == p)
      · have HNP : Hid ((p == n) = false) := by
          have : n ≠ p := by simpa using hnp
          show (p == n) = false
          rw [beq_eq_false_iff_ne]
          exact fun e => this e.symm
        go_wp2_with fail
        go_round
        case rel => exact ⟨k + 1, by omega, by go_num, any_take HPK.out hh.out HNP.out⟩
        case measure => simp [intOf]; omega
      · have HNP : Hid ((p == n) = true) := by
          have : n = p := by simpa using hnp
          show (p == n) = true
          rw [this]
          exact beq_self_eq_true _
        go_wp2_with fail
        go_ret
        exact ⟨k, rfl, by rw [any_hit HPK.out HNP.out]; exact decide_eq_true (by omega), rfl⟩
    · have hk2 : k = l.length := by omega
      have HA : Hid (l.any (· == n) = false) := by
        have := hh.out
        rw [hk2, List.take_length] at this
        exact this
      clear hk2 hh
      go_wp2_with fail
      go_ret
      exact ⟨-1, rfl, by rw [HA.out]; rfl, rfl⟩
theorem contains_any (v : Value) (l : List (List UInt8)) (n : List UInt8) (w : World) (h : Tx w v l) (hl : l.length ≤ 100) (hs : ∀ p ∈ l, p.length ≤ 100) :
    Calls Tryd.prog 29 #[v, str n] w fun e w' => e = .returned (.bool (l.any (· == n))) ∧ w' = w := by
  have HI : Hid (Calls Tryd.prog 42 #[v, str n] w fun e w' => ∃ i : Int, e = .returned (.int .i64 i) ∧ decide (0 ≤ i) = l.any (· == n) ∧ w' = w) := index_any v l n w h hl hs
  obtain ⟨r, hr⟩ : ∃ r, l.any (· == n) = r := ⟨_, rfl⟩
  rw [hr] at HI ⊢
  obtain ⟨ad, cap, rfl⟩ := h.form
  clear h hl hs hr
  go_enter Tryd.func29, Tryd.ntmps29
  go_wp2_with fail
  refine HI.out.mono ?_
  rintro e w1 ⟨i, rfl, hi, hw⟩
  obtain rfl := hw.symm
  have HI2 : Hid (decide (0 ≤ i) = r) := hi
  clear hi
  go_wp2_with fail
  go_ret
  exact ⟨by rw [← HI2.out]; rfl, rfl⟩
def isB (n : List UInt8) : Bool := nms.any (· == n)
theorem is_any8 (n : List UInt8) (w : World) : Calls Tryd.prog 11 #[str n] w fun e w' => e = .returned (.bool (isB n)) ∧ Below w.heap.size w w' := by
  go_enter Tryd.func11, Tryd.ntmps11
  go_wp2_with fail
  refine (names_tx w).mono ?_
  rintro e w1 ⟨v, rfl, ht, hw⟩
  have HC : Hid (Calls Tryd.prog 29 #[v, str n] w1 fun e w' => e = .returned (.bool (isB n)) ∧ w' = w1) := contains_any v nms n w1 ht (by decide) (by decide)
  obtain ⟨ad, cap, rfl⟩ := ht.form
  clear ht
  generalize nms.length = L at *
  go_wp2_with fail
  refine HC.out.mono ?_
  rintro e w2 ⟨rfl, hw2⟩
  obtain rfl := hw2.symm
  go_wp2_with fail
  go_ret
  exact ⟨rfl, hw⟩
set_option maxHeartbeats 800000 in
theorem same_yes (v u : Value) (l : List (List UInt8)) (w : World) (h : Tx w v l) (k : Tx w u l) (hl : l.length ≤ 100) (hs : ∀ p ∈ l, p.length ≤ 100) :
    Calls Tryd.prog 12 #[v, u] w fun e w' => e = .returned (.bool true) ∧ Below w.heap.size w w' := by
  have HT : Hid (Tx w v l) := h
  have HU : Hid (Tx w u l) := k
  have HM : Hid (∀ p ∈ l, p.length ≤ 100) := hs
  obtain ⟨ad, cap, rfl⟩ := h.form
  obtain ⟨ad2, cap2, rfl⟩ := k.form
  clear h k hs
  go_enter Tryd.func12, Tryd.ntmps12
  go_wp2_with fail
  go_loopw [5] (fun i W => ∃ k : Nat, k ≤ l.length ∧ i = .int .i64 k ∧ ∃ n, W = w.drewN n) (fun i _ => l.length - (intOf i).toNat)
  case atStart => exact ⟨0, by omega, rfl, 0, rfl⟩
  case round =>
    obtain ⟨k, hk, rfl, n, rfl⟩ := hrel
    by_cases hlt : k < l.length
    · obtain ⟨p, hp⟩ : ∃ p, l[k]? = some p := ⟨_, List.getElem?_eq_getElem hlt⟩
      obtain ⟨g, o, cap', hv, hc, hg, hcell⟩ := HT.out.inRow (fun e => by rw [e] at hlt; simp at hlt)
      cases hv
      obtain ⟨g2, o2, cap2', hv, hc2, hg2, hcell2⟩ := HU.out.inRow (fun e => by rw [e] at hlt; simp at hlt)
      cases hv
      have hpl := HM.out p (List.mem_of_getElem? hp)
      have c := hcell k p hp
      have c2 := hcell2 k p hp
      clear hcell hcell2 hp
      go_wp2_with fail
      go_quiet (fail)
      go_wp2_with fail
      go_roundw
      case rel => exact ⟨k + 1, by omega, by go_num, n + nq, rfl⟩
      case measure => simp [intOf]; omega
    · go_wp2_with fail
      go_ret
      exact ⟨rfl, below_drewN _ _⟩
end Go.Proofs.YtiddlineklfhfaaDoor

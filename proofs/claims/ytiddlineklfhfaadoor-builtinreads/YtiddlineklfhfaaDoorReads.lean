/- Read again and again, a text is its lines, one by one, and then there is no more. -/
import Derived.Test.YtiddlineklfhfaaDoorFirst
namespace Go.Proofs.YtiddlineklfhfaaDoor
open Go.RowKit Go.Shelf
attribute [local go_sem] Oper.semAt_some

theorem bstep4 {B : Nat} {w W W' : World} (h : Below B w W) (k : Below W.heap.size W W') (hB : B ≤ w.heap.size) : Below B w W' := h.trans (k.mono (Nat.le_trans hB h.size))
theorem line_parts (l : List UInt8) : (lineL l ++ [10] ++ restL l = l) ∨ (lineL l = l ∧ restL l = []) := by
  by_cases h : Lib.indexByte l 10 = -1
  · exact .inr (line_none l h)
  · have hge := Lib.indexByte_ge l 10
    obtain ⟨k, hk⟩ : ∃ k : Nat, Lib.indexByte l 10 = k := ⟨(Lib.indexByte l 10).toNat, by omega⟩
    obtain ⟨h1, h2, h3⟩ := line_some l k hk
    have h4 := (Lib.indexByte_some hk).1
    left
    rw [h1, h2, List.append_assoc, List.singleton_append, ← drop_cons h4, List.take_append_drop]
theorem line_ten : ∀ (l : List UInt8), ∀ b ∈ lineL l, b ≠ 10
  | [], b, hb => by simp [lineL] at hb
  | c :: l, b, hb => by
    unfold lineL at hb
    rw [List.takeWhile_cons] at hb
    by_cases hc : (c != 10) = true
    · rw [if_pos hc] at hb
      rcases List.mem_cons.1 hb with rfl | hb
      · simpa using hc
      · exact line_ten l b hb
    · rw [if_neg hc] at hb
      simp at hb
theorem byte_ten (lb : ByteArray) (l : List UInt8) (h : lb.data.toList = lineL l) : ∀ (k : Nat) (hk : k < lb.size), ((((lb[k]'hk).toNat : Nat) : Int) == 10) = false := by
  intro k hk
  have hm : lb[k]'hk ∈ lb.data.toList := List.mem_of_getElem? (s_get lb k hk)
  rw [h] at hm
  have hne := line_ten l _ hm
  rw [beq_eq_false_iff_ne]
  intro e
  exact hne (UInt8.toNat_inj.1 (by show (lb[k]'hk).toNat = 10; omega))
theorem rest_lt (l : List UInt8) (h : 0 < l.length) : (restL l).length < l.length ∧ (lineL l).length ≤ l.length := by
  rcases line_parts l with h1 | ⟨h1, h2⟩
  · have := congrArg List.length h1
    simp at this
    omega
  · rw [h1, h2]
    simpa using h
/-- What was read, and what is left, are the text; or all is read, and its last line had no newline. -/
def Inv (s r a : ByteArray) : Prop := a.data.toList ++ r.data.toList = s.data.toList ∨ (r.data.toList = [] ∧ a.data.toList = s.data.toList ++ [10])
theorem size_len (s : ByteArray) : s.size = s.data.toList.length := by simp
theorem inv_step {s r a lb rb : ByteArray} (h : Inv s r a) (h0 : 0 < r.size) (hl : lb.data.toList = lineL r.data.toList) (hr : rb.data.toList = restL r.data.toList) : Inv s rb (a ++ lb ++ ⟨#[10]⟩) := by
  have e : (a ++ lb ++ ⟨#[10]⟩).data.toList = a.data.toList ++ lb.data.toList ++ [10] := by simp
  unfold Inv
  rw [e, hl, hr]
  rcases h with h | ⟨h, _⟩
  · rcases line_parts r.data.toList with h1 | ⟨h1, h2⟩
    · left
      rw [← h]
      conv => rhs; rw [← h1]
      simp
    · right
      rw [h1, h2, ← h]
      exact ⟨rfl, rfl⟩
  · rw [size_len, h] at h0
    simp at h0
theorem inv_size {s r a : ByteArray} (h : Inv s r a) : a.size ≤ s.size + 1 := by
  rw [size_len, size_len]
  rcases h with h | ⟨_, h⟩
  · have := congrArg List.length h
    simp at this ⊢
    omega
  · rw [h]; simp
theorem do_readv (s : ByteArray) (hs : s.size ≤ 2000) (h0 : 0 < s.size) (w : World) (b : Nat) (hb : b = w.heap.size) : Calls Tryd.prog 9 #[.string ⟨#[114, 101, 97, 100]⟩, .string s, .slice (some ⟨b, 0, none⟩) 1 1] (w.alloc (.cells #[.string ⟨#[118]⟩] 9)) fun e w' =>
    ∃ lb rb : ByteArray, e = .returned (.tuple #[.agg #[.string ⟨#[]⟩, .string rb, .int .i64 0, .string ⟨#[118]⟩, .string lb, .bool false], .bool true]) ∧ lb.data.toList = lineL s.data.toList ∧ rb.data.toList = restL s.data.toList ∧ Below (w.alloc (.cells #[.string ⟨#[118]⟩] 9)).heap.size (w.alloc (.cells #[.string ⟨#[118]⟩] 9)) w' := by
  subst hb
  have := do_read s _ [[118]] _ (Tx.built (W := w) (ps := [[118]]) 9) (by decide) (by omega)
  refine this.mono ?_
  rintro e w' ⟨rfl, hw⟩
  have hne : s.data.toList.isEmpty = false := by
    rw [size_len] at h0
    cases h : s.data.toList with
    | nil => rw [h] at h0; simp at h0
    | cons a r => rfl
  have e2 : readR s.data.toList [[118]] = ⟨[], restL s.data.toList, 0, [118], lineL s.data.toList, false⟩ := by
    unfold readR
    rw [hne]
    rfl
  rw [e2]
  exact ⟨⟨(lineL s.data.toList).toArray⟩, ⟨(restL s.data.toList).toArray⟩, rfl, rfl, rfl, hw⟩
theorem do_readn (w : World) (b : Nat) (hb : b = w.heap.size) : Calls Tryd.prog 9 #[.string ⟨#[114, 101, 97, 100]⟩, .string ⟨#[]⟩, .slice (some ⟨b, 0, none⟩) 1 1] (w.alloc (.cells #[.string ⟨#[118]⟩] 9)) fun e w' =>
    e = .returned (.tuple #[.agg #[.string ⟨#[]⟩, .string ⟨#[]⟩, .int .i64 1, .string ⟨#[]⟩, .string ⟨#[]⟩, .bool false], .bool true]) ∧ Below (w.alloc (.cells #[.string ⟨#[118]⟩] 9)).heap.size (w.alloc (.cells #[.string ⟨#[118]⟩] 9)) w' := by
  subst hb
  exact do_read ⟨#[]⟩ _ [[118]] _ (Tx.built (W := w) (ps := [[118]]) 9) (by decide) (by decide)
def ReadRel (s : ByteArray) (w : World) (t4 t5 t6 : Value) (W : World) : Prop :=
  ∃ (n : Nat) (r a : ByteArray), t4 = .string r ∧ t5 = .string a ∧ t6 = .int .i64 n ∧ n + r.size ≤ s.size ∧ a.size ≤ 2001 ∧ Hid (Inv s r a) ∧ Hid (Below w.heap.size w W)
set_option maxRecDepth 100000 in
set_option maxHeartbeats 4000000 in
theorem reads_any (s : ByteArray) (w : World) (hP : ∀ W, Below w.heap.size w W → Pow W) :
    Calls Tryd.prog 4 #[.string s] w fun e w' => e = .returned (.bool true) ∧ Below w.heap.size w w' := by
  have HP : Hid (∀ W, Below w.heap.size w W → Pow W) := hP
  clear hP
  by_cases h2 : 2000 < s.size
  · go_enter Tryd.func4, Tryd.ntmps4
    go_wp2_with fail
    refine (first_any w HP.out).mono ?_
    rintro e w1 ⟨rfl, HB⟩
    have HB : Hid (Below w.heap.size w w1) := HB
    go_wp2_with fail
    go_ret
    exact ⟨rfl, HB.out⟩
  go_enter Tryd.func4, Tryd.ntmps4
  go_wp2_with fail
  refine (first_any w HP.out).mono ?_
  rintro e w1 ⟨rfl, HB⟩
  have HB : Hid (Below w.heap.size w w1) := HB
  go_wp2_with fail
  go_loopw [4, 5, 6] (fun t4 t5 t6 W => ReadRel s w t4 t5 t6 W) (fun _ _ t6 _ => 3000 - (intOf t6).toNat)
  case atStart => exact ⟨0, s, ⟨#[]⟩, rfl, rfl, rfl, by omega, by decide, .inl (by simp), HB.out⟩
  case round => as_aux_lemma =>
    obtain ⟨n, r, a, rfl, rfl, rfl, hnr, ha, HI, HB⟩ := hrel
    by_cases h0 : r.size = 0
    · obtain rfl := T.empty_of r h0
      go_wp2_with fail
      refine (do_readn _ _ rfl).mono ?_
      rintro e w2 ⟨rfl, hw⟩
      have HB : Hid (Below w.heap.size w w2) := bstep4 (bstep4 HB.out (below_new _ _) (Nat.le_refl _)) hw (Nat.le_refl _)
      clear hw
      have hs1 : s.size ≤ 2000 := by omega
      by_cases hA : (a.toList == s.toList) = true
      · go_wp2_with fail
        go_ret
        exact ⟨rfl, HB.out.alloc HB.out.size _⟩
      · have hA1 : (a.toList == s.toList) = false := by simpa using hA
        have hA2 : (a.toList == (s ++ ⟨#[10]⟩).toList) = true := by
          rw [ByteArray.toList_eq, ByteArray.toList_eq] at hA1 ⊢
          have hne : a.data.toList ≠ s.data.toList := by simpa using hA1
          rcases HI.out with h | ⟨_, h⟩
          · simp at h
            exact absurd (by rw [h]) hne
          · rw [h]; simp
        clear hA
        go_wp2_with fail
        go_ret
        exact ⟨rfl, HB.out.alloc HB.out.size _⟩
    · have hr0 : 0 < r.size := by omega
      have hs1 : s.size ≤ 2000 := by omega
      go_wp2_with fail
      refine (do_readv r (by omega) hr0 _ _ rfl).mono ?_
      rintro e w2 ⟨lb, rb, rfl, hlb, hrb, hw⟩
      have HB : Hid (Below w.heap.size w w2) := bstep4 (bstep4 HB.out (below_new _ _) (Nat.le_refl _)) hw (Nat.le_refl _)
      have hlt := rest_lt r.data.toList (by rw [← size_len]; exact hr0)
      rw [← hlb, ← hrb, ← size_len, ← size_len, ← size_len] at hlt
      obtain ⟨hlt1, hlt2⟩ := hlt
      have hten := byte_ten lb _ hlb
      have HIN : Hid (Inv s rb (a ++ lb ++ ⟨#[10]⟩)) := inv_step HI.out hr0 hlb hrb
      have HT : Hid (∀ (k : Nat) (hk : k < lb.size), ((((lb[k]'hk).toNat : Nat) : Int) == 10) = false) := hten
      clear hw hlb hrb hten
      have K : Hid (Cel (w2.alloc (.cells #[.string ⟨#[]⟩, .string rb, .int .i64 0, .string ⟨#[118]⟩, .string lb, .bool false] 25)) w2.heap.size 25 #[.string ⟨#[]⟩, .string rb, .int .i64 0, .string ⟨#[118]⟩, .string lb, .bool false]) := Cel.new _ _ _
      have HB2 : Hid (Below w.heap.size w (w2.alloc (.cells #[.string ⟨#[]⟩, .string rb, .int .i64 0, .string ⟨#[118]⟩, .string lb, .bool false] 25))) := bstep4 HB.out (below_new _ _) (Nat.le_refl _)
      go_upto_region 14 with fail
      generalize w2.alloc (.cells #[.string ⟨#[]⟩, .string rb, .int .i64 0, .string ⟨#[118]⟩, .string lb, .bool false] 25) = W2 at K HB2 ⊢
      generalize w2.heap.size = bo at K ⊢
      have c4 : W2.cell? ⟨bo, 4, none⟩ = some (.string lb) := K.out.cell 4
      have c3 : W2.cell? ⟨bo, 3, none⟩ = some (.string ⟨#[118]⟩) := K.out.cell 3
      have c1 : W2.cell? ⟨bo, 1, none⟩ = some (.string rb) := K.out.cell 1
      go_wp2_with fail
      go_loop [9] (fun t => ∃ k : Nat, k ≤ lb.size ∧ t = .int .i64 k) (fun t => lb.size - (intOf t).toNat)
      case atStart => exact ⟨0, by omega, rfl⟩
      case round => as_aux_lemma =>
        obtain ⟨k, hk, rfl⟩ := hrel
        by_cases hlt : k < lb.size
        · have h10 := HT.out k hlt
          go_wp2_with fail
          go_round
          case rel => exact ⟨k + 1, by omega, by go_num⟩
          case measure => simp [intOf]; omega
        · go_wp2_with fail
          go_roundw
          case rel => exact ⟨n + 1, rb, a ++ lb ++ (⟨#[10]⟩ : ByteArray), rfl, rfl, by go_num, by omega, by have := inv_size HIN.out; omega, HIN, HB2⟩
          case measure => simp [intOf]; omega
end Go.Proofs.YtiddlineklfhfaaDoor

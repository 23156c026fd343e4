/- The document's kernel: an event is noted; Mark, Write. -/
import Derived.Test.YthhghkjgffcpeaaDoorRK3
namespace Go.Proofs.YthhghkjgffcpeaaDoor
open Go.RowKit

variable {W W' : World} {K K' S : Nat → Prop} {xb : Nat} {fv rv tv : Value} {F : Fls} {X : List (Ev × Value)} {Y : List (Rw × Value)}
theorem Rk.noted (h : Rk W K xb fv rv tv F X) {W1 : World} {e : Ev} {lv tv' : Value} {Kl : Nat → Prop} (hl : Ot W Kl lv e.l)
    (ho : W1.ownsRow 0 70 5 tv' (X.length + 1) (evCs X ++ evC e lv)) (hg : W.grownBy W1 tv.ownBlock) (hat : tv'.ownBlock = tv.ownBlock ∨ tv'.ownBlock = some W.heap.size) :
    ∃ K', Rk (W1.setCell ⟨xb, 2, none⟩ tv') K' xb fv rv tv' F (X ++ [(e, lv)]) ∧ Turn K W (W1.setCell ⟨xb, 2, none⟩ tv') ∧ (∀ i, K' i → K i ∨ lv.ownBlock = some i ∨ W.heap.size ≤ i) ∧ W1.cell? ⟨xb, 2, none⟩ = some tv ∧ W1.frozen? ⟨xb, 2, none⟩ = false := by
  have hT := Turn.ofGrown hg
  have hxc1 : Cel W1 xb 60 #[fv, rv, tv] := h.xc.turn hT (fun e => owns_apart h.xc h.er (by decide) e)
  have hsz : W.heap.size ≤ W1.heap.size := hT.size
  have hT2 := turn_set W1 xb 2 tv'
  have rowk : ∀ {e k n : Nat} {v : Value} {xs : List Value}, W1.ownsRow 0 e k v n xs → 60 ≠ e → ∀ b, v.ownBlock = some b → ¬ b = xb := fun ho hne b hb e' => owns_apart hxc1 ho hne (by rw [hb, e'])
  have row2 : ∀ {e k n : Nat} {v : Value} {xs : List Value}, W.ownsRow 0 e k v n xs → 60 ≠ e → 70 ≠ e → (W1.setCell ⟨xb, 2, none⟩ tv').ownsRow 0 e k v n xs := fun ho h1 h2 => by
    have o1 := owns_turn ho hT (fun b hb e' => owns_apart2 h.er ho h2 b e' hb)
    exact owns_turn o1 hT2 (rowk o1 h1)
  refine ⟨fun i => K i ∨ (lv.ownBlock = some i) ∨ (tv'.ownBlock = some i), ⟨?_, row2 h.fr (by decide) (by decide), ?_, ?_, .inl h.Kx, fun b hb => .inl (h.Kf b hb), fun b hb => .inr (.inr hb), ?_⟩, ?_, ?_, hxc1.cell 2, hxc1.frozen 2⟩
  · exact hxc1.set tv'
  · refine owns_turn ?_ hT2 (rowk ho (by decide))
    rw [evCs_snoc, List.length_append]
    exact ho
  · intro p hp
    rcases List.mem_append.1 hp with hp | hp
    · exact ⟨row2 (h.xt p hp).1 (by decide) (by decide), fun b hb => .inl ((h.xt p hp).2 b hb)⟩
    · simp only [List.mem_singleton] at hp
      subst hp
      exact ⟨row2 hl.1 (by decide) (by decide), fun b hb => .inr (.inl hb)⟩
  · intro i hi
    rw [set_size]
    rcases hi with hi | hi | hi
    · exact Nat.lt_of_lt_of_le (h.lt i hi) hsz
    · exact Nat.lt_of_lt_of_le (hl.1.lt i hi).2 hsz
    · exact (ho.lt i hi).2
  · exact (hT.mono (fun i e' => h.Kt i e')).trans hT2 (fun i e' _ => by subst e'; exact h.Kx)
  · intro i hi
    rcases hi with hi | hi | hi
    · exact .inl hi
    · exact .inr (.inl hi)
    · rcases hat with e' | e'
      · exact .inl (h.Kt i (by rw [← e']; exact hi))
      · rw [hi] at e'
        cases e'
        exact .inr (.inr (Nat.le_refl _))
theorem Ot.none (W : World) : Ot W (fun _ => False) (.slice none 0 0) [] := ⟨World.ownsRow_nil _ _ _ _, fun b hb => by simp [Value.ownBlock] at hb⟩

set_option maxRecDepth 100000 in
set_option maxHeartbeats 2000000 in
theorem rmark_any (h : Rk W K xb fv rv tv F X) (k n : Int) (hX : X.length < 60000) :
    Calls Tryd.prog 25 #[xP xb, .int .i64 k, .int .i64 n] W fun r w' => r = .returned (.tuple #[]) ∧ ∃ tv' X' K', Rk w' K' xb fv rv tv' F (X ++ X') ∧ X'.map Prod.fst = marked k n ∧ Stp W K w' K' := by
  obtain ⟨i0, hi0, hz0, hz1, hz2⟩ := info_parts info70
  have HH : Hid (∀ W', Below W.heap.size W W' → Rk W' K xb fv rv tv F X) := fun W' hb => h.below hb
  have c2 : W.cell? ⟨xb, 2, none⟩ = some tv := h.xc.cell 2
  obtain ⟨adt, capt, rfl⟩ := owns_slice h.er
  have hk : (k = 4 ∨ k = 5 ∨ k = 6) ∨ (¬ k = 4 ∧ ¬ k = 5 ∧ ¬ k = 6) := by omega
  clear h
  rcases hk with hk | ⟨h4, h5, h6⟩
  · have HM : Hid (marked k n = [⟨k, n, [], [], []⟩]) := by
      unfold Hid marked markB
      rcases hk with rfl | rfl | rfl <;> rfl
    have hb1 : Below W.heap.size W (W.alloc (.cells #[.int .i64 k, .int .i64 n, .string ⟨#[]⟩, .string ⟨#[]⟩, .slice none 0 0] 70)) := below_new W _
    have hoA := (HH.out _ hb1).er
    have HFIN : Hid (∀ (ad5 : Option Addr) (n5 cap5 : Nat) (w5 : World), w5.ownsRow 0 70 5 (.slice ad5 n5 cap5) (X.length + 1) (evCs X ++ evC ⟨k, n, [], [], []⟩ (.slice none 0 0)) → (W.alloc (.cells #[.int .i64 k, .int .i64 n, .string ⟨#[]⟩, .string ⟨#[]⟩, .slice none 0 0] 70)).grownBy w5 (Value.slice adt X.length capt).ownBlock → ((Value.slice ad5 n5 cap5).ownBlock = (Value.slice adt X.length capt).ownBlock ∨ (Value.slice ad5 n5 cap5).ownBlock = some (W.alloc (.cells #[.int .i64 k, .int .i64 n, .string ⟨#[]⟩, .string ⟨#[]⟩, .slice none 0 0] 70)).heap.size) → (∃ tv' X' K', Rk (w5.setCell ⟨xb, 2, none⟩ (.slice ad5 n5 cap5)) K' xb fv rv tv' F (X ++ X') ∧ X'.map Prod.fst = marked k n ∧ Stp W K (w5.setCell ⟨xb, 2, none⟩ (.slice ad5 n5 cap5)) K') ∧ w5.cell? ⟨xb, 2, none⟩ = some (.slice adt X.length capt) ∧ w5.frozen? ⟨xb, 2, none⟩ = false) := fun ad5 n5 cap5 w5 q1 q2 q3 => by
      obtain ⟨K5, N1, N2, N3, c5, f5⟩ := (HH.out _ hb1).noted (Ot.none _) q1 q2 q3
      exact ⟨⟨_, [(⟨k, n, [], [], []⟩, .slice none 0 0)], K5, N1, by rw [HM.out]; rfl, (Turn.ofBelow hb1).trans N2 (fun _ h _ => h), fun i hi => (N3 i hi).elim .inl (fun h => h.elim (fun h => by simp [Value.ownBlock] at h) (fun h => .inr (Nat.le_trans hb1.size h)))⟩, c5, f5⟩
    rcases hk with rfl | rfl | rfl
    all_goals
      go_enter Tryd.func25, Tryd.ntmps25
      go_wp2_with (at_builtin; refine wpList_append_own_at _ rfl _ _ 52 rfl 0 70 i0 _ 5 72 Tryd.underlying52 hi0 hz0 hz1 hz2 rfl (by decide) _ _ _ rfl hoA ⟨W.heap.size, 0, none⟩ 1 1 (evC ⟨_, n, [], [], []⟩ (.slice none 0 0)) rfl rfl (cells_new W _ 70) (evC_one _ _ _) (by have := maxLen_big; omega) (by omega) (Nat.zero_le _) ?_; intro v5 w5 hown5 hgrow5 _ hat5; obtain ⟨ad5, n5, cap5, rfl⟩ := owns_form hown5; obtain ⟨NT, c5, f5⟩ := HFIN.out ad5 n5 cap5 w5 hown5 hgrow5 hat5; have HNT : Hid _ := NT; clear NT hown5 hgrow5 hat5)
      go_end0
      exact ⟨rfl, HNT.out⟩
  · have HM : Hid (marked k n = []) := by
      unfold Hid marked markB
      rw [if_neg]
      simp [h4, h5, h6]
    have e4 : (k == 4) = false := by simpa using h4
    have e5 : (k == 5) = false := by simpa using h5
    have e6 : (k == 6) = false := by simpa using h6
    clear h4 h5 h6
    go_enter Tryd.func25, Tryd.ntmps25
    go_wp2_with fail
    go_end0
    exact ⟨rfl, _, [], K, by rw [List.append_nil]; exact HH.out _ (Below.refl _ _), by rw [HM.out]; rfl, Stp.refl _ _⟩
end Go.Proofs.YthhghkjgffcpeaaDoor

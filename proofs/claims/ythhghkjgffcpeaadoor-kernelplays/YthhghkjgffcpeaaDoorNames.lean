/- The files' names, sorted. -/
import Derived.Test.YthhghkjgffcpeaaDoorExec
import Derived.Test.YthhghkjgffcpeaaDoorShelf3
import Derived.Shelf.SlIter.Nil
import Derived.Shelf.Slices.In.SortNone
namespace Go.Proofs.YthhghkjgffcpeaaDoor
open Go.RowKit Go.Maps Go.Sort Go.Shelf

theorem sort_none (a : Option Addr) (cap : Nat) (w : World) : Calls Tryd.prog 74 #[.slice a 0 cap] w fun e w' => e = .returned (.tuple #[]) ∧ w' = w :=
  fun cs =>
    let ⟨e, w', fr, r, st, x⟩ := (AnyS.slices_Sort_string_none_alone Tryd.lays190 (cs.length + 3) a cap w).2 cs (fun d hd => by cases hd; omega)
    ⟨e, w', fr, r, st.comes, x⟩
theorem sorts58 (m : Nat) : AnyZ.SortsIn Tryd.prog Tryd.sorted58_ren Fence.wide m :=
  ⟨fun blk off cap ss W hH hblk hsz => callsIn_wide.2 (Tryd.slices_Sort_string blk off cap ss W hH hblk hsz),
   fun p cap W => callsIn_wide.2 (sort_none p cap W)⟩
theorem maps_keys (mb : Option Nat) (W : World) : CallsIn Fence.wide 5 Tryd.prog 59 #[.map mb] W fun e w' => e = .returned (.func (.func 75) #[] #[.pointer (some ⟨W.heap.size, 0, none⟩)]) ∧ w' = W.alloc (.cells #[.map mb] 55) :=
  AnyZ.keys_in Tryd.keys59 Fence.wide 5 trivial rfl mb W
set_option maxHeartbeats 1000000 in
theorem sorted_keys {H : Type} (b nn : Nat) (D0 : DataW H) (R : Value → Option (DataW H × List MemPlace)) (w : World) (hown : w.ownsMap Tryd.prog 9 R b nn D0) (hmax : Maps.size D0 ≤ maxLen) (hbytes : Maps.size D0 * 16 ≤ 140737488355328) :
    CallsIn Fence.wide 5 Tryd.prog 58 #[.func (.func 75) #[] #[.pointer (some ⟨w.heap.size, 0, none⟩)]] (w.alloc (.cells #[.map (some b)] 55)) fun e w' => ∃ (v : Value) (ss : List (List UInt8)), e = .returned v ∧ ss.Perm (strKeys D0) ∧
      w'.ownsRow (w.alloc (.cells #[.map (some b)] 55)).heap.size 9 1 v ss.length ((ss.mergeSort (fun x y => decide (x ≤ y))).map encStr) ∧ (v = .slice none 0 0 ↔ ss = []) ∧ Below (w.alloc (.cells #[.map (some b)] 55)).heap.size (w.alloc (.cells #[.map (some b)] 55)) w' := by
  have hbl := hown.lt
  have hseq : SeqGives Fence.wide 2 Tryd.prog 75 #[.pointer (some ⟨w.heap.size, 0, none⟩)] encStr (fun ss => ss.Perm (strKeys D0)) (Maps.size D0) (w.alloc (.cells #[.map (some b)] 55)) :=
    AnyZ.keys_gives (ρ := Tryd.keys59_ren) { Tryd.keys59 with } Fence.wide _ trivial rfl (by omega) w.heap.size b nn D0 _ (by simp) (by simp) (by
      obtain ⟨es, clock, hb, Ft, hs, hD⟩ := hown
      exact ⟨es, clock, (Below.heap_alloc _ _ b hbl).trans hb, Ft, hs, hD⟩)
  exact AnyZ.sorted_in Tryd.sorted58 Fence.wide 5 trivial trivial trivial trivial rfl (by omega) (sorts58 _) (enters_of Tryd.func74 (by kernel_rfl) rfl) 75 #[.pointer (some ⟨w.heap.size, 0, none⟩)] trivial (enters_of Tryd.func75 (by kernel_rfl) rfl) _ _ hmax hbytes _ hseq

theorem bytes_le : ∀ a b : List UInt8, bytesBefore a b = true → a ≤ b
  | [], _, _ => List.nil_le _
  | _ :: _, [], h => by simp [bytesBefore] at h
  | a :: r, b :: s, h => by
    simp only [bytesBefore, Bool.or_eq_true, Bool.and_eq_true, decide_eq_true_eq, beq_iff_eq] at h
    rcases h with h | ⟨rfl, h⟩
    · exact List.le_of_lt (List.cons_lt_cons_iff.2 (.inl h))
    · exact List.cons_le_cons_iff.2 (.inr ⟨rfl, bytes_le r s h⟩)
variable {W : World} {K : Nat → Prop} {kb mb : Nat} {ev rv : Value} {F : Fls} {Y : List (Rw × Value)} {X : List (Ev × Value)}
theorem sorted_names (h : W.ownsMap Tryd.prog 9 flE mb F.length (dF F)) (ss : List (List UInt8)) (hs : ss.Perm (strKeys (dF F))) : ss.mergeSort (fun x y => decide (x ≤ y)) = F.map Prod.fst := by
  rw [dF_keys] at hs
  obtain ⟨es, he, hp, _⟩ := h.canon key9
  have hF : F.Pairwise fun p q => bytesBefore p.1 q.1 = true := by
    unfold dF at he
    cases he
    rw [List.pairwise_map] at hp
    exact hp
  have e1 := mergeSort_of_perm hs
  refine e1.trans (List.mergeSort_of_pairwise ?_)
  rw [List.pairwise_map]
  exact hF.imp fun {a b} hab => decide_eq_true (bytes_le _ _ hab)
theorem enc_tx (l : List Txt) : l.map encStr = txV l := rfl

set_option maxHeartbeats 1000000 in
theorem names_any (h : Kern W K kb mb ev rv F Y X) (hF : F.length < 4294967296) :
    Calls Tryd.prog 32 #[kP kb] W fun e w' => ∃ v', e = .returned v' ∧ w'.ownsRow W.heap.size 9 1 v' (F.map Prod.fst).length (txV (F.map Prod.fst)) ∧ Below W.heap.size W w' := by
  have c1 := h.kc.cell 1
  have HM : Hid (W.ownsMap Tryd.prog 9 flE mb F.length (dF F)) := h.fm
  have e1 : Maps.size (dF F) = F.length := by simp [dF, Maps.size]
  have HZ : Hid (Maps.size (dF F) ≤ maxLen ∧ Maps.size (dF F) * 16 ≤ 140737488355328) := by
    unfold Hid
    rw [e1]
    have := maxLen_big
    omega
  clear h e1
  refine (callsIn_wide (n := 6)).1 ?_
  have hfK : Fence.wide.fn 59 := trivial
  have hfS : Fence.wide.fn 58 := trivial
  refine callsIn_of_wp Tryd.func32 rfl trivial ?_ rfl
  simp only [Tryd.ntmps32, List.size_toArray, List.length_cons, List.length_nil, Nat.reduceAdd, Nat.reduceSub, Array.replicate_succ, Array.replicate_zero, List.push_toArray, List.append_toArray, List.nil_append, List.cons_append]
  gi_wp2_with (first
    | (gi_at_call 59; refine (maps_keys _ _).mono ?_; rintro e w1 ⟨rfl, rfl⟩)
    | (gi_at_call 58; refine (sorted_keys mb F.length (dF F) flE W HM.out HZ.out.1 HZ.out.2).mono ?_; rintro e w2 ⟨v, ss, rfl, hS, hrow, hnil, hb⟩))
  go_ret
  have hn := sorted_names HM.out ss hS
  have hl : ss.length = (F.map Prod.fst).length := by rw [← hn, List.length_mergeSort]
  rw [hn, enc_tx, hl] at hrow
  exact ⟨v, rfl, owns_lower hrow (by simp), (below_new _ _).trans (hb.mono (by simp))⟩
end Go.Proofs.YthhghkjgffcpeaaDoor

/- The functions' names, sorted. -/
import Derived.Test.YtikogljojnapaaaFirst
import Derived.Test.YtikogljojnapaaaShelf
import Derived.Shelf.SlIter.Nil
import Derived.Shelf.Slices.In.SortNone
namespace Go.Proofs.Ytikogljojnapaaa
open Go.RowKit Go.Maps Go.Sort Go.Shelf

theorem sort_none (a : Option Addr) (cap : Nat) (w : World) : Calls Try.prog 46 #[.slice a 0 cap] w fun e w' => e = .returned (.tuple #[]) ∧ w' = w :=
  fun cs =>
    let ⟨e, w', fr, r, st, x⟩ := (AnyS.slices_Sort_string_none_alone Try.lays190 (cs.length + 3) a cap w).2 cs (fun d hd => by cases hd; omega)
    ⟨e, w', fr, r, st.comes, x⟩
theorem sorts36 (m : Nat) : AnyZ.SortsIn Try.prog Try.sorted36_ren Fence.wide m :=
  ⟨fun blk off cap ss W hH hblk hsz => callsIn_wide.2 (Try.slices_Sort_string blk off cap ss W hH hblk hsz),
   fun p cap W => callsIn_wide.2 (sort_none p cap W)⟩
theorem maps_keysV (mb : Option Nat) (W : World) : CallsIn Fence.wide 5 Try.prog 37 #[.map mb] W fun e w' => e = .returned (.func (.func 47) #[] #[.pointer (some ⟨W.heap.size, 0, none⟩)]) ∧ w' = W.alloc (.cells #[.map mb] 44) :=
  AnyZ.keys_in Try.keys37 Fence.wide 5 trivial rfl mb W
set_option maxHeartbeats 1000000 in
theorem sorted_keysV {H : Type} (b nn : Nat) (D0 : DataW H) (R : Value → Option (DataW H × List MemPlace)) (w : World) (hown : w.ownsMap Try.prog 9 R b nn D0) (hmax : Maps.size D0 ≤ maxLen) (hbytes : Maps.size D0 * 16 ≤ 140737488355328) :
    CallsIn Fence.wide 5 Try.prog 36 #[.func (.func 47) #[] #[.pointer (some ⟨w.heap.size, 0, none⟩)]] (w.alloc (.cells #[.map (some b)] 44)) fun e w' => ∃ (v : Value) (ss : List (List UInt8)), e = .returned v ∧ ss.Perm (strKeys D0) ∧
      w'.ownsRow (w.alloc (.cells #[.map (some b)] 44)).heap.size 9 1 v ss.length ((ss.mergeSort (fun x y => decide (x ≤ y))).map encStr) ∧ (v = .slice none 0 0 ↔ ss = []) ∧ Below (w.alloc (.cells #[.map (some b)] 44)).heap.size (w.alloc (.cells #[.map (some b)] 44)) w' := by
  have hbl := hown.lt
  have hseq : SeqGives Fence.wide 2 Try.prog 47 #[.pointer (some ⟨w.heap.size, 0, none⟩)] encStr (fun ss => ss.Perm (strKeys D0)) (Maps.size D0) (w.alloc (.cells #[.map (some b)] 44)) :=
    AnyZ.keys_gives (ρ := Try.keys37_ren) { Try.keys37 with } Fence.wide _ trivial rfl (by omega) w.heap.size b nn D0 _ (by simp) (by simp) (by
      obtain ⟨es, clock, hb, Ft, hs, hD⟩ := hown
      exact ⟨es, clock, (Below.heap_alloc _ _ b hbl).trans hb, Ft, hs, hD⟩)
  exact AnyZ.sorted_in Try.sorted36 Fence.wide 5 trivial trivial trivial trivial rfl (by omega) (sorts36 _) (enters_of Try.func46 (by kernel_rfl) rfl) 47 #[.pointer (some ⟨w.heap.size, 0, none⟩)] trivial (enters_of Try.func47 (by kernel_rfl) rfl) _ _ hmax hbytes _ hseq
theorem maps_keysF (mb : Option Nat) (W : World) : CallsIn Fence.wide 5 Try.prog 39 #[.map mb] W fun e w' => e = .returned (.func (.func 48) #[] #[.pointer (some ⟨W.heap.size, 0, none⟩)]) ∧ w' = W.alloc (.cells #[.map mb] 47) :=
  AnyZ.keys_in Try.keys39 Fence.wide 5 trivial rfl mb W
set_option maxHeartbeats 1000000 in
theorem sorted_keysF {H : Type} (b nn : Nat) (D0 : DataW H) (R : Value → Option (DataW H × List MemPlace)) (w : World) (hown : w.ownsMap Try.prog 9 R b nn D0) (hmax : Maps.size D0 ≤ maxLen) (hbytes : Maps.size D0 * 16 ≤ 140737488355328) :
    CallsIn Fence.wide 5 Try.prog 36 #[.func (.func 48) #[] #[.pointer (some ⟨w.heap.size, 0, none⟩)]] (w.alloc (.cells #[.map (some b)] 47)) fun e w' => ∃ (v : Value) (ss : List (List UInt8)), e = .returned v ∧ ss.Perm (strKeys D0) ∧
      w'.ownsRow (w.alloc (.cells #[.map (some b)] 47)).heap.size 9 1 v ss.length ((ss.mergeSort (fun x y => decide (x ≤ y))).map encStr) ∧ (v = .slice none 0 0 ↔ ss = []) ∧ Below (w.alloc (.cells #[.map (some b)] 47)).heap.size (w.alloc (.cells #[.map (some b)] 47)) w' := by
  have hbl := hown.lt
  have hseq : SeqGives Fence.wide 2 Try.prog 48 #[.pointer (some ⟨w.heap.size, 0, none⟩)] encStr (fun ss => ss.Perm (strKeys D0)) (Maps.size D0) (w.alloc (.cells #[.map (some b)] 47)) :=
    AnyZ.keys_gives (ρ := Try.keys39_ren) { Try.keys39 with } Fence.wide _ trivial rfl (by omega) w.heap.size b nn D0 _ (by simp) (by simp) (by
      obtain ⟨es, clock, hb, Ft, hs, hD⟩ := hown
      exact ⟨es, clock, (Below.heap_alloc _ _ b hbl).trans hb, Ft, hs, hD⟩)
  exact AnyZ.sorted_in Try.sorted36 Fence.wide 5 trivial trivial trivial trivial rfl (by omega) (sorts36 _) (enters_of Try.func46 (by kernel_rfl) rfl) 48 #[.pointer (some ⟨w.heap.size, 0, none⟩)] trivial (enters_of Try.func48 (by kernel_rfl) rfl) _ _ hmax hbytes _ hseq
theorem bytes_le : ∀ a b : List UInt8, bytesBefore a b = true → a ≤ b
  | [], _, _ => List.nil_le _
  | _ :: _, [], h => by simp [bytesBefore] at h
  | a :: r, b :: s, h => by
    simp only [bytesBefore, Bool.or_eq_true, Bool.and_eq_true, decide_eq_true_eq, beq_iff_eq] at h
    rcases h with h | ⟨rfl, h⟩
    · exact List.le_of_lt (List.cons_lt_cons_iff.2 (.inl h))
    · exact List.cons_le_cons_iff.2 (.inr ⟨rfl, bytes_le r s h⟩)
theorem sorted_names {α : Type} {W : World} {b n : Nat} {F : List (Txt × Value × α)} (h : W.ownsMap Try.prog 9 hE b n (dM F)) (ss : List (List UInt8)) (hs : ss.Perm (strKeys (dM F))) : ss.mergeSort (fun x y => decide (x ≤ y)) = F.map Prod.fst := by
  rw [dM_keys] at hs
  have hF := map_rising h
  refine (mergeSort_of_perm hs).trans (List.mergeSort_of_pairwise ?_)
  rw [List.pairwise_map]
  exact hF.imp fun {a b} hab => decide_eq_true (bytes_le _ _ hab)
theorem enc_tx (l : List Txt) : l.map encStr = txV l := rfl
variable {W : World} {K : Nat → Prop} {sb vb fb : Nat} {V : Vrs} {G : Fns}
set_option maxHeartbeats 1000000 in
theorem funs_any (h : Sto W K sb vb fb V G) (hG : G.length < 4294967296) :
    Calls Try.prog 15 #[fP sb] W fun e w' => ∃ v', e = .returned v' ∧ w'.ownsRow W.heap.size 9 1 v' (G.map Prod.fst).length (txV (G.map Prod.fst)) ∧ Below W.heap.size W w' := by
  have c1 : W.cell? ⟨sb, 1, none⟩ = some (.map (some fb)) := h.sc.cell 1
  have HM : Hid (W.ownsMap Try.prog 9 hE fb G.length (dM G)) := h.fm
  have HZ : Hid (Maps.size (dM G) ≤ maxLen ∧ Maps.size (dM G) * 16 ≤ 140737488355328) := by
    unfold Hid
    rw [dM_size]
    have := maxLen_big
    omega
  clear h
  refine (callsIn_wide (n := 6)).1 ?_
  have hfK : Fence.wide.fn 39 := trivial
  have hfS : Fence.wide.fn 36 := trivial
  refine callsIn_of_wp Try.func15 rfl trivial ?_ rfl
  simp only [Try.ntmps15, List.size_toArray, List.length_cons, List.length_nil, Nat.reduceAdd, Nat.reduceSub, Array.replicate_succ, Array.replicate_zero, List.push_toArray, List.append_toArray, List.nil_append, List.cons_append]
  gi_wp2_with (first
    | (gi_at_call 39; refine (maps_keysF _ _).mono ?_; rintro e w1 ⟨rfl, rfl⟩)
    | (gi_at_call 36; refine (sorted_keysF fb G.length (dM G) hE W HM.out HZ.out.1 HZ.out.2).mono ?_; rintro e w2 ⟨v, ss, rfl, hS, hrow, hnil, hb⟩))
  go_ret
  have hn := sorted_names HM.out ss hS
  have hl : ss.length = (G.map Prod.fst).length := by rw [← hn, List.length_mergeSort]
  rw [hn, enc_tx, hl] at hrow
  exact ⟨v, rfl, owns_lower hrow (by simp), (below_new _ _).trans (hb.mono (by simp))⟩
theorem cont_names {α : Type} (F : List (Txt × Value × α)) : (cont F).map Prod.fst = F.map Prod.fst := by
  unfold cont
  rw [List.map_map]
  rfl
theorem funsS {B : Nat} {F : Vps} {H : Fps} (h : SW W B sb vb fb F H) (hH : H.length < 4294967296) :
    Calls Try.prog 15 #[fP sb] W fun e w' => ∃ v', e = .returned v' ∧ w'.ownsRow W.heap.size 9 1 v' (H.map Prod.fst).length (txV (H.map Prod.fst)) ∧ Below W.heap.size W w' := by
  obtain ⟨K, V, G, h1, rfl, rfl, h4⟩ := h
  rw [cont_length] at hH
  rw [cont_names]
  exact funs_any h1 hH
end Go.Proofs.Ytikogljojnapaaa

/- A program that may be is a tree: plain lists. -/
import Derived.Test.YtfakelaibijgkaaDoorDepPlain
namespace Go.Proofs.YtfakelaibijgkaaDoor
open Go.RowKit

/-- A tree of nodes, so deep at most. -/
inductive Seg : Nat → List Nd → Prop
  | mk (d : Nat) (kind n : Int) (s : Txt) (Ys : List (List Nd)) (h : ∀ Y ∈ Ys, Seg d Y) : Seg (d + 1) (newN kind n s Ys)
theorem Seg.head {d : Nat} {Y : List Nd} (h : Seg d Y) : ∃ y : Nd, Y[0]? = some y ∧ y.size = (Y.length : Int) ∧ 1 ≤ Y.length := by
  cases h with
  | mk d kind n s Ys h => exact ⟨_, rfl, by simp [newN], by simp [newN]⟩

theorem askG_low (l : List Nd) (x : Nd) (dep : Int) (fin : Nat) : ∀ (f k at_ : Nat) (A : List Ak), (askG l x dep fin f k at_ A).2.length = A.length ∧ ∀ j, j < at_ → (askG l x dep fin f k at_ A).2[j]? = A[j]?
  | 0, _, _, _ => ⟨rfl, fun _ _ => rfl⟩
  | f + 1, k, at_, A => by
    unfold askG
    split
    · split
      · exact ⟨rfl, fun _ _ => rfl⟩
      · split
        · exact ⟨rfl, fun _ _ => rfl⟩
        · rename_i y hy
          split
          · exact ⟨by rw [List.length_set], fun j hj => List.getElem?_set_ne (by omega)⟩
          · have ih := askG_low l x dep fin f (k + 1) (at_ + (min y.size ((fin - at_ : Nat) : Int)).toNat) (A.set at_ ⟨fin, dep + 1, decide ((k : Int) = x.k - 1), wordAtB x.kind x.k k⟩)
            refine ⟨ih.1.trans (by rw [List.length_set]), fun j hj => (ih.2 j (by omega)).trans (List.getElem?_set_ne (by omega))⟩
    · exact ⟨rfl, fun _ _ => rfl⟩
theorem askG_high (l : List Nd) (x : Nd) (dep : Int) (fin : Nat) : ∀ (f k at_ : Nat) (A : List Ak) (j : Nat), fin ≤ j → (askG l x dep fin f k at_ A).2[j]? = A[j]?
  | 0, _, _, _, _, _ => rfl
  | f + 1, k, at_, A, j, hj => by
    unfold askG
    split
    · split
      · rfl
      · split
        · rfl
        · split
          · exact List.getElem?_set_ne (by omega)
          · exact (askG_high l x dep fin f _ _ _ j hj).trans (List.getElem?_set_ne (by omega))
    · rfl
theorem cnt_nonneg (kind k : Int) (h : cntB kind k = true) : 0 ≤ k := by
  unfold cntB at h
  repeat' split at h
  all_goals
    simp only [Bool.and_eq_true, decide_eq_true_eq] at h
    omega
theorem goC_parts (l : List Nd) (f i : Nat) (A : List Ak) (x : Nd) (a : Ak) (hx : l[i]? = some x) (ha : A[i]? = some a) (h : goC l (f + 1) i A = .fine) :
    mayB x a i = true ∧ (askG l x a.dep (i + x.size.toNat) (i + x.size.toNat + 1) 0 (i + 1) A).1 = true ∧ a.dep ≤ 30 ∧ goC l f (i + 1) (askG l x a.dep (i + x.size.toNat) (i + x.size.toNat + 1) 0 (i + 1) A).2 = .fine := by
  rw [goC, hx, ha] at h
  simp only at h
  split at h
  · rename_i h1
    split at h
    · rename_i h2
      split at h
      · cases h
      · exact ⟨h1, h2, by omega, h⟩
    · cases h
  · cases h
theorem seg_may (x : Nd) (a : Ak) (i : Nat) (h : mayB x a i = true) (hl : a.last = true → (i : Int) < a.fin) : 1 ≤ x.size ∧ (i : Int) + x.size ≤ a.fin ∧ (a.last = true → (i : Int) + x.size = a.fin) ∧ 0 ≤ x.k ∧ (x.k = 0 → x.size = 1) := by
  unfold mayB at h
  simp only [Bool.and_eq_true] at h
  obtain ⟨⟨_, h4⟩, h5⟩ := h
  have hk := cnt_nonneg _ _ h4
  unfold sizB at h5
  split at h5
  · cases h5
  · rename_i hz
    split at h5
    · rename_i hla
      have := hl hla
      have h6 := of_decide_eq_true h5
      refine ⟨by omega, by omega, fun _ => by omega, hk, fun e => ?_⟩
      exact Decidable.byContradiction fun hne => hz ⟨e, hne⟩
    · rename_i hla
      simp only [Bool.and_eq_true, decide_eq_true_eq] at h5
      refine ⟨h5.1, by omega, fun e => absurd e hla, hk, fun e => ?_⟩
      exact Decidable.byContradiction fun hne => hz ⟨e, hne⟩

/-- What a node of so many nodes at most leaves behind. -/
def NodeOk (l : List Nd) (n : Nat) : Prop := ∀ (i f : Nat) (A : List Ak) (x : Nd) (a : Ak), l[i]? = some x → A[i]? = some a → A.length = l.length → i + f = l.length → a.fin ≤ l.length → (a.last = true → (i : Int) < a.fin) → goC l f i A = .fine → x.size ≤ n →
  ∃ (m : Nat) (A' : List Ak), x.size = m ∧ 1 ≤ m ∧ (i : Int) + m ≤ a.fin ∧ (a.last = true → (i : Int) + m = a.fin) ∧ goC l (f - m) (i + m) A' = .fine ∧ A'.length = l.length ∧ (∀ j, i + m ≤ j → A'[j]? = A[j]?) ∧ a.dep ≤ 30 ∧ Seg (31 - a.dep).toNat ((l.drop i).take m)
theorem kids_ok (l : List Nd) (n : Nat) (hn : NodeOk l n) (x : Nd) (dep : Int) (hd : dep ≤ 30) (fin : Nat) (hfl : fin ≤ l.length) : ∀ (r k at_ fuel : Nat) (A0 : List Ak), ((k + r : Nat) : Int) = x.k → (askG l x dep fin fuel k at_ A0).1 = true → fin < fuel + at_ → at_ ≤ fin → fin ≤ at_ + n → A0.length = l.length →
    ∀ (f : Nat) (A : List Ak), at_ + f = l.length → A.length = l.length → (∀ j, at_ ≤ j → A[j]? = (askG l x dep fin fuel k at_ A0).2[j]?) → goC l f at_ A = .fine →
    ∃ (Ys : List (List Nd)) (e : Nat) (A' : List Ak), Ys.length = r ∧ e = (if r = 0 then at_ else fin) ∧ at_ ≤ e ∧ e ≤ fin ∧ Ys.flatten = (l.drop at_).take (e - at_) ∧ (∀ Y ∈ Ys, Seg (30 - dep).toNat Y) ∧ goC l (l.length - e) e A' = .fine ∧ A'.length = l.length ∧ (∀ j, e ≤ j → A'[j]? = A[j]?)
  | 0, k, at_, fuel, A0, _, _, _, haf, _, _, f, A, hf, hA, _, hg => ⟨[], at_, A, rfl, by rw [if_pos rfl], Nat.le_refl _, haf, by simp, fun Y h => by simp at h, by rw [show l.length - at_ = f by omega]; exact hg, hA, fun _ _ => rfl⟩
  | r + 1, k, at_, 0, A0, _, _, h, haf, _, _, f, A, _, _, _, _ => by omega
  | r + 1, k, at_, fuel + 1, A0, hk, hask, hfu, haf, hfn, hA0, f, A, hf, hA, hrow, hg => by
    rw [askG, if_pos (by omega)] at hask
    by_cases hge : fin ≤ at_
    · rw [if_pos hge] at hask; cases hask
    · rw [if_neg hge] at hask
      have hat : at_ < l.length := by omega
      obtain ⟨y, hy⟩ : ∃ y, l[at_]? = some y := ⟨_, List.getElem?_eq_getElem hat⟩
      rw [hy] at hask
      simp only at hask
      obtain ⟨row, hrw⟩ : ∃ row : Ak, row = ⟨fin, dep + 1, decide ((k : Int) = x.k - 1), wordAtB x.kind x.k k⟩ := ⟨_, rfl⟩
      rw [← hrw] at hask
      have hE : askG l x dep fin (fuel + 1) k at_ A0 = if y.size < 1 then (true, A0.set at_ row) else askG l x dep fin fuel (k + 1) (at_ + (min y.size ((fin - at_ : Nat) : Int)).toNat) (A0.set at_ row) := by
        rw [askG, if_pos (by omega), if_neg hge, hy, hrw]
      rw [hE] at hrow
      have hAt : A[at_]? = some row := by
        rw [hrow at_ (Nat.le_refl _)]
        split
        · exact List.getElem?_set_self (by omega)
        · rw [(askG_low l x dep fin fuel _ _ _).2 at_ (by omega)]
          exact List.getElem?_set_self (by omega)
      have hrf : row.fin = (fin : Int) := by rw [hrw]
      have hrd : row.dep = dep + 1 := by rw [hrw]
      have hrl : row.last = decide ((k : Int) = x.k - 1) := by rw [hrw]
      obtain ⟨f', rfl⟩ : ∃ f', f = f' + 1 := ⟨f - 1, by omega⟩
      have hm := (goC_parts l f' at_ A y row hy hAt hg).1
      have hs := seg_may y row at_ hm (fun _ => by rw [hrf]; omega)
      rw [hrf] at hs
      obtain ⟨m, A1, e1, e2, e3, e4, e5, e6, e7, e8, e9⟩ := hn at_ (f' + 1) A y row hy hAt hA hf (by rw [hrf]; omega) (fun _ => by rw [hrf]; omega) hg (by omega)
      rw [hrf] at e3 e4
      rw [hrl] at e4
      have hlt : ¬ y.size < 1 := by omega
      rw [if_neg hlt] at hrow hask
      have hmin : (min y.size ((fin - at_ : Nat) : Int)).toNat = m := by omega
      rw [hmin] at hrow hask
      obtain ⟨Ys, e, A', g1, g2, g3, g4, g5, g6, g7, g8, g9⟩ := kids_ok l n hn x dep hd fin hfl r (k + 1) (at_ + m) fuel (A0.set at_ row) (by omega) hask (by omega) (by omega) (by omega) (by rw [List.length_set]; exact hA0) (f' + 1 - m) A1 (by omega) e6 (fun j hj => by rw [e7 j hj, hrow j (by omega)]) e5
      have hee : e = fin := by
        by_cases hr : r = 0
        · subst hr
          rw [if_pos rfl] at g2
          have := e4 (decide_eq_true (by omega))
          omega
        · rw [if_neg hr] at g2
          exact g2
      subst hee
      refine ⟨(l.drop at_).take m :: Ys, e, A', by simp [g1], by simp, by omega, Nat.le_refl _, ?_, ?_, g7, g8, fun j hj => by rw [g9 j hj, e7 j (by omega)]⟩
      · rw [List.flatten_cons, g5, show e - at_ = m + (e - (at_ + m)) by omega, List.take_add, List.drop_drop]
      · intro Y hY
        rcases List.mem_cons.1 hY with rfl | hY
        · rw [hrd, show (31 : Int) - (dep + 1) = 30 - dep by omega] at e9
          exact e9
        · exact g6 Y hY
theorem node_ok (l : List Nd) : ∀ n, NodeOk l n
  | 0 => by
    intro i f A x a hx ha hA hf hfin hla hg hn
    have hil := (List.getElem?_eq_some_iff.1 hx).1
    obtain ⟨f', rfl⟩ : ∃ f', f = f' + 1 := ⟨f - 1, by omega⟩
    have := seg_may x a i (goC_parts l f' i A x a hx ha hg).1 hla
    omega
  | n + 1 => by
    intro i f A x a hx ha hA hf hfin hla hg hn
    have hil := (List.getElem?_eq_some_iff.1 hx).1
    obtain ⟨f', rfl⟩ : ∃ f', f = f' + 1 := ⟨f - 1, by omega⟩
    obtain ⟨p1, p2, p3, p4⟩ := goC_parts l f' i A x a hx ha hg
    obtain ⟨s1, s2, s3, s4, s5⟩ := seg_may x a i p1 hla
    obtain ⟨m, hm⟩ : ∃ m : Nat, x.size = m := ⟨x.size.toNat, by omega⟩
    obtain ⟨K, hK⟩ : ∃ K : Nat, x.k = K := ⟨x.k.toNat, by omega⟩
    have hmt : x.size.toNat = m := by omega
    rw [hmt] at p2 p4
    obtain ⟨hal, haw⟩ := askG_low l x a.dep (i + m) (i + m + 1) 0 (i + 1) A
    obtain ⟨Ys, e, A', g1, g2, g3, g4, g5, g6, g7, g8, g9⟩ := kids_ok l n (node_ok l n) x a.dep p3 (i + m) (by omega) K 0 (i + 1) (i + m + 1) A (by rw [hK]; simp) p2 (by omega) (by omega) (by omega) hA f' _ (by omega) (hal.trans hA) (fun _ _ => rfl) p4
    have hee : e = i + m := by
      by_cases hr : K = 0
      · rw [if_pos hr] at g2
        have := s5 (by omega)
        omega
      · rw [if_neg hr] at g2
        exact g2
    subst hee
    have hrest : ∀ j, i + m ≤ j → (askG l x a.dep (i + m) (i + m + 1) 0 (i + 1) A).2[j]? = A[j]? := by
      intro j hj
      exact askG_high l x a.dep (i + m) (i + m + 1) 0 (i + 1) A j hj
    refine ⟨m, A', hm, by omega, by omega, fun h => by have := s3 h; omega, by rw [show f' + 1 - m = l.length - (i + m) by omega]; exact g7, g8, fun j hj => (g9 j hj).trans (hrest j hj), p3, ?_⟩
    have hseg : (l.drop i).take m = newN x.kind x.n x.s Ys := by
      obtain ⟨kd, nn, kk, sz, ss⟩ := x
      simp only at hm hK ⊢
      have hd : l.drop i = ⟨kd, nn, kk, sz, ss⟩ :: l.drop (i + 1) := by
        rw [List.drop_eq_getElem_cons hil]
        congr 1
        rw [List.getElem?_eq_getElem hil] at hx
        exact Option.some.inj hx
      rw [hd, show m = (m - 1) + 1 by omega, List.take_succ_cons, newN, g5, g1]
      have hlen : ((l.drop (i + 1)).take (i + m - (i + 1))).length = m - 1 := by rw [List.length_take, List.length_drop]; omega
      rw [hlen, show i + m - (i + 1) = m - 1 by omega, hK, hm]
      congr 2
      omega
    rw [hseg, show (31 - a.dep).toNat = (30 - a.dep).toNat + 1 by omega]
    exact Seg.mk _ _ _ _ Ys g6
/-- A program that may be is a tree of thirty storeys at most. -/
theorem seg_of_fine (l : List Nd) (h : checkL l = .fine) : Seg 30 l ∧ 1 ≤ l.length ∧ l.length ≤ 3000 := by
  unfold checkL at h
  split at h
  · cases h
  · rename_i hl
    have h1 : 0 < l.length := by omega
    obtain ⟨m, A', e1, e2, e3, e4, e5, e6, e7, e8, e9⟩ := node_ok l (l[0]'h1).size.toNat 0 l.length (aks l.length) (l[0]'h1) ⟨l.length, 1, true, false⟩ (List.getElem?_eq_getElem h1) (aks_zero _) (aks_len _ h1) (by omega) (Int.le_refl _) (fun _ => by show ((0 : Nat) : Int) < l.length; omega) h (by omega)
    have hm := e4 rfl
    simp only at hm
    have : m = l.length := by omega
    subst this
    rw [List.drop_zero, List.take_length] at e9
    exact ⟨e9, by omega, by omega⟩
end Go.Proofs.YtfakelaibijgkaaDoor

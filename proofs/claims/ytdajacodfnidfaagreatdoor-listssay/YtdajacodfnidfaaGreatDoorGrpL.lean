/- The statement on groups, walked. -/
import Derived.Test.YtdajacodfnidfaaGreatDoorFirst3
import Derived.Test.YtdajacodfnidfaaGreatDoorListPlain
/-! light. -/
namespace Go.Proofs.YtdajacodfnidfaaGreatDoor
open Go.RowKit Go.Shelf

def sumL (l : List (List UInt8)) : Nat := (l.map List.length).sum
def sumLs (ls : List (List (List UInt8))) : Nat := (ls.map sumL).sum
/-- Few lists, of few bytes? -/
def lightB (ls : List (List (List UInt8))) : Bool := ls.all (fun l => decide (l.length ≤ 130)) && decide (sumLs ls ≤ 20000)
theorem sumL_nil : sumL [] = 0 := rfl
theorem sumL_take (l : List (List UInt8)) (j : Nat) (s : List UInt8) (h : l[j]? = some s) : sumL (l.take (j + 1)) = sumL (l.take j) + s.length := by
  unfold sumL
  rw [List.take_add_one, h]
  simp
theorem sumLs_take (ls : List (List (List UInt8))) (j : Nat) (l : List (List UInt8)) (h : ls[j]? = some l) : sumLs (ls.take (j + 1)) = sumLs (ls.take j) + sumL l := by
  unfold sumLs
  rw [List.take_add_one, h]
  simp
theorem sumL_le (l : List (List UInt8)) (M : Nat) (h : ∀ s ∈ l, s.length ≤ M) : sumL l ≤ l.length * M := by
  induction l with
  | nil => simp [sumL]
  | cons s l ih =>
    have h1 := ih (fun t ht => h t (List.mem_cons_of_mem _ ht))
    have h2 := h s (by simp)
    unfold sumL at *
    simp only [List.map_cons, List.sum_cons, List.length_cons, Nat.add_mul, Nat.one_mul]
    omega
theorem sumL_mem (l : List (List UInt8)) (s : List UInt8) (h : s ∈ l) : s.length ≤ sumL l := by
  induction l with
  | nil => simp at h
  | cons t l ih =>
    unfold sumL at *
    simp only [List.map_cons, List.sum_cons]
    rcases List.mem_cons.1 h with rfl | h
    · omega
    · have := ih h
      omega
theorem sumLs_mem (ls : List (List (List UInt8))) (l : List (List UInt8)) (h : l ∈ ls) : sumL l ≤ sumLs ls := by
  induction ls with
  | nil => simp at h
  | cons t ls ih =>
    unfold sumLs at *
    simp only [List.map_cons, List.sum_cons]
    rcases List.mem_cons.1 h with rfl | h
    · omega
    · have := ih h
      omega
theorem lightB_iff (ls : List (List (List UInt8))) : lightB ls = true ↔ (∀ l ∈ ls, l.length ≤ 130) ∧ sumLs ls ≤ 20000 := by
  simp [lightB]

set_option maxRecDepth 100000 in
set_option maxHeartbeats 4000000 in
theorem light_any (v : Value) (ls : List (List (List UInt8))) (w : World) (h : Tss w v ls) (hls : ls.length ≤ 8) (hz : ∀ l ∈ ls, l.length < 140737488355328) (hzz : ∀ l ∈ ls, ∀ s ∈ l, s.length ≤ 140737488355328) :
    Calls Tryz.prog 5 #[v] w fun e w' => e = .returned (.bool (lightB ls)) ∧ w' = w := by
  have HZ : Hid (∀ l ∈ ls, l.length < 140737488355328) := hz
  have HZZ : Hid (∀ l ∈ ls, ∀ s ∈ l, s.length ≤ 140737488355328) := hzz
  obtain ⟨g, o, ad, cap, rfl, hcap, hne, hce⟩ := h
  have HN : Hid (ls ≠ [] → ad = some ⟨g, o, none⟩ ∧ g < w.heap.size) := hne
  have HC : Hid (∀ k l, ls[k]? = some l → ∃ vl, w.cell? ⟨g, o + k, none⟩ = some vl ∧ Tx w vl l) := hce
  clear hne hce hz hzz
  go_enter Tryz.func5, Tryz.ntmps5
  go_wp2_with fail
  go_loopw [3, 4] (fun v3 v4 wr => ∃ k m : Nat, v4 = .int .i64 k ∧ k ≤ ls.length ∧ v3 = .int .i64 m ∧ Hid (m = sumLs (ls.take k)) ∧ m ≤ k * 18295873486192640 ∧ Hid (∀ l ∈ ls.take k, l.length ≤ 130) ∧ wr = w) (fun _ v4 _ => ls.length - (intOf v4).toNat)
  case atStart => exact ⟨0, 0, rfl, by omega, rfl, rfl, by omega, fun l hl => by simp at hl, rfl⟩
  case round =>
    obtain ⟨k, m, rfl, hk, rfl, HM, hm, HA, hwr⟩ := hrel
    subst hwr
    by_cases hkl : k < ls.length
    · obtain ⟨l, hl⟩ : ∃ l, ls[k]? = some l := ⟨_, List.getElem?_eq_getElem hkl⟩
      obtain ⟨rfl, hg⟩ := HN.out (fun e => by rw [e] at hkl; simp at hkl)
      obtain ⟨vl, c0, htx⟩ := HC.out k l hl
      have hlm := List.mem_of_getElem? hl
      have HLZ : Hid (∀ s ∈ l, s.length ≤ 140737488355328) := HZZ.out l hlm
      have hll := HZ.out l hlm
      have HTX : Hid (Tx wr vl l) := htx
      have HS : Hid (sumLs (ls.take (k + 1)) = sumLs (ls.take k) + sumL l) := sumLs_take ls k l hl
      have HTA : Hid (ls.take (k + 1) = ls.take k ++ [l]) := by unfold Hid; rw [List.take_add_one, hl]; rfl
      have HLM : Hid (l ∈ ls) := hlm
      obtain ⟨adl, capl, rfl⟩ := htx.form
      clear htx hl hlm
      by_cases h130 : l.length > 130
      · go_wp2_with fail
        go_ret
        refine ⟨ret_bool ?_, rfl⟩
        cases e : lightB ls
        · rfl
        · have := ((lightB_iff ls).1 e).1 l HLM.out
          omega
      · go_wp2_with fail
        go_loopw [3, 5] (fun v3 v5 w2 => ∃ j m2 : Nat, v5 = .int .i64 j ∧ j ≤ l.length ∧ v3 = .int .i64 m2 ∧ Hid (m2 = m + sumL (l.take j)) ∧ m2 ≤ m + j * 140737488355328 ∧ w2 = wr) (fun _ v5 _ => l.length - (intOf v5).toNat)
        case atStart => exact ⟨0, m, rfl, by omega, rfl, rfl, by omega, rfl⟩
        case round =>
          obtain ⟨j, m2, rfl, hj, rfl, HM2, hm2, hw2⟩ := hrel
          obtain rfl := hw2.symm
          by_cases hjl : j < l.length
          · obtain ⟨s, hs⟩ : ∃ s, l[j]? = some s := ⟨_, List.getElem?_eq_getElem hjl⟩
            obtain ⟨gl, ol, cap', hv, hcc, hgl, hce⟩ := HTX.out.inRow (fun e => by rw [e] at hjl; simp at hjl)
            cases hv
            have c1 := hce j s hs
            have hsz : (⟨s.toArray⟩ : ByteArray).size ≤ 140737488355328 := by rw [str_size']; exact HLZ.out s (List.mem_of_getElem? hs)
            have HSZ : Hid ((⟨s.toArray⟩ : ByteArray).size = s.length) := str_size' s
            have hsl : s.length ≤ 140737488355328 := HLZ.out s (List.mem_of_getElem? hs)
            have HSS : Hid _ := sumL_take l j s hs
            have hm2b : m2 ≤ 1000000000000000000 := by omega
            clear hce hs
            go_wp2_with fail
            refine ⟨⟨j + 1, m2 + s.length, by simp, by omega, ?_, ?_, ?_, trivial⟩, by simp [intOf]; omega⟩
            · simp
            · have h1 := HSS.out
              have h2 := HM2.out
              show m2 + s.length = m + sumL (l.take (j + 1))
              omega
            · have := HSZ.out
              omega
          · have hjz : j = l.length := by omega
            subst hjz
            go_wp2_with fail
            go_roundw
            case rel =>
              refine ⟨k + 1, m2, by simp, by omega, rfl, ?_, by omega, ?_, trivial⟩
              · have h1 := HS.out
                have h2 := HM2.out
                have h3 := HM.out
                rw [List.take_length] at h2
                show m2 = sumLs (ls.take (k + 1))
                omega
              · intro q hq
                rw [HTA.out] at hq
                rcases List.mem_append.1 hq with hq | hq
                · exact HA.out q hq
                · simp at hq
                  subst hq
                  omega
            case measure => simp [intOf]; omega
    · have hkz : k = ls.length := by omega
      subst hkz
      have hA := HA.out
      have hM := HM.out
      rw [List.take_length] at hA hM
      have HR : Hid (lightB ls = decide (m ≤ 20000)) := by
        unfold Hid
        rw [Bool.eq_iff_iff, lightB_iff, decide_eq_true_eq, hM]
        exact ⟨fun h => h.2, fun h => ⟨hA, h⟩⟩
      clear hA hM
      go_wp2_with fail
      go_ret
      exact ⟨ret_bool (by rw [HR.out]; exact decide_eq_decide.2 (by omega)), rfl⟩
end Go.Proofs.YtdajacodfnidfaaGreatDoor
/-! Lists may be grouped: plain facts. -/
namespace Go.Proofs.YtdajacodfnidfaaGreatDoor

theorem joined_one (a b : Nat) (ha : 1 ≤ a) (hb : 1 ≤ b) (h : joinedN a b = 1) : a = 1 ∧ b = 1 := by
  unfold joinedN at h
  split at h <;> omega
theorem joined_assoc (a b c : Nat) (ha : 1 ≤ a) (hb : 1 ≤ b) (hc : 1 ≤ c) : joinedN (joinedN a b) c = joinedN a (joinedN b c) := by
  unfold joinedN
  repeat' split
  all_goals omega
theorem joined_ge (a b : Nat) (ha : 1 ≤ a) (hb : 1 ≤ b) : 1 ≤ joinedN a b := by
  unfold joinedN
  split <;> omega
theorem atB_jt (A B : List (List UInt8)) (i : Nat) (ha : 1 ≤ A.length) (hb : 1 ≤ B.length) (h : joinedN A.length B.length = 1 ∨ i < joinedN A.length B.length) : atB (jtB A B) i = atB A i ++ atB B i := by
  by_cases h1 : joinedN A.length B.length = 1
  · obtain ⟨e1, e2⟩ := joined_one _ _ ha hb h1
    have e3 : (jtB A B).length = 1 := by rw [jt_length, h1]
    have e4 : ∀ (l : List (List UInt8)) (j : Nat), l.length = 1 → atB l j = atB l 0 := fun l j hl => by unfold atB; rw [if_pos hl, if_pos hl]
    rw [e4 _ i e3, e4 _ i e1, e4 _ i e2]
    have e5 : atB (jtB A B) 0 = (jtB A B).getD 0 [] := by unfold atB; rw [if_pos e3]
    rw [e5, List.getD_eq_getElem?_getD]
    unfold jtB
    rw [List.getElem?_map, List.getElem?_range (by omega)]
    rfl
  · have hi : i < joinedN A.length B.length := by omega
    have e3 : ¬ (jtB A B).length = 1 := by rw [jt_length]; exact h1
    have e5 : atB (jtB A B) i = (jtB A B).getD i [] := by unfold atB; rw [if_neg e3]
    rw [e5, List.getD_eq_getElem?_getD]
    unfold jtB
    rw [List.getElem?_map, List.getElem?_range hi]
    rfl
theorem jt_assoc (A B C : List (List UInt8)) (ha : 1 ≤ A.length) (hb : 1 ≤ B.length) (hc : 1 ≤ C.length) : jtB (jtB A B) C = jtB A (jtB B C) := by
  have e : jtB (jtB A B) C = (List.range (joinedN (joinedN A.length B.length) C.length)).map fun i => atB (jtB A B) i ++ atB C i := by
    rw [← jt_length A B]
    rfl
  have e' : jtB A (jtB B C) = (List.range (joinedN A.length (joinedN B.length C.length))).map fun i => atB A i ++ atB (jtB B C) i := by
    rw [← jt_length B C]
    rfl
  rw [e, e', joined_assoc _ _ _ ha hb hc]
  apply List.map_congr_left
  intro i hi
  rw [List.mem_range] at hi
  have h1 : i < joinedN (joinedN A.length B.length) C.length := by rw [joined_assoc _ _ _ ha hb hc]; exact hi
  rw [atB_jt A B i ha hb (joined_at _ _ i h1 (joined_ge _ _ ha hb)), atB_jt B C i hb hc (joined_at' _ _ i hi (joined_ge _ _ hb hc)), List.append_assoc]
theorem oneB_of (l : List (List UInt8)) (h : 1 ≤ l.length) : oneB l = l := by
  unfold oneB
  rw [if_neg (by omega)]
theorem joinB_two (A B r : List (List UInt8)) (h : joinB [A, B] = some r) : r = jtB (oneB A) (oneB B) ∧ fitsB r = true ∧ 1 ≤ r.length := by
  have h' : (if fitsB (jtB (oneB A) (oneB B)) then (if fitsB (jtB (oneB A) (oneB B)) then some (jtB (oneB A) (oneB B)) else none) else none) = some r := h
  cases hf : fitsB (jtB (oneB A) (oneB B))
  · rw [hf] at h'
    simp at h'
  · rw [hf] at h'
    simp at h'
    subst h'
    refine ⟨rfl, hf, ?_⟩
    rw [jt_length]
    exact joined_ge _ _ (oneB_pos A) (oneB_pos B)
/-- Joined in whatever groups, where nothing is too big. -/
theorem join_groups (A B C P Q X Y : List (List UInt8)) (h1 : joinB [A, B] = some P) (h2 : joinB [B, C] = some Q) (h3 : joinB [P, C] = some X) (h4 : joinB [A, Q] = some Y) : X = Y ∧ joinB [A, B, C] = some X := by
  obtain ⟨p1, p2, p3⟩ := joinB_two A B P h1
  obtain ⟨q1, q2, q3⟩ := joinB_two B C Q h2
  obtain ⟨x1, x2, x3⟩ := joinB_two P C X h3
  obtain ⟨y1, y2, y3⟩ := joinB_two A Q Y h4
  rw [oneB_of P p3] at x1
  rw [oneB_of Q q3] at y1
  refine ⟨?_, ?_⟩
  · rw [x1, y1, p1, q1]
    exact jt_assoc _ _ _ (oneB_pos A) (oneB_pos B) (oneB_pos C)
  · show (if fitsB (jtB (oneB A) (oneB B)) then (if fitsB (jtB (jtB (oneB A) (oneB B)) (oneB C)) then (if fitsB (jtB (jtB (oneB A) (oneB B)) (oneB C)) then some (jtB (jtB (oneB A) (oneB B)) (oneB C)) else none) else none) else none) = some X
    rw [← p1, p2, ← x1, x2]
    rfl
theorem fits_three (A B C : List (List UInt8)) (h1 : fitsB (A ++ B) = true) (h2 : fitsB (B ++ C) = true) (h3 : fitsB (A ++ B ++ C) = false) : 100 < A.length + B.length + C.length := by
  rcases Nat.lt_or_ge 100 (A.length + B.length + C.length) with h | h
  · exact h
  · exfalso
    have : fitsB (A ++ B ++ C) = true := by
      rw [fitsB_iff] at *
      refine ⟨by simp; omega, fun s hs => ?_⟩
      rcases List.mem_append.1 hs with hs | hs
      · exact h1.2 s hs
      · exact h2.2 s (List.mem_append_right _ hs)
    rw [this] at h3
    cases h3
end Go.Proofs.YtdajacodfnidfaaGreatDoor
namespace Go.Proofs.YtdajacodfnidfaaGreatDoor
open Go.RowKit Go.Shelf

/-- The error of a list that may be too big. -/
def resV (a : Addr) : Option (List (List UInt8)) → Value
  | some _ => .nilIface
  | none => bigV a
/-- The list, or none. -/
def resL : Option (List (List UInt8)) → List (List UInt8)
  | some l => l
  | none => []
theorem GotL.both {B : Nat} {a : Addr} {r : Option (List (List UInt8))} {e : Ending} {w : World} (h : GotL B a r e w) : ∃ ad cap, e = .returned (.tuple #[.slice ad (resL r).length cap, resV a r]) ∧ Tx w (.slice ad (resL r).length cap) (resL r) := by
  cases r with
  | none => exact ⟨none, 0, h, .inl ⟨rfl, rfl⟩⟩
  | some l =>
    obtain ⟨v, h1, h2⟩ := h
    have h3 := Tx.owned h2
    obtain ⟨ad, cap, rfl⟩ := h3.form
    exact ⟨ad, cap, h1, h3⟩
theorem Tss.three (W : World) (v0 v1 v2 : Value) (l0 l1 l2 : List (List UInt8)) (h0 : Tx W v0 l0) (h1 : Tx W v1 l1) (h2 : Tx W v2 l2) : Tss (W.alloc (.cells #[v0, v1, v2] 23)) (.slice (some ⟨W.heap.size, 0, none⟩) 3 3) [l0, l1, l2] :=
  Tss.new W [v0, v1, v2] [l0, l1, l2] rfl fun k v l hv hl => by
    match k, hv, hl with
    | 0, hv, hl => cases hv; cases hl; exact h0
    | 1, hv, hl => cases hv; cases hl; exact h1
    | 2, hv, hl => cases hv; cases hl; exact h2
/-- Lists of a size that may be handled. -/
def Ok (l : List (List UInt8)) : Prop := l.length < 4294967296 ∧ ∀ s ∈ l, s.length < 4294967296
theorem Ok.nil : Ok [] := ⟨by simp, fun s hs => by simp at hs⟩
theorem Ok.fits {l : List (List UInt8)} (h : fitsB l = true) : Ok l := ⟨by have := fits_length l h; omega, fun s hs => by have := fits_mem l h s hs; omega⟩
theorem ok_bound (l : List (List UInt8)) : Ok (resL (bound l)) := by
  unfold bound
  split
  · next h => exact Ok.fits h
  · exact Ok.nil
theorem ok_join (A B : List (List UInt8)) : Ok (resL (joinB [A, B])) := by
  cases h : joinB [A, B] with
  | none => exact Ok.nil
  | some r => exact Ok.fits (joinB_two A B r h).2.1
theorem ok_two {P Q : List (List UInt8)} (hp : Ok P) (hq : Ok Q) : (∀ l ∈ [P, Q], l.length < 4294967296) ∧ ∀ l ∈ [P, Q], ∀ s ∈ l, s.length < 4294967296 := by
  refine ⟨fun l hl => ?_, fun l hl => ?_⟩
  all_goals
    simp at hl
    rcases hl with rfl | rfl
  · exact hp.1
  · exact hq.1
  · exact hp.2
  · exact hq.2
theorem ok_three {P Q R : List (List UInt8)} (hp : Ok P) (hq : Ok Q) (hr : Ok R) : (∀ l ∈ [P, Q, R], l.length < 4294967296) ∧ ∀ l ∈ [P, Q, R], ∀ s ∈ l, s.length < 4294967296 := by
  refine ⟨fun l hl => ?_, fun l hl => ?_⟩
  all_goals
    simp at hl
    rcases hl with rfl | rfl | rfl
  · exact hp.1
  · exact hq.1
  · exact hr.1
  · exact hp.2
  · exact hq.2
  · exact hr.2

theorem below_new (W : World) (o : Obj) : Below W.heap.size W (W.alloc o) := (Below.refl _ W).alloc (Nat.le_refl _) _
theorem cat2_any (W : World) (a : Addr) (v0 v1 : Value) (P Q : List (List UInt8)) (h0 : Tx W v0 P) (h1 : Tx W v1 Q) (hp : Ok P) (hq : Ok Q) (hE : Eb W a) :
    Calls Tryz.prog 6 #[.slice (some ⟨W.heap.size, 0, none⟩) 2 2] (W.alloc (.cells #[v0, v1] 23)) fun e w' => ∃ ad cap, e = .returned (.tuple #[.slice ad (resL (bound (P ++ Q))).length cap, resV a (bound (P ++ Q))]) ∧ Tx w' (.slice ad (resL (bound (P ++ Q))).length cap) (resL (bound (P ++ Q))) ∧ Below W.heap.size W w' := by
  have hb := below_new W (.cells #[v0, v1] 23)
  have h := cat_any _ [P, Q] _ a (Tss.two W v0 v1 P Q h0 h1) (by simp) (ok_two hp hq).1 (hE.below hb hE.pos)
  have e1 : gatAll id [P, Q] = P ++ Q := by simp [gatAll]
  rw [e1] at h
  refine h.mono fun e w' ⟨h2, h3⟩ => ?_
  obtain ⟨ad, cap, h4, h5⟩ := h2.both
  exact ⟨ad, cap, h4, h5, hb.trans (h3.mono hb.size)⟩
theorem cat3_any (W : World) (a : Addr) (v0 v1 v2 : Value) (P Q R : List (List UInt8)) (h0 : Tx W v0 P) (h1 : Tx W v1 Q) (h2 : Tx W v2 R) (hp : Ok P) (hq : Ok Q) (hr : Ok R) (hE : Eb W a) :
    Calls Tryz.prog 6 #[.slice (some ⟨W.heap.size, 0, none⟩) 3 3] (W.alloc (.cells #[v0, v1, v2] 23)) fun e w' => ∃ ad cap, e = .returned (.tuple #[.slice ad (resL (bound (P ++ Q ++ R))).length cap, resV a (bound (P ++ Q ++ R))]) ∧ Tx w' (.slice ad (resL (bound (P ++ Q ++ R))).length cap) (resL (bound (P ++ Q ++ R))) ∧ Below W.heap.size W w' := by
  have hb := below_new W (.cells #[v0, v1, v2] 23)
  have h := cat_any _ [P, Q, R] _ a (Tss.three W v0 v1 v2 P Q R h0 h1 h2) (by simp) (ok_three hp hq hr).1 (hE.below hb hE.pos)
  have e1 : gatAll id [P, Q, R] = P ++ Q ++ R := by simp [gatAll]
  rw [e1] at h
  refine h.mono fun e w' ⟨h2, h3⟩ => ?_
  obtain ⟨ad, cap, h4, h5⟩ := h2.both
  exact ⟨ad, cap, h4, h5, hb.trans (h3.mono hb.size)⟩
theorem join2_any (W : World) (a : Addr) (v0 v1 : Value) (P Q : List (List UInt8)) (h0 : Tx W v0 P) (h1 : Tx W v1 Q) (hp : Ok P) (hq : Ok Q) (hE : Eb W a) :
    Calls Tryz.prog 8 #[.slice (some ⟨W.heap.size, 0, none⟩) 2 2] (W.alloc (.cells #[v0, v1] 23)) fun e w' => ∃ ad cap, e = .returned (.tuple #[.slice ad (resL (joinB [P, Q])).length cap, resV a (joinB [P, Q])]) ∧ Tx w' (.slice ad (resL (joinB [P, Q])).length cap) (resL (joinB [P, Q])) ∧ Below W.heap.size W w' := by
  have hb := below_new W (.cells #[v0, v1] 23)
  have h := join_any _ [P, Q] _ a (Tss.two W v0 v1 P Q h0 h1) (by simp) (ok_two hp hq).1 (ok_two hp hq).2 (hE.below hb hE.pos)
  refine h.mono fun e w' ⟨h2, h3⟩ => ?_
  obtain ⟨ad, cap, h4, h5⟩ := h2.both
  exact ⟨ad, cap, h4, h5, hb.trans (h3.mono hb.size)⟩
theorem join3_any (W : World) (a : Addr) (v0 v1 v2 : Value) (P Q R : List (List UInt8)) (h0 : Tx W v0 P) (h1 : Tx W v1 Q) (h2 : Tx W v2 R) (hp : Ok P) (hq : Ok Q) (hr : Ok R) (hE : Eb W a) :
    Calls Tryz.prog 8 #[.slice (some ⟨W.heap.size, 0, none⟩) 3 3] (W.alloc (.cells #[v0, v1, v2] 23)) fun e w' => ∃ ad cap, e = .returned (.tuple #[.slice ad (resL (joinB [P, Q, R])).length cap, resV a (joinB [P, Q, R])]) ∧ Tx w' (.slice ad (resL (joinB [P, Q, R])).length cap) (resL (joinB [P, Q, R])) ∧ Below W.heap.size W w' := by
  have hb := below_new W (.cells #[v0, v1, v2] 23)
  have h := join_any _ [P, Q, R] _ a (Tss.three W v0 v1 v2 P Q R h0 h1 h2) (by simp) (ok_three hp hq hr).1 (ok_three hp hq hr).2 (hE.below hb hE.pos)
  refine h.mono fun e w' ⟨h2, h3⟩ => ?_
  obtain ⟨ad, cap, h4, h5⟩ := h2.both
  exact ⟨ad, cap, h4, h5, hb.trans (h3.mono hb.size)⟩
theorem same_any (W : World) (v0 v1 : Value) (P Q : List (List UInt8)) (h0 : Tx W v0 P) (h1 : Tx W v1 Q) (hp : Ok P) (hq : Ok Q) (h : P = Q) :
    Calls Tryz.prog 20 #[v0, v1] W fun e w' => e = .returned (.bool true) ∧ Below W.heap.size W w' := by
  have := sameTexts_any v0 v1 P Q W h0.texts h1.texts hp.1 hq.1
  rw [decide_eq_true h] at this
  exact this
end Go.Proofs.YtdajacodfnidfaaGreatDoor

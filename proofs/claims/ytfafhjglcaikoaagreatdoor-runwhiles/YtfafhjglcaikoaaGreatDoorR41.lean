/- Loops over lists of any length: plain. -/
import Derived.Test.YtfafhjglcaikoaaGreatDoorG40
import Derived.Test.YtfafhjglcaikoaaGreatDoorCFits
namespace Go.Proofs.YtfafhjglcaikoaaGreatDoor
open Go.RowKit

/-! ### children -/
def Hd (X : List Nd) : Prop := ∃ x r, X = x :: r ∧ x.size = (X.length : Int)
theorem hd_new (kind n : Int) (s : Txt) (Ls : List (List Nd)) : Hd (newN kind n s Ls) := ⟨_, _, rfl, by simp [newN]⟩
theorem kidsF_flat : ∀ (Ls : List (List Nd)) (n : Nat), (∀ X ∈ Ls, Hd X) → Ls.flatten.length ≤ n → kidsF n Ls.flatten = some Ls
  | [], n, _, _ => by cases n <;> rfl
  | X :: Ls, n, h, hn => by
    obtain ⟨x, r, e, hs⟩ := h X (by simp)
    subst e
    cases n with
    | zero => simp at hn
    | succ n =>
      simp only [List.flatten_cons, List.length_append, List.length_cons] at hn hs
      have hl : x.size.toNat = (x :: r).length := by simp only [List.length_cons]; omega
      have e : (x :: (r ++ Ls.flatten)) = (x :: r) ++ Ls.flatten := rfl
      show (if 1 ≤ x.size ∧ x.size ≤ ((r ++ Ls.flatten).length : Int) + 1 then (kidsF n ((x :: (r ++ Ls.flatten)).drop x.size.toNat)).map (fun t => (x :: (r ++ Ls.flatten)).take x.size.toNat :: t) else none) = _
      rw [if_pos ⟨by omega, by simp only [List.length_append]; omega⟩, hl, e, List.drop_left, List.take_left, kidsF_flat Ls n (fun Y hY => h Y (by simp [hY])) (by omega)]
      rfl
theorem kidsP_new (kind n : Int) (s : Txt) (Ls : List (List Nd)) (h : ∀ X ∈ Ls, Hd X) (h1 : Ls.length ≤ 100000) (h2 : Ls.flatten.length ≤ 100000) : kidsP (newN kind n s Ls) = some Ls := by
  show (if 0 ≤ (Ls.length : Int) ∧ (Ls.length : Int) ≤ 100000 ∧ Ls.flatten.length ≤ 100000 then kidsF Ls.flatten.length Ls.flatten else none) = _
  rw [if_pos ⟨by omega, by omega, h2⟩]
  exact kidsF_flat Ls _ h (Nat.le_refl _)

/-! ### words -/
theorem ev_lit (n : Nat) (t : Txt) (s : Sh) : (ev (n + 1)).2 (lN9 t) s = some (s, [t], .ok) := rfl
theorem fits_small {l : List Txt} (h1 : l.length ≤ 100) (h2 : ∀ t ∈ l, t.length ≤ 2000) : fitsB l = true := (fitsB_iff l).2 ⟨h1, h2⟩
theorem cat_lits (n : Nat) (s : Sh) : ∀ (l m : List Txt), (m ++ l).length ≤ 100 → (∀ t ∈ m ++ l, t.length ≤ 2000) → catS (ev (n + 1)).2 100 (l.map lN9) s m = some (s, m ++ l, .ok)
  | [], m, _, _ => by rw [List.append_nil]; rfl
  | t :: l, m, h1, h2 => by
    have h3 : (m ++ [t] ++ l).length ≤ 100 := by simpa using h1
    have h4 : ∀ u ∈ m ++ [t] ++ l, u.length ≤ 2000 := by simpa using h2
    have f1 : fitsB m = true := fits_small (by simp at h1; omega) (fun u hu => h2 u (by simp [hu]))
    have f2 : fitsB [t] = true := fits_small (by simp) (fun u hu => h2 u (by simp at hu; simp [hu]))
    have f3 : fitsB (m ++ [t]) = true := fits_small (by simp at h1 ⊢; omega) (fun u hu => h4 u (by simp at hu ⊢; rcases hu with h | h <;> simp [h]))
    have f4 : ¬ 100 < (m ++ [t]).length := by simp at h1 ⊢; omega
    have ih := cat_lits n s l (m ++ [t]) h3 h4
    rw [List.append_assoc] at ih
    rw [List.map_cons, catS, ev_lit]
    simp only [f1, f2, f3, Bool.and_self, if_true, if_neg f4]
    exact ih
theorem ev_cat (n : Nat) (s : Sh) (l : List Txt) (h1 : l.length ≤ 100) (h2 : ∀ t ∈ l, t.length ≤ 2000) : (ev (n + 2)).2 (newN 3 0 [] (l.map lN9)) s = some (s, l, .ok) := by
  have hk : kidsP (newN 3 0 [] (l.map lN9)) = some (l.map lN9) := kidsP_new _ _ _ _ (fun X hX => by
    obtain ⟨t, _, rfl⟩ := List.mem_map.1 hX
    exact hd_new _ _ _ _) (by simp; omega) (by rw [lits_len]; omega)
  have e := cat_lits n s l [] (by simpa using h1) (by simpa using h2)
  show (match kidsP (newN 3 0 [] (l.map lN9)) with
    | none => none
    | some ks => catS (ev (n + 1)).2 100 ks s []) = _
  rw [hk]
  exact e

/-! ### commands -/
/-- A run of which so much was done. -/
def mkS (F : Vps) (E : List Ev) (st : Nat) (hd : Txt) : Sh := ⟨F, [], [], [], E, st, 1500, 0, 25, hd, none, [], 0⟩
theorem start_mk (inp : Txt) : start [] 1500 25 inp = mkS [(star, [])] [] 0 inp := rfl
theorem okB_mk (F : Vps) (E : List Ev) (st : Nat) (hd : Txt) (h1 : F.length < 100000) (h2 : E.length < 1000000) (h3 : st ≤ 1000000) (h4 : hd.length < 100000) : okB (mkS F E st hd) = true := by
  simp [okB, mkS, h1, h2, h3, h4]
theorem step_mk (F : Vps) (E : List Ev) (st : Nat) (hd : Txt) (h : st < 1500) : stepP (mkS F E st hd) = (mkS F E (st + 1) hd, .ok) := by
  have : ¬ st = 1500 := by omega
  show (if st = 1500 then _ else _) = _
  rw [if_neg this]
  rfl
theorem ev_cmd (n : Nat) (kind k : Int) (t : Txt) (Ls : List (List Nd)) (F : Vps) (E : List Ev) (st : Nat) (hd : Txt) (hb : okB (mkS F E st hd) = true) (ht : t.length < 100000) (hk : kidsP (newN kind k t Ls) = some Ls) (hs : stepsB kind = true) (h : st < 1500) :
    (ev (n + 1)).1 (newN kind k t Ls) (mkS F E st hd) = bodyS (ev n).1 (ev n).2 n ⟨kind, k, Ls.length, Ls.flatten.length + 1, t⟩ Ls (mkS F E (st + 1) hd) := by
  show cmdS _ _ _ (newN kind k t Ls) _ = _
  unfold cmdS
  rw [hk]
  show (if okB (mkS F E st hd) && decide (t.length < 100000) then (if stepsB kind then _ else _) else none) = _
  rw [hb, decide_eq_true ht, hs, Bool.and_self, if_pos rfl, if_pos rfl, step_mk F E st hd h]
theorem ev_cmd0 (n : Nat) (kind k : Int) (t : Txt) (Ls : List (List Nd)) (F : Vps) (E : List Ev) (st : Nat) (hd : Txt) (hb : okB (mkS F E st hd) = true) (ht : t.length < 100000) (hk : kidsP (newN kind k t Ls) = some Ls) (hs : stepsB kind = false) :
    (ev (n + 1)).1 (newN kind k t Ls) (mkS F E st hd) = bodyS (ev n).1 (ev n).2 n ⟨kind, k, Ls.length, Ls.flatten.length + 1, t⟩ Ls (mkS F E st hd) := by
  show cmdS _ _ _ (newN kind k t Ls) _ = _
  unfold cmdS
  rw [hk]
  show (if okB (mkS F E st hd) && decide (t.length < 100000) then (if stepsB kind then _ else _) else none) = _
  rw [hb, decide_eq_true ht, hs, Bool.and_self, if_pos rfl]
  rfl
abbrev tPut : Txt := [112, 117, 116]
abbrev tNo : Txt := [110, 111]
abbrev tRead : Txt := [114, 101, 97, 100]
abbrev evPut : Ev := ⟨3, 0, [], [46], []⟩
theorem kids_put : kidsP (callN [tPut, [46]]) = some [lN9 tPut, lN9 [46]] := by kernel_rfl
theorem ev_put (n : Nat) (F : Vps) (E : List Ev) (st : Nat) (hd : Txt) (h1 : F.length < 100000) (h2 : E.length < 1000000) (h3 : st < 1500) (h4 : hd.length < 100000) :
    (ev (n + 2)).1 (callN [tPut, [46]]) (mkS F E st hd) = some (mkS F (E ++ [evPut]) (st + 1) hd, 0, .ok) := by
  show (ev (n + 1 + 1)).1 (newN 21 0 [] [lN9 tPut, lN9 [46]]) _ = _
  rw [ev_cmd (n + 1) 21 0 [] [lN9 tPut, lN9 [46]] F E st hd (okB_mk _ _ _ _ h1 h2 (by omega) h4) (by decide) kids_put rfl h3]
  show callS (ev (n + 1)).1 (ev (n + 1)).2 ([tPut, [46]].map lN9) _ = _
  unfold callS
  rw [cat_lits n _ [tPut, [46]] [] (by simp) (by simp)]
  show (if okB (mkS F E (st + 1) hd) then _ else none) = _
  rw [okB_mk _ _ _ _ h1 h2 (by omega) h4, if_pos rfl]
  rfl
/-! ### a loop over items -/
def F0 : Vps := [(star, [])]
def F1 (v x : Txt) : Vps := [(star, []), (v, [x])]
abbrev evNo (x : Txt) : Ev := ⟨1, 127, tNo, [], [x]⟩
/-- Nothing but one variable's text may lie in it. -/
def FI (v : Txt) (F : Vps) : Prop := F = F0 ∨ ∃ x, F = F1 v x
theorem FI.put {v : Txt} (hv : v = [105] ∨ v = [118]) {F : Vps} (h : FI v F) (x : Txt) : putM F v [x] = F1 v x := by
  rcases hv with rfl | rfl <;> rcases h with rfl | ⟨y, rfl⟩ <;> rfl
theorem FI.len {v : Txt} {F : Vps} (h : FI v F) : F.length ≤ 2 := by
  rcases h with rfl | ⟨y, rfl⟩ <;> simp [F0, F1]
theorem F1.get {v : Txt} (hv : v = [105] ∨ v = [118]) (x : Txt) : getM (F1 v x) v [] = [x] := by
  rcases hv with rfl | rfl <;> rfl
abbrev varN9 (v : Txt) : List Nd := newN 2 0 v []
def noN (v : Txt) : List Nd := newN 21 0 [] [lN9 tNo, varN9 v]
theorem ev_var (n : Nat) (v : Txt) (F : Vps) (E : List Ev) (st : Nat) (hd : Txt) (hb : okB (mkS F E st hd) = true) (hv : v.length < 100000) : (ev (n + 1)).2 (varN9 v) (mkS F E st hd) = some (mkS F E st hd, getM F v [], .ok) := by
  show (if okB (mkS F E st hd) && decide (v.length < 100000) then _ else none) = _
  rw [hb, decide_eq_true hv, Bool.and_self, if_pos rfl]
  rfl
theorem kids_no (v : Txt) : kidsP (noN v) = some [lN9 tNo, varN9 v] := kidsP_new _ _ _ _ (by
  intro X hX
  simp only [List.mem_cons, List.not_mem_nil, or_false] at hX
  rcases hX with rfl | rfl <;> exact hd_new _ _ _ _) (by simp) (by simp [newN])
theorem exec_no (F : Vps) (x : Txt) (E : List Ev) (st : Nat) (hd : Txt) : execP (mkS F E st hd) tNo [x] = (mkS F (E ++ [evNo x]) st hd, 127, .ok) := by
  simp [execP, sayP, rowOf, statOf, outOf, heardOf, readsB, writeF, writeE, writeB, mkS]
theorem ev_no (n : Nat) (v x : Txt) (hv : v = [105] ∨ v = [118]) (E : List Ev) (st : Nat) (hd : Txt) (hx : x.length ≤ 2000) (h2 : E.length < 1000000) (h3 : st < 1500) (h4 : hd.length < 100000) :
    (ev (n + 2)).1 (noN v) (mkS (F1 v x) E st hd) = some (mkS (F1 v x) (E ++ [evNo x]) (st + 1) hd, 127, .ok) := by
  have h1 : (F1 v x).length < 100000 := by simp [F1]
  have hvl : v.length < 100000 := by rcases hv with rfl | rfl <;> decide
  have hok := okB_mk (F1 v x) E (st + 1) hd h1 h2 (by omega) h4
  unfold noN
  rw [ev_cmd (n + 1) 21 0 [] [lN9 tNo, varN9 v] (F1 v x) E st hd (okB_mk _ _ _ _ h1 h2 (by omega) h4) (by decide) (kids_no v) rfl h3]
  have hc : catS (ev (n + 1)).2 100 [lN9 tNo, varN9 v] (mkS (F1 v x) E (st + 1) hd) [] = some (mkS (F1 v x) E (st + 1) hd, [tNo, x], .ok) := by
    rw [catS, ev_lit]
    simp only [fits_nil, show fitsB [tNo] = true from rfl, Bool.and_self, if_true, List.nil_append, show ¬ 100 < [tNo].length by decide, if_false]
    rw [catS, ev_var n v _ _ _ _ hok hvl, F1.get hv]
    have f1 : fitsB [x] = true := fits_small (by simp) (by simpa using hx)
    have f2 : fitsB ([tNo] ++ [x]) = true := fits_small (by simp) (by simpa using hx)
    simp only [show fitsB [tNo] = true from rfl, f1, f2, Bool.and_self, if_true, show ¬ 100 < ([tNo] ++ [x]).length by simp, if_false]
    rfl
  show callS (ev (n + 1)).1 (ev (n + 1)).2 [lN9 tNo, varN9 v] _ = _
  unfold callS
  rw [hc]
  show (if okB (mkS (F1 v x) E (st + 1) hd) then _ else none) = _
  rw [hok, if_pos rfl]
  show some (execP (mkS (F1 v x) E (st + 1) hd) tNo [x]) = _
  rw [exec_no]
theorem each_put (n : Nat) (hd : Txt) (h4 : hd.length < 100000) : ∀ (r : List Txt) (F : Vps) (E : List Ev) (st : Nat) (last : Int), FI [105] F → E.length + r.length ≤ 1000 → st + 2 * r.length ≤ 1000 →
    ∃ F', FI [105] F' ∧ eachS (ev (n + 2)).1 [105] (callN [tPut, [46]]) r (mkS F E st hd) last = some (mkS F' (E ++ List.replicate r.length evPut) (st + 2 * r.length) hd, if r = [] then last else 0, .ok)
  | [], F, E, st, last, hF, _, _ => ⟨F, hF, by simp [eachS]⟩
  | x :: r, F, E, st, last, hF, hE, hst => by
    simp only [List.length_cons] at hE hst
    have hl := hF.len
    obtain ⟨F', hF', e⟩ := each_put n hd h4 r (F1 [105] x) (E ++ [evPut]) (st + 2) 0 (.inr ⟨x, rfl⟩) (by simp only [List.length_append, List.length_cons, List.length_nil]; omega) (by omega)
    refine ⟨F', hF', ?_⟩
    rw [eachS, okB_mk F E st hd (by omega) (by omega) (by omega) h4, if_pos rfl, step_mk F E st hd (by omega)]
    have e1 : ({ mkS F E (st + 1) hd with F := putM (mkS F E (st + 1) hd).F [105] [x] } : Sh) = mkS (F1 [105] x) E (st + 1) hd := by
      show ({ mkS F E (st + 1) hd with F := putM F [105] [x] } : Sh) = _
      rw [hF.put (.inl rfl)]
      rfl
    dsimp only
    rw [e1]
    rw [ev_put n (F1 [105] x) E (st + 1) hd (by simp [F1]) (by omega) (by omega) h4]
    simp only
    rw [e, if_neg (List.cons_ne_nil x r), show (if r = [] then (0 : Int) else 0) = 0 by split <;> rfl]
    simp only [List.append_assoc, List.length_cons, List.replicate_succ, List.singleton_append]
    rw [show st + 2 + 2 * r.length = st + 2 * (r.length + 1) by omega]
theorem each_no (n : Nat) (hd : Txt) (h4 : hd.length < 100000) : ∀ (r : List Txt) (F : Vps) (E : List Ev) (st : Nat) (last : Int), FI [105] F → E.length + r.length ≤ 1000 → st + 2 * r.length ≤ 1000 → (∀ x ∈ r, x.length ≤ 2000) →
    ∃ F', FI [105] F' ∧ eachS (ev (n + 2)).1 [105] (noN [105]) r (mkS F E st hd) last = some (mkS F' (E ++ r.map evNo) (st + 2 * r.length) hd, if r = [] then last else 127, .ok)
  | [], F, E, st, last, hF, _, _, _ => ⟨F, hF, by simp [eachS]⟩
  | x :: r, F, E, st, last, hF, hE, hst, hx => by
    simp only [List.length_cons] at hE hst
    have hl := hF.len
    obtain ⟨F', hF', e⟩ := each_no n hd h4 r (F1 [105] x) (E ++ [evNo x]) (st + 2) 127 (.inr ⟨x, rfl⟩) (by simp only [List.length_append, List.length_cons, List.length_nil]; omega) (by omega) (fun y hy => hx y (by simp [hy]))
    refine ⟨F', hF', ?_⟩
    rw [eachS, okB_mk F E st hd (by omega) (by omega) (by omega) h4, if_pos rfl, step_mk F E st hd (by omega)]
    have e1 : ({ mkS F E (st + 1) hd with F := putM (mkS F E (st + 1) hd).F [105] [x] } : Sh) = mkS (F1 [105] x) E (st + 1) hd := by
      show ({ mkS F E (st + 1) hd with F := putM F [105] [x] } : Sh) = _
      rw [hF.put (.inl rfl)]
      rfl
    dsimp only
    rw [e1]
    rw [ev_no n [105] x (.inl rfl) E (st + 1) hd (hx x (by simp)) (by omega) (by omega) h4]
    simp only
    rw [e, if_neg (List.cons_ne_nil x r), show (if r = [] then (127 : Int) else 127) = 127 by split <;> rfl]
    simp only [List.append_assoc, List.length_cons, List.map_cons, List.singleton_append]
    rw [show st + 2 + 2 * r.length = st + 2 * (r.length + 1) by omega]
def forN (l : List Txt) (b : List Nd) : List Nd := newN 29 0 [105] [newN 3 0 [] (l.map lN9), b]
theorem ev_for (n : Nat) (l : List Txt) (b : List Nd) (E : List Ev) (st : Nat) (hd : Txt) (hb : Hd b) (hbl : b.length ≤ 100) (h1 : l.length ≤ 100) (hx : ∀ t ∈ l, t.length ≤ 2000) (h2 : E.length < 1000000) (h3 : st < 1500) (h4 : hd.length < 100000) :
    (ev (n + 3)).1 (forN l b) (mkS F0 E st hd) = eachS (ev (n + 2)).1 [105] b l (mkS F0 E st hd) 0 := by
  have hk : kidsP (forN l b) = some [newN 3 0 [] (l.map lN9), b] := kidsP_new _ _ _ _ (by
    intro X hX
    simp only [List.mem_cons, List.not_mem_nil, or_false] at hX
    rcases hX with rfl | rfl
    · exact hd_new _ _ _ _
    · exact hb) (by simp) (by
      have := lits_len l
      simp only [List.flatten_cons, List.flatten_nil, List.append_nil, List.length_append, newN, List.length_cons]
      omega)
  unfold forN
  rw [ev_cmd0 (n + 2) 29 0 [105] _ F0 E st hd (okB_mk _ _ _ _ (by simp [F0]) h2 (by omega) h4) (by decide) hk rfl]
  show forS (ev (n + 2)).1 (ev (n + 2)).2 [105] (newN 3 0 [] (l.map lN9)) b _ = _
  unfold forS
  rw [ev_cat n _ l h1 hx]
  simp only [fits_small h1 hx, if_true]
/-! ### a loop over lines -/
theorem line_of {x rest : Txt} (hx : ¬ (10 : UInt8) ∈ x) : lineL (x ++ 10 :: rest) = x ∧ restL (x ++ 10 :: rest) = rest := by
  have h : ∀ a ∈ x, (a != 10) = true := fun a ha => by
    simp only [bne_iff_ne, ne_eq]
    rintro rfl
    exact hx ha
  refine ⟨?_, ?_⟩
  · show (x ++ 10 :: rest).takeWhile (· != 10) = x
    rw [List.takeWhile_append_of_pos h, List.takeWhile_cons_of_neg (by simp), List.append_nil]
  · show ((x ++ 10 :: rest).dropWhile (· != 10)).drop 1 = rest
    rw [List.dropWhile_append_of_pos h, List.dropWhile_cons_of_neg (by simp)]
    rfl
theorem kids_read : kidsP (callN [tRead, [118]]) = some [lN9 tRead, lN9 [118]] := by kernel_rfl
theorem ev_call2 (n : Nat) (a b : Txt) (o : Oc) (F : Vps) (E : List Ev) (st : Nat) (hd : Txt) (hk : kidsP (callN [a, b]) = some [lN9 a, lN9 b]) (ha : a.length ≤ 2000) (hb : b.length ≤ 2000) (ho : doP a hd [b] = some (some o)) (h1 : F.length < 100000) (h2 : E.length < 1000000) (h3 : st < 1500) (h4 : hd.length < 100000) :
    (ev (n + 2)).1 (callN [a, b]) (mkS F E st hd) = some (followP (mkS F E (st + 1) hd) o) := by
  show (ev (n + 1 + 1)).1 (newN 21 0 [] [lN9 a, lN9 b]) _ = _
  rw [ev_cmd (n + 1) 21 0 [] [lN9 a, lN9 b] F E st hd (okB_mk _ _ _ _ h1 h2 (by omega) h4) (by decide) hk rfl h3]
  show callS (ev (n + 1)).1 (ev (n + 1)).2 ([a, b].map lN9) _ = _
  unfold callS
  rw [cat_lits n _ [a, b] [] (by simp) (by simp [ha, hb])]
  show (if okB (mkS F E (st + 1) hd) then (if hasM [] a then _ else (match doP a hd [b] with
    | none => none
    | some (some o) => some (followP (mkS F E (st + 1) hd) o)
    | some none => some (execP (mkS F E (st + 1) hd) a [b]))) else none) = _
  rw [okB_mk _ _ _ _ h1 h2 (by omega) h4, if_pos rfl, ho]
  rfl
theorem ev_read (n : Nat) (x rest : Txt) (F : Vps) (E : List Ev) (st : Nat) (hx : ¬ (10 : UInt8) ∈ x) (hl : x.length ≤ 2000) (h1 : F.length < 100000) (h2 : E.length < 1000000) (h3 : st < 1500) (h4 : (x ++ 10 :: rest).length < 100000) :
    (ev (n + 2)).1 (callN [tRead, [118]]) (mkS F E st (x ++ 10 :: rest)) = some (mkS (putM F [118] [x]) E (st + 1) rest, 0, .ok) := by
  have e : doP tRead (x ++ 10 :: rest) [[118]] = some (some ⟨[], rest, 0, [118], x, false⟩) := by
    show some (some (readR (x ++ 10 :: rest) [[118]])) = _
    have : (T.nameB [118] && !(x ++ 10 :: rest).isEmpty) = true := by
      have : (x ++ 10 :: rest).isEmpty = false := by cases x <;> rfl
      rw [this]
      rfl
    show some (some (if (T.nameB [118] && !(x ++ 10 :: rest).isEmpty) = true then _ else _)) = _
    rw [if_pos this, (line_of hx).1, (line_of hx).2]
  rw [ev_call2 n tRead [118] _ F E st _ kids_read (by decide) (by decide) e h1 h2 h3 h4]
  have hg : ¬ 2000 < x.length := by omega
  simp [followP, sayP, writeF, writeE, writeB, mkS, hg]
theorem ev_readend (n : Nat) (F : Vps) (E : List Ev) (st : Nat) (h1 : F.length < 100000) (h2 : E.length < 1000000) (h3 : st < 1500) :
    (ev (n + 2)).1 (callN [tRead, [118]]) (mkS F E st []) = some (mkS F E (st + 1) [], 1, .ok) := by
  have e : doP tRead [] [[118]] = some (some ⟨[], [], 1, [], [], false⟩) := rfl
  rw [ev_call2 n tRead [118] _ F E st _ kids_read (by decide) (by decide) e h1 h2 h3 (by decide)]
  simp [followP, sayP, writeF, writeE, writeB, mkS]
abbrev linesB (r : List Txt) : Txt := r.flatMap (· ++ [10])
theorem lines_len : ∀ r : List Txt, (∀ x ∈ r, x.length ≤ 30) → (linesB r).length ≤ 31 * r.length
  | [], _ => by simp
  | x :: r, h => by
    have h1 := h x (by simp)
    have h2 := lines_len r (fun y hy => h y (by simp [hy]))
    simp only [linesB, List.flatMap_cons, List.length_append, List.length_cons, List.length_nil] at h2 ⊢
    omega
theorem while_no (n : Nat) : ∀ (r : List Txt) (k : Nat) (F : Vps) (E : List Ev) (st : Nat) (last : Int), r.length < k → FI [118] F → E.length + r.length ≤ 1000 → st + 3 * r.length + 2 ≤ 1000 → (∀ x ∈ r, x.length ≤ 30) → (∀ x ∈ r, ¬ (10 : UInt8) ∈ x) →
    ∃ F', FI [118] F' ∧ whileS (ev (n + 2)).1 (callN [tRead, [118]]) (noN [118]) k (mkS F E st (linesB r)) last = some (mkS F' (E ++ r.map evNo) (st + 3 * r.length + 2) [], if r = [] then last else 127, .ok)
  | [], k, F, E, st, last, hk, hF, hE, hst, _, _ => by
    obtain ⟨k, rfl⟩ : ∃ k', k = k' + 1 := ⟨k - 1, by simp at hk; omega⟩
    have hl := hF.len
    simp only [List.length_nil] at hE hst
    refine ⟨F, hF, ?_⟩
    show whileS _ _ _ (k + 1) (mkS F E st []) last = _
    rw [whileS, okB_mk F E st [] (by omega) (by omega) (by omega) (by decide), if_pos rfl, step_mk F E st [] (by omega)]
    dsimp only
    rw [ev_readend n F E (st + 1) (by omega) (by omega) (by omega)]
    simp
  | x :: r, k, F, E, st, last, hk, hF, hE, hst, hx, hn => by
    obtain ⟨k, rfl⟩ : ∃ k', k = k' + 1 := ⟨k - 1, by simp at hk; omega⟩
    simp only [List.length_cons] at hE hst hk
    have hl := hF.len
    have hll := lines_len (x :: r) hx
    have hlr := lines_len r (fun y hy => hx y (by simp [hy]))
    simp only [List.length_cons] at hll
    have hxl := hx x (by simp)
    obtain ⟨F', hF', e⟩ := while_no n r k (F1 [118] x) (E ++ [evNo x]) (st + 3) 127 (by omega) (.inr ⟨x, rfl⟩) (by simp only [List.length_append, List.length_cons, List.length_nil]; omega) (by omega) (fun y hy => hx y (by simp [hy])) (fun y hy => hn y (by simp [hy]))
    refine ⟨F', hF', ?_⟩
    have e0 : linesB (x :: r) = x ++ 10 :: linesB r := by simp [linesB]
    rw [e0] at hll ⊢
    rw [whileS, okB_mk F E st _ (by omega) (by omega) (by omega) (by omega), if_pos rfl, step_mk F E st _ (by omega)]
    dsimp only
    rw [ev_read n x (linesB r) F E (st + 1) (hn x (by simp)) (by omega) (by omega) (by omega) (by omega) (by omega), hF.put (.inr rfl)]
    dsimp only
    rw [if_pos rfl, ev_no n [118] x (.inr rfl) E (st + 2) (linesB r) (by omega) (by omega) (by omega) (by omega)]
    dsimp only
    rw [e, if_neg (List.cons_ne_nil x r), show (if r = [] then (127 : Int) else 127) = 127 by split <;> rfl]
    simp only [List.append_assoc, List.length_cons, List.map_cons, List.singleton_append]
    rw [show st + 3 + 3 * r.length + 2 = st + 3 * (r.length + 1) + 2 by omega]
def whileN : List Nd := newN 28 0 [] [callN [tRead, [118]], noN [118]]
theorem ev_while (n : Nat) (hd : Txt) (h4 : hd.length < 100000) : (ev (n + 3)).1 whileN (mkS F0 [] 0 hd) = whileS (ev (n + 2)).1 (callN [tRead, [118]]) (noN [118]) (n + 2) (mkS F0 [] 0 hd) 0 := by
  have hk : kidsP whileN = some [callN [tRead, [118]], noN [118]] := by kernel_rfl
  unfold whileN
  rw [ev_cmd0 (n + 2) 28 0 [] _ F0 [] 0 hd (okB_mk _ _ _ _ (by simp [F0]) (by simp) (by omega) h4) (by decide) hk rfl]
  rfl

/-! ### which programs may be -/
def SmN (X : List Nd) : Prop := ∀ x ∈ X, x.s.length ≤ 300 ∧ x.k ≤ 4294967296
theorem smn_new {kind n : Int} {s : Txt} {Ls : List (List Nd)} (hs : s.length ≤ 300) (hl : Ls.length ≤ 1000) (h : ∀ X ∈ Ls, SmN X) : SmN (newN kind n s Ls) := by
  intro x hx
  rcases List.mem_cons.1 hx with rfl | hx
  · exact ⟨hs, by simp only; omega⟩
  · obtain ⟨X, hX, hx⟩ := List.mem_flatten.1 hx
    exact h X hX x hx
theorem smn_lit {t : Txt} (h : t.length ≤ 300) : SmN (lN9 t) := smn_new h (by simp) (by simp)
theorem smn_two {kind n : Int} {s : Txt} {X Y : List Nd} (hs : s.length ≤ 300) (h1 : SmN X) (h2 : SmN Y) : SmN (newN kind n s [X, Y]) := smn_new hs (by simp) (by
  intro Z hZ
  simp only [List.mem_cons, List.not_mem_nil, or_false] at hZ
  rcases hZ with rfl | rfl
  · exact h1
  · exact h2)
theorem smn_put : SmN (callN [tPut, [46]]) := smn_two (by simp) (smn_lit (by decide)) (smn_lit (by decide))
theorem smn_read : SmN (callN [tRead, [118]]) := smn_two (by simp) (smn_lit (by decide)) (smn_lit (by decide))
theorem smn_no {v : Txt} (h : v.length ≤ 300) : SmN (noN v) := smn_two (by simp) (smn_lit (by decide)) (smn_new h (by simp) (by simp))
theorem smn_for {l : List Txt} {b : List Nd} (h1 : l.length ≤ 30) (h2 : ∀ t ∈ l, t.length ≤ 50) (hb : SmN b) : SmN (forN l b) := smn_two (by simp) (smn_new (by simp) (by simp; omega) (by
  intro X hX
  obtain ⟨t, ht, rfl⟩ := List.mem_map.1 hX
  exact smn_lit (by have := h2 t ht; omega))) hb
theorem fit_lit (d : Nat) {t : Txt} (h : t.length ≤ 2000) : Fits (d + 1) true (lN9 t) := Fits.mk d true 1 0 t [] rfl rfl (by simp [strB, h]) rfl (by simp)
theorem fit_two {d : Nat} {word : Bool} {kind n : Int} {s : Txt} {X Y : List Nd} (h1 : isOneB kind word = true) (h2 : numB kind n = true) (h3 : strB kind n s = true) (h4 : cntB kind 2 = true) (hX : Fits d (wordAtB kind 2 0) X) (hY : Fits d (wordAtB kind 2 1) Y) : Fits (d + 1) word (newN kind n s [X, Y]) :=
  Fits.mk d word kind n s [X, Y] h1 h2 h3 h4 (by
    intro j Z hZ
    match j, hZ with
    | 0, hZ => cases hZ; exact hX
    | 1, hZ => cases hZ; exact hY
    | j + 2, hZ => simp at hZ)
theorem fit_call2 (d : Nat) {a b : Txt} (ha : a.length ≤ 2000) (hb : b.length ≤ 2000) : Fits (d + 2) false (callN [a, b]) := fit_two rfl rfl rfl rfl (fit_lit d ha) (fit_lit d hb)
theorem fit_no (d : Nat) {v : Txt} (hv : v = [105] ∨ v = [118]) : Fits (d + 2) false (noN v) := fit_two rfl rfl rfl rfl (fit_lit d (by decide)) (Fits.mk d true 2 0 v [] rfl rfl (by rcases hv with rfl | rfl <;> rfl) rfl (by simp))
theorem fit_cat (d : Nat) {l : List Txt} (h : ∀ t ∈ l, t.length ≤ 2000) : Fits (d + 2) true (newN 3 0 [] (l.map lN9)) := Fits.mk (d + 1) true 3 0 [] (l.map lN9) rfl rfl rfl (by simp [cntB]) (by
  intro j Y hY
  rw [List.getElem?_map, Option.map_eq_some_iff] at hY
  obtain ⟨t, ht, rfl⟩ := hY
  exact fit_lit d (h t (List.mem_of_getElem? ht)))
theorem fit_for (d : Nat) {l : List Txt} {b : List Nd} (h : ∀ t ∈ l, t.length ≤ 2000) (hb : Fits (d + 2) false b) : Fits (d + 3) false (forN l b) := fit_two rfl rfl rfl rfl (fit_cat d h) hb
theorem fit_while (d : Nat) : Fits (d + 3) false whileN := fit_two rfl rfl rfl rfl (fit_call2 d (by decide) (by decide)) (fit_no d (.inr rfl))
theorem for_len {l : List Txt} {b : List Nd} : (forN l b).length = l.length + b.length + 2 := by
  have := lits_len l
  simp only [forN, newN, List.flatten_cons, List.flatten_nil, List.append_nil, List.length_append, List.length_cons, this]
  omega
/-- All that a run asks of a program. -/
theorem forA_ok {l : List Txt} (h1 : l.length ≤ 30) (h2 : ∀ t ∈ l, t.length ≤ 50) : (forN l (callN [tPut, [46]])).length ≤ 1000 ∧ SmN (forN l (callN [tPut, [46]])) ∧ checkL (forN l (callN [tPut, [46]])) = .fine := by
  have hb : (callN [tPut, [46]]).length = 3 := rfl
  have hl := for_len (l := l) (b := callN [tPut, [46]])
  exact ⟨by omega, smn_for h1 h2 smn_put, fits_fine _ (fit_for 27 (fun t ht => by have := h2 t ht; omega) (fit_call2 27 (by decide) (by decide))) (by omega)⟩
theorem forB_ok {l : List Txt} (h1 : l.length ≤ 30) (h2 : ∀ t ∈ l, t.length ≤ 50) : (forN l (noN [105])).length ≤ 1000 ∧ SmN (forN l (noN [105])) ∧ checkL (forN l (noN [105])) = .fine := by
  have hb : (noN [105]).length = 3 := rfl
  have hl := for_len (l := l) (b := noN [105])
  exact ⟨by omega, smn_for h1 h2 (smn_no (by decide)), fits_fine _ (fit_for 27 (fun t ht => by have := h2 t ht; omega) (fit_no 27 (.inl rfl))) (by omega)⟩
theorem while_ok : whileN.length ≤ 1000 ∧ SmN whileN ∧ checkL whileN = .fine :=
  ⟨by decide, smn_two (by simp) smn_read (smn_no (by decide)), fits_fine _ (fit_while 27) (by decide)⟩
/-- What the first For comes to. -/
theorem forA_at {l : List Txt} (h1 : l.length ≤ 30) (h2 : ∀ t ∈ l, t.length ≤ 50) : ∃ F', FI [105] F' ∧ (ev 6).1 (forN l (callN [tPut, [46]])) (mkS F0 [] 0 []) = some (mkS F' (List.replicate l.length evPut) (2 * l.length) [], 0, .ok) := by
  obtain ⟨F', hF, e⟩ := each_put 3 [] (by decide) l F0 [] 0 0 (.inl rfl) (by simp; omega) (by omega)
  refine ⟨F', hF, ?_⟩
  rw [ev_for 3 l _ [] 0 [] (hd_new _ _ _ _) (by decide) (by omega) (fun t ht => by have := h2 t ht; omega) (by simp) (by omega) (by decide), e, show (if l = [] then (0 : Int) else 0) = 0 by split <;> rfl]
  simp
theorem forB_at {l : List Txt} (h1 : l.length ≤ 30) (h2 : ∀ t ∈ l, t.length ≤ 50) : ∃ F', FI [105] F' ∧ (ev 6).1 (forN l (noN [105])) (mkS F0 [] 0 []) = some (mkS F' (l.map evNo) (2 * l.length) [], if l = [] then 0 else 127, .ok) := by
  obtain ⟨F', hF, e⟩ := each_no 3 [] (by decide) l F0 [] 0 0 (.inl rfl) (by simp; omega) (by omega) (fun t ht => by have := h2 t ht; omega)
  refine ⟨F', hF, ?_⟩
  rw [ev_for 3 l (noN [105]) [] 0 [] (hd_new _ _ _ _) (by decide) (by omega) (fun t ht => by have := h2 t ht; omega) (by simp) (by omega) (by decide), e]
  simp
theorem while_at {l : List Txt} (h1 : l.length ≤ 30) (h2 : ∀ t ∈ l, t.length ≤ 30) (h3 : ∀ t ∈ l, ¬ (10 : UInt8) ∈ t) : ∃ F', FI [118] F' ∧ (ev 43).1 whileN (mkS F0 [] 0 (linesB l)) = some (mkS F' (l.map evNo) (3 * l.length + 2) [], if l = [] then 0 else 127, .ok) := by
  have hll := lines_len l h2
  obtain ⟨F', hF, e⟩ := while_no 40 l 42 F0 [] 0 0 (by omega) (.inl rfl) (by simp; omega) (by omega) h2 h3
  refine ⟨F', hF, ?_⟩
  rw [ev_while 40 _ (by omega), e]
  simp
end Go.Proofs.YtfafhjglcaikoaaGreatDoor

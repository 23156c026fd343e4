/- What the document's look is to tell: the road from its answer to a tree that fits. -/
import Derived.Test.YtaildeglikhkaaaGreatDoorSame
import Derived.Test.YtaildeglikhkaaaGreatDoorNewAll
import Derived.Test.YtaildeglikhkaaaGreatDoorTree
/-! The document's own look at a node by itself. -/
namespace Go.Proofs.YtaildeglikhkaaaGreatDoor
open Go.RowKit
attribute [local go_sem] Oper.semAt_some

/-- A truth value is answered. -/
def IsB (e : Ending) : Prop := ∃ b, e = .returned (.bool b)
/-- A truth value is answered, and if it is true so is something else. -/
def IsBP (p : Prop) (e : Ending) : Prop := ∃ b : Bool, e = .returned (.bool b) ∧ (b = true → p)
theorem isBP (p : Prop) (b : Bool) (h : b = true → p) : IsBP p (.returned (.bool b)) := ⟨b, rfl, h⟩
theorem refWord_any (k : Int) (w : World) : Calls Tryz.prog 29 #[.int .i64 k] w fun e w' => IsB e ∧ w' = w := by
  by_cases h : 1 ≤ k
  all_goals
    go_enter Tryz.func29, Tryz.ntmps29
    go_wp2_with fail
    go_ret
    exact ⟨⟨_, rfl⟩, rfl⟩
theorem refCommand_any (k : Int) (w : World) : Calls Tryz.prog 30 #[.int .i64 k] w fun e w' => IsB e ∧ w' = w := by
  by_cases h : 20 ≤ k
  all_goals
    go_enter Tryz.func30, Tryz.ntmps30
    go_wp2_with fail
    go_ret
    exact ⟨⟨_, rfl⟩, rfl⟩
set_option maxHeartbeats 4000000 in
theorem refcommand_any (kind i k : Int) (w : World) : Calls Tryz.prog 60 #[.int .i64 kind, .int .i64 i, .int .i64 k] w fun e w' => IsB e ∧ w' = w := by
  go_enter Tryz.func60, Tryz.ntmps60
  go_wp2_with fail
  all_goals
    go_ret
    exact ⟨⟨_, rfl⟩, rfl⟩
set_option maxHeartbeats 4000000 in
theorem refcount_any (kind k : Int) (w : World) : Calls Tryz.prog 79 #[.int .i64 kind, .int .i64 k] w fun e w' => IsBP (0 ≤ k) e ∧ w' = w := by
  go_enter Tryz.func79, Tryz.ntmps79
  go_wp2_with fail
  all_goals
    go_ret
    refine ⟨isBP _ _ ?_, rfl⟩
    intro h
    simp at h
    try omega
theorem refClosed_any (s : ByteArray) (hs : s.size < 4611686018427387904) (w : World) : Calls Tryz.prog 77 #[.string s] w fun e w' => IsB e ∧ w' = w := by
  go_enter Tryz.func77, Tryz.ntmps77
  go_wp2_with fail
  go_loop [3, 4] (fun v3 v4 => ∃ (k : Nat) (b : Bool), k ≤ s.size ∧ v4 = .int .i64 k ∧ v3 = .bool b) (fun _ v4 => s.size - (intOf v4).toNat)
  case atStart => exact ⟨0, false, by omega, rfl, rfl⟩
  case round =>
    obtain ⟨k, b, hk, rfl, rfl⟩ := hrel
    by_cases hlt : k < s.size
    · have hlt' : (k : Int) < (s.size : Int) := by omega
      go_wp2_with fail
      all_goals exact ⟨⟨k + 1, _, by omega, by simp, rfl⟩, by simp [intOf]; omega⟩
    · have hlt' : ¬ (k : Int) < (s.size : Int) := by omega
      go_wp2_with fail
      go_ret
      exact ⟨⟨_, rfl⟩, rfl⟩
theorem refLetter_any (c : Int) (w : World) : Calls Tryz.prog 89 #[.int .u8 c] w fun e w' => IsB e ∧ w' = w := by
  go_enter Tryz.func89, Tryz.ntmps89
  go_wp2_with fail
  all_goals
    go_ret
    exact ⟨⟨_, rfl⟩, rfl⟩
theorem refName_any (s : ByteArray) (w : World) : Calls Tryz.prog 78 #[.string s] w fun e w' => IsB e ∧ w' = w := by
  by_cases h0 : s.size < 1
  · have h0' : (s.size : Int) < 1 := by omega
    go_enter Tryz.func78, Tryz.ntmps78
    go_wp2_with fail
    go_ret
    exact ⟨⟨_, rfl⟩, rfl⟩
  · have h0' : ¬ (s.size : Int) < 1 := by omega
    have h1 : 0 < s.size := by omega
    by_cases h20 : (20 : Int) < (s.size : Int)
    · go_enter Tryz.func78, Tryz.ntmps78
      go_wp2_with fail
      go_ret
      exact ⟨⟨_, rfl⟩, rfl⟩
    · go_enter Tryz.func78, Tryz.ntmps78
      go_wp2_with fail
      all_goals
        first
        | (go_ret; exact ⟨⟨_, rfl⟩, rfl⟩)
        | skip
      all_goals
        go_loop [3] (fun v3 => ∃ k : Nat, k ≤ s.size ∧ v3 = .int .i64 k) (fun v3 => s.size - (intOf v3).toNat)
        case atStart => exact ⟨0, by omega, rfl⟩
        case round =>
          obtain ⟨k, hk, rfl⟩ := hrel
          by_cases hlt : k < s.size
          · have hlt' : (k : Int) < (s.size : Int) := by omega
            go_wp2_with fail
            refine (refLetter_any _ _).mono ?_
            rintro e w' ⟨⟨b, rfl⟩, rfl⟩
            cases b with
            | false =>
              go_wp2_with fail
              go_ret
              exact ⟨⟨_, rfl⟩, rfl⟩
            | true =>
              go_wp2_with fail
              exact ⟨⟨k + 1, by omega, by simp⟩, by simp [intOf]; omega⟩
          · have hlt' : ¬ (k : Int) < (s.size : Int) := by omega
            go_wp2_with fail
            go_ret
            exact ⟨⟨_, rfl⟩, rfl⟩
theorem IsBP.cases {p : Prop} {e : Ending} (h : IsBP p e) : e = .returned (.bool false) ∨ (e = .returned (.bool true) ∧ p) := by
  obtain ⟨b, rfl, hb⟩ := h
  cases b with
  | false => exact .inl rfl
  | true => exact .inr ⟨rfl, hb rfl⟩
theorem isBP_false (p : Prop) : IsBP p (.returned (.bool false)) := ⟨false, rfl, fun h => by cases h⟩
set_option maxRecDepth 100000 in
set_option maxHeartbeats 8000000 in
theorem refAlone_any (x : Nd) (hs : x.s.length < 4611686018427387904) (w : World) : Calls Tryz.prog 58 #[ndV x] w fun e w' => IsBP (0 ≤ x.k) e ∧ Below w.heap.size w w' := by
  obtain ⟨kd, n, k, sz, s⟩ := x
  simp only at hs ⊢
  have hs2 : (⟨s.toArray⟩ : ByteArray).size < 4611686018427387904 := hs
  go_enter Tryz.func58, Tryz.ntmps58
  go_wp2_with (first | (go_at_call 77; refine (refClosed_any _ hs2 _).mono ?_; rintro e w' ⟨⟨b, rfl⟩, rfl⟩; cases b) | (go_at_call 78; refine (refName_any _ _).mono ?_; rintro e w' ⟨⟨b, rfl⟩, rfl⟩; cases b) | (go_at_call 79; refine (refcount_any _ _ _).mono ?_; rintro e w' ⟨hq, rfl⟩; rcases hq.cases with rfl | ⟨rfl, hbk⟩))
  all_goals
    go_ret
    first
    | exact ⟨isBP_false _, below_new _ _⟩
    | exact ⟨isBP _ _ (fun _ => hbk), below_new _ _⟩
end Go.Proofs.YtaildeglikhkaaaGreatDoor
/-! Plain: a tree whose nodes all fit may be. -/
namespace Go.Proofs.YtaildeglikhkaaaGreatDoor

/-- Every node of the tree fits its place: it is a word or a command as asked, and may be but for its children. -/
inductive Fits : Nat → Bool → List Nd → Prop
  | mk (d : Nat) (word : Bool) (kind n : Int) (s : Txt) (Ys : List (List Nd)) (h1 : isOneB kind word = true) (h2 : numB kind n = true) (h3 : strB kind n s = true) (h4 : cntB kind Ys.length = true)
      (h : ∀ (j : Nat) (Y : List Nd), Ys[j]? = some Y → Fits d (wordAtB kind Ys.length j) Y) : Fits (d + 1) word (newN kind n s Ys)
theorem Fits.head {d : Nat} {word : Bool} {Y : List Nd} (h : Fits d word Y) : ∃ y : Nd, Y[0]? = some y ∧ y.size = (Y.length : Int) ∧ 1 ≤ Y.length := by
  cases h with
  | mk d word kind n s Ys h1 h2 h3 h4 h => exact ⟨_, rfl, by simp [newN], by simp [newN]⟩
/-- What is asked of the children lies where they begin. -/
def AkFit (x : Nd) (dep : Int) (fin : Nat) (A : List Ak) : Nat → Nat → List (List Nd) → Prop
  | _, _, [] => True
  | k, at_, Y :: Ys => A[at_]? = some ⟨fin, dep + 1, decide ((k : Int) = x.k - 1), wordAtB x.kind x.k k⟩ ∧ AkFit x dep fin A (k + 1) (at_ + Y.length) Ys
theorem AkFit.kept (x : Nd) (dep : Int) (fin : Nat) (A B : List Ak) : ∀ (Ys : List (List Nd)) (k at_ : Nat), (∀ j, at_ ≤ j → B[j]? = A[j]?) → AkFit x dep fin A k at_ Ys → AkFit x dep fin B k at_ Ys
  | [], _, _, _, _ => trivial
  | Y :: Ys, k, at_, h, ⟨h1, h2⟩ => ⟨(h at_ (Nat.le_refl _)).trans h1, AkFit.kept x dep fin A B Ys (k + 1) (at_ + Y.length) (fun j hj => h j (by omega)) h2⟩
theorem head_at (l Y R : List Nd) (i : Nat) (y : Nd) (h : l.drop i = Y ++ R) (hy : Y[0]? = some y) : l[i]? = some y := by
  have h1 : (l.drop i)[0]? = some y := by
    rw [h]
    cases Y with
    | nil => cases hy
    | cons a Y => simpa using hy
  simpa using h1
theorem drop_more (l Y R : List Nd) (i : Nat) (h : l.drop i = Y ++ R) : l.drop (i + Y.length) = R := by
  rw [← List.drop_drop, h, List.drop_left]
theorem ask_kids (l : List Nd) (x : Nd) (dep : Int) (fin : Nat) : ∀ (Ys : List (List Nd)) (k at_ f : Nat) (A : List Ak) (R : List Nd), (∀ Y ∈ Ys, ∃ y : Nd, Y[0]? = some y ∧ y.size = (Y.length : Int) ∧ 1 ≤ Y.length) → x.k = ((k + Ys.length : Nat) : Int) → fin = at_ + Ys.flatten.length → l.drop at_ = Ys.flatten ++ R → Ys.length < f → A.length = l.length →
    (askG l x dep fin f k at_ A).1 = true ∧ AkFit x dep fin (askG l x dep fin f k at_ A).2 k at_ Ys
  | [], k, at_, f + 1, A, R, _, hk, _, _, _, _ => by
    have h1 : ¬ (k : Int) < x.k := by rw [hk]; simp
    unfold askG
    rw [if_neg h1]
    exact ⟨rfl, trivial⟩
  | Y :: Ys, k, at_, f + 1, A, R, hh, hk, hf, hd, hl, hA => by
    obtain ⟨y, hy0, hys, hy1⟩ := hh Y (by simp)
    rw [List.flatten_cons, List.append_assoc] at hd
    rw [List.flatten_cons, List.length_append] at hf
    simp only [List.length_cons] at hk hl
    have hly := head_at l Y (Ys.flatten ++ R) at_ y hd hy0
    have hal : at_ < l.length := (List.getElem?_eq_some_iff.1 hly).1
    have h1 : (k : Int) < x.k := by omega
    have h2 : ¬ fin ≤ at_ := by omega
    have h3 : ¬ y.size < 1 := by omega
    have h4 : (min y.size ((fin - at_ : Nat) : Int)).toNat = Y.length := by omega
    obtain ⟨A1, hA1⟩ : ∃ A1, A1 = A.set at_ ⟨fin, dep + 1, decide ((k : Int) = x.k - 1), wordAtB x.kind x.k k⟩ := ⟨_, rfl⟩
    have e : askG l x dep fin (f + 1) k at_ A = askG l x dep fin f (k + 1) (at_ + Y.length) A1 := by
      conv => lhs; unfold askG
      rw [if_pos h1, if_neg h2, hly]
      simp only
      rw [if_neg h3, h4, hA1]
    rw [e]
    have ih := ask_kids l x dep fin Ys (k + 1) (at_ + Y.length) f A1 R (fun Z hZ => hh Z (by simp [hZ])) (by omega) (by omega) (drop_more l Y _ at_ hd) (by omega) (by rw [hA1, List.length_set, hA])
    refine ⟨ih.1, ?_, ih.2⟩
    rw [(askG_low l x dep fin f (k + 1) (at_ + Y.length) A1).2 at_ (by omega), hA1, List.getElem?_set_self (by omega)]
/-- The program's walk goes over such a tree. -/
def GoSeg (l : List Nd) (d : Nat) (word : Bool) (Y : List Nd) : Prop := ∀ (i f : Nat) (A : List Ak) (R : List Nd) (a : Ak), l.drop i = Y ++ R → A.length = l.length → A[i]? = some a → a.word = word → a.dep + d ≤ 31 → (a.last = true → a.fin - i = Y.length) → (i : Int) + Y.length ≤ a.fin → i + f = l.length →
  ∃ A', goC l f i A = goC l (f - Y.length) (i + Y.length) A' ∧ A'.length = l.length ∧ ∀ j, i + Y.length ≤ j → A'[j]? = A[j]?
theorem go_kids (l : List Nd) (x : Nd) (dep : Int) (fin d : Nat) (hdep : dep + 1 + d ≤ 31) : ∀ (Ys : List (List Nd)) (k at_ f : Nat) (A : List Ak) (R : List Nd), (∀ (j : Nat) (Y : List Nd), Ys[j]? = some Y → GoSeg l d (wordAtB x.kind x.k ((k + j : Nat) : Int)) Y ∧ 1 ≤ Y.length) → x.k = ((k + Ys.length : Nat) : Int) → fin = at_ + Ys.flatten.length → l.drop at_ = Ys.flatten ++ R → A.length = l.length → at_ + f = l.length → AkFit x dep fin A k at_ Ys →
    ∃ A', goC l f at_ A = goC l (f - Ys.flatten.length) (at_ + Ys.flatten.length) A' ∧ A'.length = l.length ∧ ∀ j, at_ + Ys.flatten.length ≤ j → A'[j]? = A[j]?
  | [], k, at_, f, A, R, _, _, _, _, hA, _, _ => ⟨A, by simp, hA, fun _ _ => rfl⟩
  | Y :: Ys, k, at_, f, A, R, hg, hk, hf, hd, hA, hi, ⟨ha, hr⟩ => by
    rw [List.flatten_cons, List.append_assoc] at hd
    rw [List.flatten_cons, List.length_append] at hf ⊢
    simp only [List.length_cons] at hk
    obtain ⟨g0, g1⟩ := hg 0 Y rfl
    have hflat : (k : Int) = x.k - 1 → Ys.flatten.length = 0 := fun h => by
      have : Ys.length = 0 := by omega
      rw [List.eq_nil_of_length_eq_zero this]
      rfl
    obtain ⟨A1, e1, l1, k1⟩ := g0 at_ f A (Ys.flatten ++ R) _ hd hA ha (by simp) (by simp only; omega) (fun h => by have := hflat (of_decide_eq_true h); simp only; omega) (by simp only; omega) hi
    have hyl : at_ + Y.length ≤ l.length := by
      have := congrArg List.length hd
      rw [List.length_drop, List.length_append] at this
      omega
    obtain ⟨A2, e2, l2, k2⟩ := go_kids l x dep fin d hdep Ys (k + 1) (at_ + Y.length) (f - Y.length) A1 R (fun j Z hZ => by
      have := hg (j + 1) Z (by simpa using hZ)
      rw [show k + 1 + j = k + (j + 1) by omega]
      exact this) (by omega) (by omega) (drop_more l Y _ at_ hd) l1 (by omega) (AkFit.kept x dep fin A A1 Ys (k + 1) (at_ + Y.length) k1 hr)
    refine ⟨A2, ?_, l2, fun j hj => (k2 j (by omega)).trans (k1 j (by omega))⟩
    rw [e1, e2, Nat.sub_sub, Nat.add_assoc]
theorem flat_ge : ∀ Ys : List (List Nd), (∀ Y ∈ Ys, 1 ≤ Y.length) → Ys.length ≤ Ys.flatten.length
  | [], _ => by simp
  | Y :: Ys, h => by
    have h1 := h Y (by simp)
    have h2 := flat_ge Ys (fun Z hZ => h Z (by simp [hZ]))
    simp only [List.length_cons, List.flatten_cons, List.length_append]
    omega
theorem fits_go (l : List Nd) {d : Nat} {word : Bool} {Y : List Nd} (h : Fits d word Y) : GoSeg l d word Y := by
  induction h with
  | mk d word kind n s Ys h1 h2 h3 h4 hs ih =>
    intro i f A R a hd hA ha hw hdp hlast hroom hif
    have hY1 : ∀ Y ∈ Ys, ∃ y : Nd, Y[0]? = some y ∧ y.size = (Y.length : Int) ∧ 1 ≤ Y.length := fun Y hY => by
      obtain ⟨j, hj⟩ := List.mem_iff_getElem?.1 hY
      exact (hs j Y hj).head
    have hfl := flat_ge Ys (fun Y hY => (hY1 Y hY).choose_spec.2.2)
    have hlen : (newN kind n s Ys).length = Ys.flatten.length + 1 := by simp [newN]
    have hx : l[i]? = some ⟨kind, n, Ys.length, Ys.flatten.length + 1, s⟩ := head_at l _ R i _ hd rfl
    have hil : i < l.length := (List.getElem?_eq_some_iff.1 hx).1
    obtain ⟨f', rfl⟩ : ∃ f', f = f' + 1 := ⟨f - 1, by omega⟩
    have hd1 : l.drop (i + 1) = Ys.flatten ++ R := by
      rw [← List.drop_drop, hd]
      rfl
    rw [hlen] at hlast hroom ⊢
    have hmay : mayB ⟨kind, n, Ys.length, Ys.flatten.length + 1, s⟩ a i = true := by
      unfold mayB
      simp only [hw, h1, h2, h3, h4, Bool.true_and]
      unfold sizB
      have hz : ¬ ((Ys.length : Int) = 0 ∧ ((Ys.flatten.length : Int) + 1) ≠ 1) := by
        rintro ⟨z1, z2⟩
        have : Ys = [] := List.eq_nil_of_length_eq_zero (by omega)
        rw [this] at z2
        exact z2 rfl
      rw [if_neg hz]
      cases hla : a.last with
      | true =>
        have := hlast hla
        rw [if_pos rfl, decide_eq_true_eq]
        omega
      | false =>
        rw [if_neg (by decide), Bool.and_eq_true, decide_eq_true_eq, decide_eq_true_eq]
        omega
    have hfin : i + ((Ys.flatten.length : Int) + 1).toNat = i + 1 + Ys.flatten.length := by omega
    obtain ⟨q1, q2⟩ := ask_kids l ⟨kind, n, Ys.length, Ys.flatten.length + 1, s⟩ a.dep (i + 1 + Ys.flatten.length) Ys 0 (i + 1) (i + 1 + Ys.flatten.length + 1) A R hY1 (by simp) rfl hd1 (by omega) hA
    have hlow := askG_low l ⟨kind, n, Ys.length, Ys.flatten.length + 1, s⟩ a.dep (i + 1 + Ys.flatten.length) (i + 1 + Ys.flatten.length + 1) 0 (i + 1) A
    obtain ⟨A2, e2, l2, k2⟩ := go_kids l ⟨kind, n, Ys.length, Ys.flatten.length + 1, s⟩ a.dep (i + 1 + Ys.flatten.length) d (by omega) Ys 0 (i + 1) f' _ R (fun j Y hj => ⟨by rw [Nat.zero_add]; exact ih j Y hj, (hs j Y hj).head.choose_spec.2.2⟩) (by simp) rfl hd1 (hlow.1.trans hA) (by omega) q2
    refine ⟨A2, ?_, l2, fun j hj => (k2 j (by omega)).trans (askG_high l _ _ _ _ _ _ A j (by omega))⟩
    conv => lhs; unfold goC
    rw [hx, ha]
    simp only [hmay, if_true, hfin, q1]
    rw [if_neg (by omega), e2]
    congr 1 <;> omega
/-- A tree that fits may be. -/
theorem fits_fine (l : List Nd) (h : Fits 30 false l) (h1 : l.length ≤ 3000) : checkL l = .fine := by
  obtain ⟨_, _, _, h0⟩ := h.head
  obtain ⟨A', e, _, _⟩ := fits_go l h 0 l.length (aks l.length) [] ⟨l.length, 1, true, false⟩ (by simp) (aks_len _ (by omega)) rfl rfl (by simp) (fun _ => by simp) (by simp) (by omega)
  unfold checkL
  rw [if_neg (by omega), e, Nat.sub_self]
  rfl
end Go.Proofs.YtaildeglikhkaaaGreatDoor
/-! The document's own look at a node by itself: what a yes means. -/
namespace Go.Proofs.YtaildeglikhkaaaGreatDoor
open Go.RowKit
attribute [local go_sem] Oper.semAt_some

set_option maxHeartbeats 4000000 in
theorem xcount_any (kind k : Int) (w : World) : Calls Tryz.prog 79 #[.int .i64 kind, .int .i64 k] w fun e w' => IsBP (cntB kind k = true) e ∧ w' = w := by
  go_enter Tryz.func79, Tryz.ntmps79
  go_wp2_with fail
  all_goals
    go_ret
    refine ⟨isBP _ _ ?_, rfl⟩
    intro h
    first
    | (exact absurd h (by decide))
    | (simp only [beq_iff_eq, beq_eq_false_iff_ne, ne_eq] at *
       try simp at h
       unfold cntB
       repeat' split
       all_goals try simp only [decide_eq_true_eq, Bool.and_eq_true]
       all_goals try omega)
/-- The kinds whose children are all commands, or all words, or mixed. -/
theorem kinds30 (kind : Int) (hk : wordK kind = true ∨ cmdK kind = true) : kind = 1 ∨ kind = 2 ∨ kind = 3 ∨ kind = 4 ∨ kind = 5 ∨ kind = 6 ∨ kind = 7 ∨ kind = 8 ∨ kind = 9 ∨ kind = 10 ∨ kind = 11 ∨ kind = 12 ∨ kind = 20 ∨ kind = 21 ∨ kind = 22 ∨ kind = 23 ∨ kind = 24 ∨ kind = 25 ∨ kind = 26 ∨ kind = 27 ∨ kind = 28 ∨ kind = 29 ∨ kind = 30 ∨ kind = 31 ∨ kind = 32 ∨ kind = 33 ∨ kind = 34 ∨ kind = 35 ∨ kind = 36 ∨ kind = 37 := by
  simp only [wordK, cmdK, Bool.and_eq_true, decide_eq_true_eq] at hk
  omega
set_option linter.unusedSimpArgs false in
set_option maxHeartbeats 4000000 in
theorem xcommand_any (kind i k : Int) (w : World) (hk : wordK kind = true ∨ cmdK kind = true) (hc : cntB kind k = true) (h0 : 0 ≤ i) (h1 : i < k) (h2 : k < 4294967296) : Calls Tryz.prog 60 #[.int .i64 kind, .int .i64 i, .int .i64 k] w fun e w' => e = .returned (.bool (!wordAtB kind k i)) ∧ w' = w := by
  rcases kinds30 kind hk with rfl | rfl | rfl | rfl | rfl | rfl | rfl | rfl | rfl | rfl | rfl | rfl | rfl | rfl | rfl | rfl | rfl | rfl | rfl | rfl | rfl | rfl | rfl | rfl | rfl | rfl | rfl | rfl | rfl | rfl
  all_goals
    clear hk
    simp [cntB] at hc
    simp only [wordAtB, wordK]
    first
    | (go_enter Tryz.func60, Tryz.ntmps60
       go_wp2_with fail
       go_ret
       exact ⟨rfl, rfl⟩)
    | skip
  all_goals
    first
    | (exfalso; omega)
    | skip
  · obtain hi | hi : i = 0 ∨ i = 1 := by omega
    all_goals
      subst hi
      go_enter Tryz.func60, Tryz.ntmps60
      go_wp2_with fail
      go_ret
      exact ⟨rfl, rfl⟩
  · by_cases hi : i = 0
    · subst hi
      go_enter Tryz.func60, Tryz.ntmps60
      go_wp2_with fail
      go_ret
      exact ⟨rfl, rfl⟩
    · have hp : 0 < i := by omega
      have htm : i.tmod 2 = i % 2 := Int.tmod_eq_emod_of_nonneg h0
      obtain hm | hm : i % 2 = 0 ∨ i % 2 = 1 := by omega
      all_goals
        rw [hm] at htm
        go_enter Tryz.func60, Tryz.ntmps60
        go_wp2_with fail
        go_ret
        exact ⟨by simp [hi, hm], rfl⟩
  · obtain hi | hi : i = 0 ∨ i = 1 := by omega
    all_goals
      subst hi
      go_enter Tryz.func60, Tryz.ntmps60
      go_wp2_with fail
      go_ret
      exact ⟨rfl, rfl⟩
  · obtain hi | hi : i = 0 ∨ i = 1 := by omega
    all_goals
      subst hi
      go_enter Tryz.func60, Tryz.ntmps60
      go_wp2_with fail
      go_ret
      exact ⟨rfl, rfl⟩
  · obtain hi | hi : i = 0 ∨ i = 1 := by omega
    all_goals
      subst hi
      go_enter Tryz.func60, Tryz.ntmps60
      go_wp2_with fail
      go_ret
      exact ⟨rfl, rfl⟩
  · have hw : IntKind.i64.wrap (k - 1) = k - 1 := by rw [IntKind.wrap_i64]; omega
    by_cases hi : i = k - 1
    · have hn : ¬ i < k - 1 := by omega
      have he : (i == k - 1) = true := by simpa using hi
      go_enter Tryz.func60, Tryz.ntmps60
      go_wp2_with fail
      go_ret
      exact ⟨by simp [hi], rfl⟩
    · have hn : i < k - 1 := by omega
      have he : (i == k - 1) = false := by simpa using hi
      go_enter Tryz.func60, Tryz.ntmps60
      go_wp2_with fail
      go_ret
      exact ⟨by simp [hn, hi], rfl⟩
end Go.Proofs.YtaildeglikhkaaaGreatDoor
/-! The document's own Closed and Name: what a yes means. -/
namespace Go.Proofs.YtaildeglikhkaaaGreatDoor
open Go.RowKit
attribute [local go_sem] Oper.semAt_some

/-- Is a taker open at the end? -/
def openF (l : List UInt8) : Bool := l.foldl (fun o b => b == 92 && !o) false
theorem openF_snoc (l : List UInt8) (b : UInt8) : openF (l ++ [b]) = (b == 92 && !openF l) := by simp [openF]
theorem closedL_snoc (l : List UInt8) (b : UInt8) : closedL (l ++ [b]) = if b == 92 then !closedL l else true := by
  unfold closedL
  rw [List.reverse_append]
  cases h : b == 92 with
  | false => simp [h]
  | true =>
    simp only [List.reverse_cons, List.reverse_nil, List.nil_append, List.singleton_append, List.takeWhile_cons, h, if_true, List.length_cons]
    rw [← decide_not]
    exact decide_eq_decide.2 (by omega)
theorem closed_open (l : List UInt8) : closedL l = !openF l := by
  rw [← List.reverse_reverse l]
  induction l.reverse with
  | nil => rfl
  | cons b r ih =>
    rw [List.reverse_cons, closedL_snoc, openF_snoc, ih]
    cases b == 92 <;> simp
theorem take_snoc2 (s : ByteArray) (k : Nat) (h : k < s.size) : s.data.toList.take (k + 1) = s.data.toList.take k ++ [s[k]] := by
  have h' : k < s.data.toList.length := by simpa using h
  rw [List.take_add_one, List.getElem?_eq_getElem h']
  simp [ByteArray.getElem_eq_getElem_data]
set_option maxHeartbeats 1000000 in
theorem xClosed_any (s : ByteArray) (hs : s.size < 4611686018427387904) (w : World) : Calls Tryz.prog 77 #[.string s] w fun e w' => IsBP (closedL s.data.toList = true) e ∧ w' = w := by
  rw [closed_open]
  go_enter Tryz.func77, Tryz.ntmps77
  go_wp2_with fail
  go_loop [3, 4] (fun v3 v4 => ∃ (k : Nat) (b : Bool), k ≤ s.size ∧ v4 = .int .i64 k ∧ v3 = .bool b ∧ Hid (b = openF (s.data.toList.take k))) (fun _ v4 => s.size - (intOf v4).toNat)
  case atStart => exact ⟨0, false, by omega, rfl, rfl, rfl⟩
  case round =>
    obtain ⟨k, b, hk, rfl, rfl, HB⟩ := hrel
    by_cases hlt : k < s.size
    · have hlt' : (k : Int) < (s.size : Int) := by omega
      have HN : Hid (openF (s.data.toList.take (k + 1)) = (s[k] == 92 && !b)) := by unfold Hid; rw [take_snoc2 s k hlt, openF_snoc, HB.out]
      have h92 : (((s[k]).toNat : Int) == 92) = (s[k] == 92) := by
        rw [Bool.eq_iff_iff, beq_iff_eq, beq_iff_eq]
        exact ⟨fun e => UInt8.toNat_inj.1 (by simpa using (by omega : (s[k]).toNat = 92)), fun e => by rw [e]; rfl⟩
      cases hc : s[k] == 92
      all_goals
        rw [hc] at h92 HN
        go_wp2_with fail
        exact ⟨⟨k + 1, _, by omega, by simp, rfl, by unfold Hid; rw [HN.out]; rfl⟩, by simp [intOf]; omega⟩
    · have hlt' : ¬ (k : Int) < (s.size : Int) := by omega
      have HE : Hid (b = openF s.data.toList) := by unfold Hid; rw [HB.out, List.take_of_length_le (by simp; omega)]
      go_wp2_with fail
      go_ret
      exact ⟨isBP _ _ (by rw [← HE.out]; exact fun h => by simpa using h), rfl⟩
theorem xLetter_any (c : Int) (w : World) : Calls Tryz.prog 89 #[.int .u8 c] w fun e w' => IsBP (contB c = true) e ∧ w' = w := by
  go_enter Tryz.func89, Tryz.ntmps89
  go_wp2_with fail
  all_goals
    go_ret
    refine ⟨isBP _ _ ?_, rfl⟩
    intro h
    simp at h
    unfold contB startB digitB
    simp
    omega
theorem name_of (l : List UInt8) (c : UInt8) (h0 : l[0]? = some c) (hl : l.length ≤ 20) (hd : ¬ (48 ≤ c.toNat ∧ c.toNat ≤ 57)) (ha : l.all cont8 = true) : nameB l = true := by
  cases l with
  | nil => cases h0
  | cons b l =>
    obtain rfl : b = c := by simpa using h0
    unfold nameB
    rw [ha, decide_eq_true hl]
    have hb : cont8 b = true := List.all_eq_true.1 ha b (by simp)
    have hs : startB (b.toNat : Int) = true := by
      unfold cont8 contB at hb
      rcases Bool.or_eq_true_iff.1 hb with h | h
      · exact h
      · unfold digitB at h
        have := of_decide_eq_true h
        omega
    simp only [hs]
    rfl
theorem isBP_no {p : Prop} {w : World} : IsBP p (.returned (.bool false)) ∧ w = w := ⟨⟨false, rfl, fun h => by cases h⟩, rfl⟩
set_option maxHeartbeats 2000000 in
theorem xName_any (s : ByteArray) (w : World) : Calls Tryz.prog 78 #[.string s] w fun e w' => IsBP (nameB s.data.toList = true) e ∧ w' = w := by
  by_cases h0 : s.size < 1
  · have h0' : (s.size : Int) < 1 := by omega
    go_enter Tryz.func78, Tryz.ntmps78
    go_wp2_with fail
    go_ret
    exact isBP_no
  · have h0' : ¬ (s.size : Int) < 1 := by omega
    have h1 : 0 < s.size := by omega
    by_cases h20 : (20 : Int) < (s.size : Int)
    · go_enter Tryz.func78, Tryz.ntmps78
      go_wp2_with fail
      go_ret
      exact isBP_no
    · obtain ⟨c, hc⟩ : ∃ c, s[0] = c := ⟨_, rfl⟩
      by_cases hd : 48 ≤ c.toNat ∧ c.toNat ≤ 57
      · obtain ⟨d1, d2⟩ := hd
        go_enter Tryz.func78, Tryz.ntmps78
        go_wp2_with fail
        go_ret
        exact isBP_no
      · have hln : s.data.toList.length ≤ 20 := by
          have : s.data.toList.length = s.size := by simp
          omega
        have HNM : Hid (s.data.toList.all cont8 = true → nameB s.data.toList = true) := fun ha => name_of _ c (by rw [show s.data.toList[0]? = some s[0] by simp [ByteArray.getElem_eq_getElem_data, h1], hc]) hln hd ha
        have hways : ¬ 48 ≤ c.toNat ∨ (48 ≤ c.toNat ∧ ¬ c.toNat ≤ 57) := by omega
        clear hd
        rcases hways with d1 | ⟨d1, d2⟩
        all_goals
          go_enter Tryz.func78, Tryz.ntmps78
          go_wp2_with fail
          go_loop [3] (fun v3 => ∃ k : Nat, k ≤ s.size ∧ v3 = .int .i64 k ∧ Hid ((s.data.toList.take k).all cont8 = true)) (fun v3 => s.size - (intOf v3).toNat)
          case atStart => exact ⟨0, by omega, rfl, by simp [Hid]⟩
          case round =>
            obtain ⟨k, hk, rfl, HA⟩ := hrel
            by_cases hlt : k < s.size
            · have hlt' : (k : Int) < (s.size : Int) := by omega
              have HT : Hid (s.data.toList.take (k + 1) = s.data.toList.take k ++ [s[k]]) := take_snoc2 s k hlt
              go_wp2_with fail
              refine (xLetter_any _ _).mono ?_
              rintro e w' ⟨hb, rfl⟩
              rcases hb.cases with rfl | ⟨rfl, hcc⟩
              · go_wp2_with fail
                go_ret
                exact isBP_no
              · have HA2 : Hid ((s.data.toList.take (k + 1)).all cont8 = true) := by
                  unfold Hid
                  rw [HT.out, List.all_append, HA.out]
                  simpa [cont8] using hcc
                clear hcc
                go_wp2_with fail
                exact ⟨⟨k + 1, by omega, by simp, HA2⟩, by simp [intOf]; omega⟩
            · have hlt' : ¬ (k : Int) < (s.size : Int) := by omega
              have HE : Hid (nameB s.data.toList = true) := HNM.out (by rw [← HA.out, List.take_of_length_le (by simp; omega)])
              go_wp2_with fail
              go_ret
              exact ⟨isBP _ _ (fun _ => HE.out), rfl⟩
end Go.Proofs.YtaildeglikhkaaaGreatDoor
/-! The document's own look at a node by itself: a yes means that it may be, but for its children. -/
namespace Go.Proofs.YtaildeglikhkaaaGreatDoor
open Go.RowKit
attribute [local go_sem] Oper.semAt_some

/-- What a node is by itself. -/
def AloneP (x : Nd) : Prop := numB x.kind x.n = true ∧ strB x.kind x.n x.s = true ∧ cntB x.kind x.k = true
set_option linter.unusedSimpArgs false in
set_option maxRecDepth 100000 in
set_option maxHeartbeats 16000000 in
theorem xAlone_any (x : Nd) (hs : x.s.length < 4611686018427387904) (w : World) : Calls Tryz.prog 58 #[ndV x] w fun e w' => IsBP (AloneP x) e ∧ Below w.heap.size w w' := by
  obtain ⟨kd, n, k, sz, s⟩ := x
  simp only at hs ⊢
  have hs2 : (⟨s.toArray⟩ : ByteArray).size < 4611686018427387904 := hs
  go_enter Tryz.func58, Tryz.ntmps58
  go_wp2_with (first | (go_at_call 77; refine (xClosed_any _ hs2 _).mono ?_; rintro e w' ⟨hq1, rfl⟩; rcases hq1.cases with rfl | ⟨rfl, hcl⟩) | (go_at_call 78; refine (xName_any _ _).mono ?_; rintro e w' ⟨hq2, rfl⟩; rcases hq2.cases with rfl | ⟨rfl, hnm⟩) | (go_at_call 79; refine (xcount_any _ _ _).mono ?_; rintro e w' ⟨hq3, rfl⟩; rcases hq3.cases with rfl | ⟨rfl, hbk⟩))
  all_goals
    go_ret
    first
    | exact ⟨isBP_false _, below_new _ _⟩
    | refine ⟨isBP _ _ (fun _ => ⟨?_, ?_, hbk⟩), below_new _ _⟩
  all_goals
    clear hbk hq3
    simp only [beq_iff_eq, beq_eq_false_iff_ne, ne_eq] at *
    simp only [numB, strB]
    repeat' split
    all_goals
      first
      | (exfalso; omega)
      | (simp only [Bool.or_eq_true, Bool.and_eq_true, decide_eq_true_eq]; omega)
      | assumption
      | (simp_all; done)
      | (simp_all; omega)
end Go.Proofs.YtaildeglikhkaaaGreatDoor
namespace Go.Proofs.YtaildeglikhkaaaGreatDoor
open Go.RowKit
attribute [local go_sem] Oper.semAt_some

theorem Fits.seg {d : Nat} {word : Bool} {Y : List Nd} (h : Fits d word Y) : Seg d Y := by
  induction h with
  | mk d word kind n s Ys h1 h2 h3 h4 hs ih =>
    refine Seg.mk d kind n s Ys fun Y hY => ?_
    obtain ⟨j, hj⟩ := List.mem_iff_getElem?.1 hY
    exact ih j Y hj
theorem xWord_any (k : Int) (w : World) : Calls Tryz.prog 29 #[.int .i64 k] w fun e w' => IsBP (wordK k = true) e ∧ w' = w := by
  by_cases h : 1 ≤ k
  all_goals
    go_enter Tryz.func29, Tryz.ntmps29
    go_wp2_with fail
    go_ret
    refine ⟨isBP _ _ (fun hb => ?_), rfl⟩
    simp at hb
    try (unfold wordK; simp; omega)
theorem xCommand_any (k : Int) (w : World) : Calls Tryz.prog 30 #[.int .i64 k] w fun e w' => IsBP (cmdK k = true) e ∧ w' = w := by
  by_cases h : 20 ≤ k
  all_goals
    go_enter Tryz.func30, Tryz.ntmps30
    go_wp2_with fail
    go_ret
    refine ⟨isBP _ _ (fun hb => ?_), rfl⟩
    simp at hb
    try (unfold cmdK; simp; omega)
/-- A node whose children fit, one behind the other, fits. -/
theorem fits_node (X : List Nd) (at_ m e Kn : Nat) (kd nn : Int) (s : Txt) (word : Bool) (Ys : List (List Nd)) (hx : X[at_]? = some ⟨kd, nn, Kn, m, s⟩) (hm : 1 ≤ m) (hl : at_ + m ≤ X.length) (hk : Ys.length = Kn) (h1 : isOneB kd word = true) (ha : AloneP ⟨kd, nn, Kn, m, s⟩)
    (hs : ∀ (j : Nat) (Y : List Nd), Ys[j]? = some Y → Fits e (wordAtB kd Kn j) Y) (hf : Ys.flatten = (X.drop (at_ + 1)).take (m - 1)) : Fits (e + 1) word ((X.drop at_).take m) := by
  have hlt := (List.getElem?_eq_some_iff.1 hx).1
  have hd : X.drop at_ = ⟨kd, nn, Kn, m, s⟩ :: X.drop (at_ + 1) := by
    rw [List.drop_eq_getElem_cons hlt]
    congr 1
    rw [List.getElem?_eq_getElem hlt] at hx
    exact Option.some.inj hx
  have hlen : ((X.drop (at_ + 1)).take (m - 1)).length = m - 1 := by rw [List.length_take, List.length_drop]; omega
  have e1 : (X.drop at_).take m = newN kd nn s Ys := by
    rw [hd, show m = (m - 1) + 1 by omega, List.take_succ_cons, newN, hf, hk, hlen]
    congr 2
  rw [e1]
  subst hk
  exact Fits.mk e word kd nn s Ys h1 ha.1 ha.2.1 ha.2.2 hs
/-- What is told of a node whose look is fine. -/
def LookF (X : List Nd) (at_ most : Nat) (fin : Int) (d : Nat) (cmd : Bool) (c : Int) : Prop := c = 0 → ∃ (m : Nat) (x : Nd), X[at_]? = some x ∧ x.size = m ∧ 1 ≤ m ∧ at_ + m ≤ most ∧ (0 ≤ fin → (at_ : Int) + m = fin) ∧ Fits d (!cmd) ((X.drop at_).take m)
end Go.Proofs.YtaildeglikhkaaaGreatDoor

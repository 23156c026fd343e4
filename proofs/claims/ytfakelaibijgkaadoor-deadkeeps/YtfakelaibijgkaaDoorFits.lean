/- Plain: a tree whose nodes all fit may be. -/
import Derived.Test.YtfakelaibijgkaaDoorTree
namespace Go.Proofs.YtfakelaibijgkaaDoor

/-- Every node of the tree fits its place: it is a word or a command as asked, and may be but for its children. -/
inductive Fits : Nat → Bool → List Nd → Prop
  | mk (d : Nat) (word : Bool) (kind n : Int) (s : Txt) (Ys : List (List Nd)) (h1 : isOneB kind word = true) (h2 : numB kind n = true) (h3 : strB kind n s = true) (h4 : cntB kind Ys.length = true)
      (h : ∀ (j : Nat) (Y : List Nd), Ys[j]? = some Y → Fits d (wordAtB kind Ys.length j) Y) : Fits (d + 1) word (newN kind n s Ys)
theorem Fits.head {d : Nat} {word : Bool} {Y : List Nd} (h : Fits d word Y) : ∃ y : Nd, Y[0]? = some y ∧ y.size = (Y.length : Int) ∧ 1 ≤ Y.length := by
  cases h with
  | mk d word kind n s Ys h1 h2 h3 h4 h => exact ⟨_, rfl, by simp [newN], by simp [newN]⟩
/-- What is asked of the children lies where they begin. -/
def AkFit (x : Nd) (dep : Int) (fin : Nat) (A : List Ak) : Nat → Nat → List (List Nd) → Prop
  | _, _, [] => True
  | k, at_, Y :: Ys => A[at_]? = some ⟨fin, dep + 1, decide ((k : Int) = x.k - 1), wordAtB x.kind x.k k⟩ ∧ AkFit x dep fin A (k + 1) (at_ + Y.length) Ys
theorem AkFit.kept (x : Nd) (dep : Int) (fin : Nat) (A B : List Ak) : ∀ (Ys : List (List Nd)) (k at_ : Nat), (∀ j, at_ ≤ j → B[j]? = A[j]?) → AkFit x dep fin A k at_ Ys → AkFit x dep fin B k at_ Ys
  | [], _, _, _, _ => trivial
  | Y :: Ys, k, at_, h, ⟨h1, h2⟩ => ⟨(h at_ (Nat.le_refl _)).trans h1, AkFit.kept x dep fin A B Ys (k + 1) (at_ + Y.length) (fun j hj => h j (by omega)) h2⟩
theorem head_at (l Y R : List Nd) (i : Nat) (y : Nd) (h : l.drop i = Y ++ R) (hy : Y[0]? = some y) : l[i]? = some y := by
  have h1 : (l.drop i)[0]? = some y := by
    rw [h]
    cases Y with
    | nil => cases hy
    | cons a Y => simpa using hy
  simpa using h1
theorem drop_more (l Y R : List Nd) (i : Nat) (h : l.drop i = Y ++ R) : l.drop (i + Y.length) = R := by
  rw [← List.drop_drop, h, List.drop_left]
theorem ask_kids (l : List Nd) (x : Nd) (dep : Int) (fin : Nat) : ∀ (Ys : List (List Nd)) (k at_ f : Nat) (A : List Ak) (R : List Nd), (∀ Y ∈ Ys, ∃ y : Nd, Y[0]? = some y ∧ y.size = (Y.length : Int) ∧ 1 ≤ Y.length) → x.k = ((k + Ys.length : Nat) : Int) → fin = at_ + Ys.flatten.length → l.drop at_ = Ys.flatten ++ R → Ys.length < f → A.length = l.length →
    (askG l x dep fin f k at_ A).1 = true ∧ AkFit x dep fin (askG l x dep fin f k at_ A).2 k at_ Ys
  | [], k, at_, f + 1, A, R, _, hk, _, _, _, _ => by
    have h1 : ¬ (k : Int) < x.k := by rw [hk]; simp
    unfold askG
    rw [if_neg h1]
    exact ⟨rfl, trivial⟩
  | Y :: Ys, k, at_, f + 1, A, R, hh, hk, hf, hd, hl, hA => by
    obtain ⟨y, hy0, hys, hy1⟩ := hh Y (by simp)
    rw [List.flatten_cons, List.append_assoc] at hd
    rw [List.flatten_cons, List.length_append] at hf
    simp only [List.length_cons] at hk hl
    have hly := head_at l Y (Ys.flatten ++ R) at_ y hd hy0
    have hal : at_ < l.length := (List.getElem?_eq_some_iff.1 hly).1
    have h1 : (k : Int) < x.k := by omega
    have h2 : ¬ fin ≤ at_ := by omega
    have h3 : ¬ y.size < 1 := by omega
    have h4 : (min y.size ((fin - at_ : Nat) : Int)).toNat = Y.length := by omega
    obtain ⟨A1, hA1⟩ : ∃ A1, A1 = A.set at_ ⟨fin, dep + 1, decide ((k : Int) = x.k - 1), wordAtB x.kind x.k k⟩ := ⟨_, rfl⟩
    have e : askG l x dep fin (f + 1) k at_ A = askG l x dep fin f (k + 1) (at_ + Y.length) A1 := by
      conv => lhs; unfold askG
      rw [if_pos h1, if_neg h2, hly]
      simp only
      rw [if_neg h3, h4, hA1]
    rw [e]
    have ih := ask_kids l x dep fin Ys (k + 1) (at_ + Y.length) f A1 R (fun Z hZ => hh Z (by simp [hZ])) (by omega) (by omega) (drop_more l Y _ at_ hd) (by omega) (by rw [hA1, List.length_set, hA])
    refine ⟨ih.1, ?_, ih.2⟩
    rw [(askG_low l x dep fin f (k + 1) (at_ + Y.length) A1).2 at_ (by omega), hA1, List.getElem?_set_self (by omega)]
/-- The program's walk goes over such a tree. -/
def GoSeg (l : List Nd) (d : Nat) (word : Bool) (Y : List Nd) : Prop := ∀ (i f : Nat) (A : List Ak) (R : List Nd) (a : Ak), l.drop i = Y ++ R → A.length = l.length → A[i]? = some a → a.word = word → a.dep + d ≤ 31 → (a.last = true → a.fin - i = Y.length) → (i : Int) + Y.length ≤ a.fin → i + f = l.length →
  ∃ A', goC l f i A = goC l (f - Y.length) (i + Y.length) A' ∧ A'.length = l.length ∧ ∀ j, i + Y.length ≤ j → A'[j]? = A[j]?
theorem go_kids (l : List Nd) (x : Nd) (dep : Int) (fin d : Nat) (hdep : dep + 1 + d ≤ 31) : ∀ (Ys : List (List Nd)) (k at_ f : Nat) (A : List Ak) (R : List Nd), (∀ (j : Nat) (Y : List Nd), Ys[j]? = some Y → GoSeg l d (wordAtB x.kind x.k ((k + j : Nat) : Int)) Y ∧ 1 ≤ Y.length) → x.k = ((k + Ys.length : Nat) : Int) → fin = at_ + Ys.flatten.length → l.drop at_ = Ys.flatten ++ R → A.length = l.length → at_ + f = l.length → AkFit x dep fin A k at_ Ys →
    ∃ A', goC l f at_ A = goC l (f - Ys.flatten.length) (at_ + Ys.flatten.length) A' ∧ A'.length = l.length ∧ ∀ j, at_ + Ys.flatten.length ≤ j → A'[j]? = A[j]?
  | [], k, at_, f, A, R, _, _, _, _, hA, _, _ => ⟨A, by simp, hA, fun _ _ => rfl⟩
  | Y :: Ys, k, at_, f, A, R, hg, hk, hf, hd, hA, hi, ⟨ha, hr⟩ => by
    rw [List.flatten_cons, List.append_assoc] at hd
    rw [List.flatten_cons, List.length_append] at hf ⊢
    simp only [List.length_cons] at hk
    obtain ⟨g0, g1⟩ := hg 0 Y rfl
    have hflat : (k : Int) = x.k - 1 → Ys.flatten.length = 0 := fun h => by
      have : Ys.length = 0 := by omega
      rw [List.eq_nil_of_length_eq_zero this]
      rfl
    obtain ⟨A1, e1, l1, k1⟩ := g0 at_ f A (Ys.flatten ++ R) _ hd hA ha (by simp) (by simp only; omega) (fun h => by have := hflat (of_decide_eq_true h); simp only; omega) (by simp only; omega) hi
    have hyl : at_ + Y.length ≤ l.length := by
      have := congrArg List.length hd
      rw [List.length_drop, List.length_append] at this
      omega
    obtain ⟨A2, e2, l2, k2⟩ := go_kids l x dep fin d hdep Ys (k + 1) (at_ + Y.length) (f - Y.length) A1 R (fun j Z hZ => by
      have := hg (j + 1) Z (by simpa using hZ)
      rw [show k + 1 + j = k + (j + 1) by omega]
      exact this) (by omega) (by omega) (drop_more l Y _ at_ hd) l1 (by omega) (AkFit.kept x dep fin A A1 Ys (k + 1) (at_ + Y.length) k1 hr)
    refine ⟨A2, ?_, l2, fun j hj => (k2 j (by omega)).trans (k1 j (by omega))⟩
    rw [e1, e2, Nat.sub_sub, Nat.add_assoc]
theorem flat_ge : ∀ Ys : List (List Nd), (∀ Y ∈ Ys, 1 ≤ Y.length) → Ys.length ≤ Ys.flatten.length
  | [], _ => by simp
  | Y :: Ys, h => by
    have h1 := h Y (by simp)
    have h2 := flat_ge Ys (fun Z hZ => h Z (by simp [hZ]))
    simp only [List.length_cons, List.flatten_cons, List.length_append]
    omega
theorem fits_go (l : List Nd) {d : Nat} {word : Bool} {Y : List Nd} (h : Fits d word Y) : GoSeg l d word Y := by
  induction h with
  | mk d word kind n s Ys h1 h2 h3 h4 hs ih =>
    intro i f A R a hd hA ha hw hdp hlast hroom hif
    have hY1 : ∀ Y ∈ Ys, ∃ y : Nd, Y[0]? = some y ∧ y.size = (Y.length : Int) ∧ 1 ≤ Y.length := fun Y hY => by
      obtain ⟨j, hj⟩ := List.mem_iff_getElem?.1 hY
      exact (hs j Y hj).head
    have hfl := flat_ge Ys (fun Y hY => (hY1 Y hY).choose_spec.2.2)
    have hlen : (newN kind n s Ys).length = Ys.flatten.length + 1 := by simp [newN]
    have hx : l[i]? = some ⟨kind, n, Ys.length, Ys.flatten.length + 1, s⟩ := head_at l _ R i _ hd rfl
    have hil : i < l.length := (List.getElem?_eq_some_iff.1 hx).1
    obtain ⟨f', rfl⟩ : ∃ f', f = f' + 1 := ⟨f - 1, by omega⟩
    have hd1 : l.drop (i + 1) = Ys.flatten ++ R := by
      rw [← List.drop_drop, hd]
      rfl
    rw [hlen] at hlast hroom ⊢
    have hmay : mayB ⟨kind, n, Ys.length, Ys.flatten.length + 1, s⟩ a i = true := by
      unfold mayB
      simp only [hw, h1, h2, h3, h4, Bool.true_and]
      unfold sizB
      have hz : ¬ ((Ys.length : Int) = 0 ∧ ((Ys.flatten.length : Int) + 1) ≠ 1) := by
        rintro ⟨z1, z2⟩
        have : Ys = [] := List.eq_nil_of_length_eq_zero (by omega)
        rw [this] at z2
        exact z2 rfl
      rw [if_neg hz]
      cases hla : a.last with
      | true =>
        have := hlast hla
        rw [if_pos rfl, decide_eq_true_eq]
        omega
      | false =>
        rw [if_neg (by decide), Bool.and_eq_true, decide_eq_true_eq, decide_eq_true_eq]
        omega
    have hfin : i + ((Ys.flatten.length : Int) + 1).toNat = i + 1 + Ys.flatten.length := by omega
    obtain ⟨q1, q2⟩ := ask_kids l ⟨kind, n, Ys.length, Ys.flatten.length + 1, s⟩ a.dep (i + 1 + Ys.flatten.length) Ys 0 (i + 1) (i + 1 + Ys.flatten.length + 1) A R hY1 (by simp) rfl hd1 (by omega) hA
    have hlow := askG_low l ⟨kind, n, Ys.length, Ys.flatten.length + 1, s⟩ a.dep (i + 1 + Ys.flatten.length) (i + 1 + Ys.flatten.length + 1) 0 (i + 1) A
    obtain ⟨A2, e2, l2, k2⟩ := go_kids l ⟨kind, n, Ys.length, Ys.flatten.length + 1, s⟩ a.dep (i + 1 + Ys.flatten.length) d (by omega) Ys 0 (i + 1) f' _ R (fun j Y hj => ⟨by rw [Nat.zero_add]; exact ih j Y hj, (hs j Y hj).head.choose_spec.2.2⟩) (by simp) rfl hd1 (hlow.1.trans hA) (by omega) q2
    refine ⟨A2, ?_, l2, fun j hj => (k2 j (by omega)).trans (askG_high l _ _ _ _ _ _ A j (by omega))⟩
    conv => lhs; unfold goC
    rw [hx, ha]
    simp only [hmay, if_true, hfin, q1]
    rw [if_neg (by omega), e2]
    congr 1 <;> omega
/-- A tree that fits may be. -/
theorem fits_fine (l : List Nd) (h : Fits 30 false l) (h1 : l.length ≤ 3000) : checkL l = .fine := by
  obtain ⟨_, _, _, h0⟩ := h.head
  obtain ⟨A', e, _, _⟩ := fits_go l h 0 l.length (aks l.length) [] ⟨l.length, 1, true, false⟩ (by simp) (aks_len _ (by omega)) rfl rfl (by simp) (fun _ => by simp) (by simp) (by omega)
  unfold checkL
  rw [if_neg (by omega), e, Nat.sub_self]
  rfl
end Go.Proofs.YtfakelaibijgkaaDoor

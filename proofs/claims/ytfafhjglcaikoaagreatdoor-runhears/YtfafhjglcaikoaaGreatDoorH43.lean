/- A run of plain, whatever comes behind; programs whose texts are longer. -/
import Derived.Test.YtfafhjglcaikoaaGreatDoorH36
import Derived.Test.YtfafhjglcaikoaaGreatDoorH38
import Derived.Test.YtfafhjglcaikoaaGreatDoorH9
import Derived.Test.YtfafhjglcaikoaaGreatDoorH42
/-! What the programs of the laws come to: plain. -/
namespace Go.Proofs.YtfafhjglcaikoaaGreatDoor
open Go.RowKit

/-! ### a text that doubles -/
def seqP : List (List Nd) → List Nd
  | [X] => X
  | L => newN 23 0 [] L
/-! ### how deep -/
end Go.Proofs.YtfafhjglcaikoaaGreatDoor
/-! A run of a small program, in memory; programs that are joined. -/
namespace Go.Proofs.YtfafhjglcaikoaaGreatDoor
open Go.RowKit
attribute [local go_sem] Oper.semAt_some

variable {W W' : World} {ea : Nat → Addr}
set_option maxRecDepth 100000 in
theorem seqN_any (v : Value) (K : List (Value × List Nd)) (w : World) (h : KdAt w v K) (h1 : 1 ≤ K.length) (hK : K.length < 4294967296) (hT : (kidL K).length < 4294967296) :
    Calls Tryz.prog 17 #[v] w fun e w' => ∃ v', e = .returned v' ∧ NdAt w' v' (seqP (K.map Prod.snd)) ∧ Below w.heap.size w w' := by
  rcases K with _ | ⟨p, _ | ⟨q, K⟩⟩
  · simp at h1
  · obtain ⟨g, o, cap, rfl, hlt, hc, hnd⟩ := h.at (j := 0) (p := p) rfl
    have HC : Hid (Calls Tryz.prog 35 #[p.1] w fun e w6 => ∃ v', e = .returned v' ∧ NdOwn w6 w.heap.size v' p.2 ∧ Below w.heap.size w w6) := cloneN_any p.1 p.2 w hnd (by simpa [kidL] using hT)
    obtain ⟨p1, p2⟩ := p
    obtain ⟨pa, pc, e1⟩ : ∃ pa pc, p1 = .slice pa p2.length pc := hnd.form
    subst e1
    clear h hnd hT h1 hK
    have c0 : w.cell? ⟨g, o, none⟩ = some (.slice pa p2.length pc) := hc
    clear hc
    go_enter Tryz.func17, Tryz.ntmps17
    go_wp2_with fail
    refine Calls.mono HC.out ?_
    rintro e w1 ⟨v', rfl, h2, h3⟩
    have H2 : Hid (NdOwn w1 w.heap.size v' p2 ∧ Below w.heap.size w w1) := ⟨h2, h3⟩
    clear h2 h3 HC
    go_wp2_with fail
    go_ret
    exact ⟨v', rfl, H2.out.1.at, H2.out.2⟩
  · refine (seq_many v (p :: q :: K) w h (by simp) hK hT).mono ?_
    rintro e w' ⟨v', a1, a2, a3⟩
    exact ⟨v', a1, a2.at, a3⟩
end Go.Proofs.YtfafhjglcaikoaaGreatDoor
/-! Plain: a tree whose nodes all fit may be. -/
namespace Go.Proofs.YtfafhjglcaikoaaGreatDoor

theorem askG_low (l : List Nd) (x : Nd) (dep : Int) (fin : Nat) : ∀ (f k at_ : Nat) (A : List Ak), (askG l x dep fin f k at_ A).2.length = A.length ∧ ∀ j, j < at_ → (askG l x dep fin f k at_ A).2[j]? = A[j]?
  | 0, _, _, _ => ⟨rfl, fun _ _ => rfl⟩
  | f + 1, k, at_, A => by
    unfold askG
    split
    · split
      · exact ⟨rfl, fun _ _ => rfl⟩
      · split
        · exact ⟨rfl, fun _ _ => rfl⟩
        · rename_i y hy
          split
          · exact ⟨by rw [List.length_set], fun j hj => List.getElem?_set_ne (by omega)⟩
          · have ih := askG_low l x dep fin f (k + 1) (at_ + (min y.size ((fin - at_ : Nat) : Int)).toNat) (A.set at_ ⟨fin, dep + 1, decide ((k : Int) = x.k - 1), wordAtB x.kind x.k k⟩)
            refine ⟨ih.1.trans (by rw [List.length_set]), fun j hj => (ih.2 j (by omega)).trans (List.getElem?_set_ne (by omega))⟩
    · exact ⟨rfl, fun _ _ => rfl⟩
theorem askG_high (l : List Nd) (x : Nd) (dep : Int) (fin : Nat) : ∀ (f k at_ : Nat) (A : List Ak) (j : Nat), fin ≤ j → (askG l x dep fin f k at_ A).2[j]? = A[j]?
  | 0, _, _, _, _, _ => rfl
  | f + 1, k, at_, A, j, hj => by
    unfold askG
    split
    · split
      · rfl
      · split
        · rfl
        · split
          · exact List.getElem?_set_ne (by omega)
          · exact (askG_high l x dep fin f _ _ _ j hj).trans (List.getElem?_set_ne (by omega))
    · rfl
/-- Every node of the tree fits its place: it is a word or a command as asked, and may be but for its children. -/
inductive Fits : Nat → Bool → List Nd → Prop
  | mk (d : Nat) (word : Bool) (kind n : Int) (s : Txt) (Ys : List (List Nd)) (h1 : isOneB kind word = true) (h2 : numB kind n = true) (h3 : strB kind n s = true) (h4 : cntB kind Ys.length = true)
      (h : ∀ (j : Nat) (Y : List Nd), Ys[j]? = some Y → Fits d (wordAtB kind Ys.length j) Y) : Fits (d + 1) word (newN kind n s Ys)
theorem Fits.head {d : Nat} {word : Bool} {Y : List Nd} (h : Fits d word Y) : ∃ y : Nd, Y[0]? = some y ∧ y.size = (Y.length : Int) ∧ 1 ≤ Y.length := by
  cases h with
  | mk d word kind n s Ys h1 h2 h3 h4 h => exact ⟨_, rfl, by simp [newN], by simp [newN]⟩
/-- What is asked of the children lies where they begin. -/
def AkFit (x : Nd) (dep : Int) (fin : Nat) (A : List Ak) : Nat → Nat → List (List Nd) → Prop
  | _, _, [] => True
  | k, at_, Y :: Ys => A[at_]? = some ⟨fin, dep + 1, decide ((k : Int) = x.k - 1), wordAtB x.kind x.k k⟩ ∧ AkFit x dep fin A (k + 1) (at_ + Y.length) Ys
theorem AkFit.kept (x : Nd) (dep : Int) (fin : Nat) (A B : List Ak) : ∀ (Ys : List (List Nd)) (k at_ : Nat), (∀ j, at_ ≤ j → B[j]? = A[j]?) → AkFit x dep fin A k at_ Ys → AkFit x dep fin B k at_ Ys
  | [], _, _, _, _ => trivial
  | Y :: Ys, k, at_, h, ⟨h1, h2⟩ => ⟨(h at_ (Nat.le_refl _)).trans h1, AkFit.kept x dep fin A B Ys (k + 1) (at_ + Y.length) (fun j hj => h j (by omega)) h2⟩
theorem head_at (l Y R : List Nd) (i : Nat) (y : Nd) (h : l.drop i = Y ++ R) (hy : Y[0]? = some y) : l[i]? = some y := by
  have h1 : (l.drop i)[0]? = some y := by
    rw [h]
    cases Y with
    | nil => cases hy
    | cons a Y => simpa using hy
  simpa using h1
theorem drop_more (l Y R : List Nd) (i : Nat) (h : l.drop i = Y ++ R) : l.drop (i + Y.length) = R := by
  rw [← List.drop_drop, h, List.drop_left]
theorem ask_kids (l : List Nd) (x : Nd) (dep : Int) (fin : Nat) : ∀ (Ys : List (List Nd)) (k at_ f : Nat) (A : List Ak) (R : List Nd), (∀ Y ∈ Ys, ∃ y : Nd, Y[0]? = some y ∧ y.size = (Y.length : Int) ∧ 1 ≤ Y.length) → x.k = ((k + Ys.length : Nat) : Int) → fin = at_ + Ys.flatten.length → l.drop at_ = Ys.flatten ++ R → Ys.length < f → A.length = l.length →
    (askG l x dep fin f k at_ A).1 = true ∧ AkFit x dep fin (askG l x dep fin f k at_ A).2 k at_ Ys
  | [], k, at_, f + 1, A, R, _, hk, _, _, _, _ => by
    have h1 : ¬ (k : Int) < x.k := by rw [hk]; simp
    unfold askG
    rw [if_neg h1]
    exact ⟨rfl, trivial⟩
  | Y :: Ys, k, at_, f + 1, A, R, hh, hk, hf, hd, hl, hA => by
    obtain ⟨y, hy0, hys, hy1⟩ := hh Y (by simp)
    rw [List.flatten_cons, List.append_assoc] at hd
    rw [List.flatten_cons, List.length_append] at hf
    simp only [List.length_cons] at hk hl
    have hly := head_at l Y (Ys.flatten ++ R) at_ y hd hy0
    have hal : at_ < l.length := (List.getElem?_eq_some_iff.1 hly).1
    have h1 : (k : Int) < x.k := by omega
    have h2 : ¬ fin ≤ at_ := by omega
    have h3 : ¬ y.size < 1 := by omega
    have h4 : (min y.size ((fin - at_ : Nat) : Int)).toNat = Y.length := by omega
    obtain ⟨A1, hA1⟩ : ∃ A1, A1 = A.set at_ ⟨fin, dep + 1, decide ((k : Int) = x.k - 1), wordAtB x.kind x.k k⟩ := ⟨_, rfl⟩
    have e : askG l x dep fin (f + 1) k at_ A = askG l x dep fin f (k + 1) (at_ + Y.length) A1 := by
      conv => lhs; unfold askG
      rw [if_pos h1, if_neg h2, hly]
      simp only
      rw [if_neg h3, h4, hA1]
    rw [e]
    have ih := ask_kids l x dep fin Ys (k + 1) (at_ + Y.length) f A1 R (fun Z hZ => hh Z (by simp [hZ])) (by omega) (by omega) (drop_more l Y _ at_ hd) (by omega) (by rw [hA1, List.length_set, hA])
    refine ⟨ih.1, ?_, ih.2⟩
    rw [(askG_low l x dep fin f (k + 1) (at_ + Y.length) A1).2 at_ (by omega), hA1, List.getElem?_set_self (by omega)]
/-- The program's walk goes over such a tree. -/
def GoSeg (l : List Nd) (d : Nat) (word : Bool) (Y : List Nd) : Prop := ∀ (i f : Nat) (A : List Ak) (R : List Nd) (a : Ak), l.drop i = Y ++ R → A.length = l.length → A[i]? = some a → a.word = word → a.dep + d ≤ 31 → (a.last = true → a.fin - i = Y.length) → (i : Int) + Y.length ≤ a.fin → i + f = l.length →
  ∃ A', goC l f i A = goC l (f - Y.length) (i + Y.length) A' ∧ A'.length = l.length ∧ ∀ j, i + Y.length ≤ j → A'[j]? = A[j]?
theorem go_kids (l : List Nd) (x : Nd) (dep : Int) (fin d : Nat) (hdep : dep + 1 + d ≤ 31) : ∀ (Ys : List (List Nd)) (k at_ f : Nat) (A : List Ak) (R : List Nd), (∀ (j : Nat) (Y : List Nd), Ys[j]? = some Y → GoSeg l d (wordAtB x.kind x.k ((k + j : Nat) : Int)) Y ∧ 1 ≤ Y.length) → x.k = ((k + Ys.length : Nat) : Int) → fin = at_ + Ys.flatten.length → l.drop at_ = Ys.flatten ++ R → A.length = l.length → at_ + f = l.length → AkFit x dep fin A k at_ Ys →
    ∃ A', goC l f at_ A = goC l (f - Ys.flatten.length) (at_ + Ys.flatten.length) A' ∧ A'.length = l.length ∧ ∀ j, at_ + Ys.flatten.length ≤ j → A'[j]? = A[j]?
  | [], k, at_, f, A, R, _, _, _, _, hA, _, _ => ⟨A, by simp, hA, fun _ _ => rfl⟩
  | Y :: Ys, k, at_, f, A, R, hg, hk, hf, hd, hA, hi, ⟨ha, hr⟩ => by
    rw [List.flatten_cons, List.append_assoc] at hd
    rw [List.flatten_cons, List.length_append] at hf ⊢
    simp only [List.length_cons] at hk
    obtain ⟨g0, g1⟩ := hg 0 Y rfl
    have hflat : (k : Int) = x.k - 1 → Ys.flatten.length = 0 := fun h => by
      have : Ys.length = 0 := by omega
      rw [List.eq_nil_of_length_eq_zero this]
      rfl
    obtain ⟨A1, e1, l1, k1⟩ := g0 at_ f A (Ys.flatten ++ R) _ hd hA ha (by simp) (by simp only; omega) (fun h => by have := hflat (of_decide_eq_true h); simp only; omega) (by simp only; omega) hi
    have hyl : at_ + Y.length ≤ l.length := by
      have := congrArg List.length hd
      rw [List.length_drop, List.length_append] at this
      omega
    obtain ⟨A2, e2, l2, k2⟩ := go_kids l x dep fin d hdep Ys (k + 1) (at_ + Y.length) (f - Y.length) A1 R (fun j Z hZ => by
      have := hg (j + 1) Z (by simpa using hZ)
      rw [show k + 1 + j = k + (j + 1) by omega]
      exact this) (by omega) (by omega) (drop_more l Y _ at_ hd) l1 (by omega) (AkFit.kept x dep fin A A1 Ys (k + 1) (at_ + Y.length) k1 hr)
    refine ⟨A2, ?_, l2, fun j hj => (k2 j (by omega)).trans (k1 j (by omega))⟩
    rw [e1, e2, Nat.sub_sub, Nat.add_assoc]
theorem flat_ge : ∀ Ys : List (List Nd), (∀ Y ∈ Ys, 1 ≤ Y.length) → Ys.length ≤ Ys.flatten.length
  | [], _ => by simp
  | Y :: Ys, h => by
    have h1 := h Y (by simp)
    have h2 := flat_ge Ys (fun Z hZ => h Z (by simp [hZ]))
    simp only [List.length_cons, List.flatten_cons, List.length_append]
    omega
theorem fits_go (l : List Nd) {d : Nat} {word : Bool} {Y : List Nd} (h : Fits d word Y) : GoSeg l d word Y := by
  induction h with
  | mk d word kind n s Ys h1 h2 h3 h4 hs ih =>
    intro i f A R a hd hA ha hw hdp hlast hroom hif
    have hY1 : ∀ Y ∈ Ys, ∃ y : Nd, Y[0]? = some y ∧ y.size = (Y.length : Int) ∧ 1 ≤ Y.length := fun Y hY => by
      obtain ⟨j, hj⟩ := List.mem_iff_getElem?.1 hY
      exact (hs j Y hj).head
    have hfl := flat_ge Ys (fun Y hY => (hY1 Y hY).choose_spec.2.2)
    have hlen : (newN kind n s Ys).length = Ys.flatten.length + 1 := by simp [newN]
    have hx : l[i]? = some ⟨kind, n, Ys.length, Ys.flatten.length + 1, s⟩ := head_at l _ R i _ hd rfl
    have hil : i < l.length := (List.getElem?_eq_some_iff.1 hx).1
    obtain ⟨f', rfl⟩ : ∃ f', f = f' + 1 := ⟨f - 1, by omega⟩
    have hd1 : l.drop (i + 1) = Ys.flatten ++ R := by
      rw [← List.drop_drop, hd]
      rfl
    rw [hlen] at hlast hroom ⊢
    have hmay : mayB ⟨kind, n, Ys.length, Ys.flatten.length + 1, s⟩ a i = true := by
      unfold mayB
      simp only [hw, h1, h2, h3, h4, Bool.true_and]
      unfold sizB
      have hz : ¬ ((Ys.length : Int) = 0 ∧ ((Ys.flatten.length : Int) + 1) ≠ 1) := by
        rintro ⟨z1, z2⟩
        have : Ys = [] := List.eq_nil_of_length_eq_zero (by omega)
        rw [this] at z2
        exact z2 rfl
      rw [if_neg hz]
      cases hla : a.last with
      | true =>
        have := hlast hla
        rw [if_pos rfl, decide_eq_true_eq]
        omega
      | false =>
        rw [if_neg (by decide), Bool.and_eq_true, decide_eq_true_eq, decide_eq_true_eq]
        omega
    have hfin : i + ((Ys.flatten.length : Int) + 1).toNat = i + 1 + Ys.flatten.length := by omega
    obtain ⟨q1, q2⟩ := ask_kids l ⟨kind, n, Ys.length, Ys.flatten.length + 1, s⟩ a.dep (i + 1 + Ys.flatten.length) Ys 0 (i + 1) (i + 1 + Ys.flatten.length + 1) A R hY1 (by simp) rfl hd1 (by omega) hA
    have hlow := askG_low l ⟨kind, n, Ys.length, Ys.flatten.length + 1, s⟩ a.dep (i + 1 + Ys.flatten.length) (i + 1 + Ys.flatten.length + 1) 0 (i + 1) A
    obtain ⟨A2, e2, l2, k2⟩ := go_kids l ⟨kind, n, Ys.length, Ys.flatten.length + 1, s⟩ a.dep (i + 1 + Ys.flatten.length) d (by omega) Ys 0 (i + 1) f' _ R (fun j Y hj => ⟨by rw [Nat.zero_add]; exact ih j Y hj, (hs j Y hj).head.choose_spec.2.2⟩) (by simp) rfl hd1 (hlow.1.trans hA) (by omega) q2
    refine ⟨A2, ?_, l2, fun j hj => (k2 j (by omega)).trans (askG_high l _ _ _ _ _ _ A j (by omega))⟩
    conv => lhs; unfold goC
    rw [hx, ha]
    simp only [hmay, if_true, hfin, q1]
    rw [if_neg (by omega), e2]
    congr 1 <;> omega
/-- A tree that fits may be. -/
theorem fits_fine (l : List Nd) (h : Fits 30 false l) (h1 : l.length ≤ 3000) : checkL l = .fine := by
  obtain ⟨_, _, _, h0⟩ := h.head
  obtain ⟨A', e, _, _⟩ := fits_go l h 0 l.length (aks l.length) [] ⟨l.length, 1, true, false⟩ (by simp) (aks_len _ (by omega)) rfl rfl (by simp) (fun _ => by simp) (by simp) (by omega)
  unfold checkL
  rw [if_neg (by omega), e, Nat.sub_self]
  rfl
end Go.Proofs.YtfafhjglcaikoaaGreatDoor
/-! Loops over lists of any length: plain. -/
namespace Go.Proofs.YtfafhjglcaikoaaGreatDoor
open Go.RowKit

/-! ### children -/
def Hd (X : List Nd) : Prop := ∃ x r, X = x :: r ∧ x.size = (X.length : Int)
theorem hd_new (kind n : Int) (s : Txt) (Ls : List (List Nd)) : Hd (newN kind n s Ls) := ⟨_, _, rfl, by simp [newN]⟩
theorem kidsF_flat : ∀ (Ls : List (List Nd)) (n : Nat), (∀ X ∈ Ls, Hd X) → Ls.flatten.length ≤ n → kidsF n Ls.flatten = some Ls
  | [], n, _, _ => by cases n <;> rfl
  | X :: Ls, n, h, hn => by
    obtain ⟨x, r, e, hs⟩ := h X (by simp)
    subst e
    cases n with
    | zero => simp at hn
    | succ n =>
      simp only [List.flatten_cons, List.length_append, List.length_cons] at hn hs
      have hl : x.size.toNat = (x :: r).length := by simp only [List.length_cons]; omega
      have e : (x :: (r ++ Ls.flatten)) = (x :: r) ++ Ls.flatten := rfl
      show (if 1 ≤ x.size ∧ x.size ≤ ((r ++ Ls.flatten).length : Int) + 1 then (kidsF n ((x :: (r ++ Ls.flatten)).drop x.size.toNat)).map (fun t => (x :: (r ++ Ls.flatten)).take x.size.toNat :: t) else none) = _
      rw [if_pos ⟨by omega, by simp only [List.length_append]; omega⟩, hl, e, List.drop_left, List.take_left, kidsF_flat Ls n (fun Y hY => h Y (by simp [hY])) (by omega)]
      rfl
theorem kidsP_new (kind n : Int) (s : Txt) (Ls : List (List Nd)) (h : ∀ X ∈ Ls, Hd X) (h1 : Ls.length ≤ 100000) (h2 : Ls.flatten.length ≤ 100000) : kidsP (newN kind n s Ls) = some Ls := by
  show (if 0 ≤ (Ls.length : Int) ∧ (Ls.length : Int) ≤ 100000 ∧ Ls.flatten.length ≤ 100000 then kidsF Ls.flatten.length Ls.flatten else none) = _
  rw [if_pos ⟨by omega, by omega, h2⟩]
  exact kidsF_flat Ls _ h (Nat.le_refl _)

/-! ### words -/
theorem ev_lit (n : Nat) (t : Txt) (s : Sh) : (ev (n + 1)).2 (lN9 t) s = some (s, [t], .ok) := rfl
theorem fits_small {l : List Txt} (h1 : l.length ≤ 100) (h2 : ∀ t ∈ l, t.length ≤ 2000) : fitsB l = true := (fitsB_iff l).2 ⟨h1, h2⟩
theorem cat_lits (n : Nat) (s : Sh) : ∀ (l m : List Txt), (m ++ l).length ≤ 100 → (∀ t ∈ m ++ l, t.length ≤ 2000) → catS (ev (n + 1)).2 100 (l.map lN9) s m = some (s, m ++ l, .ok)
  | [], m, _, _ => by rw [List.append_nil]; rfl
  | t :: l, m, h1, h2 => by
    have h3 : (m ++ [t] ++ l).length ≤ 100 := by simpa using h1
    have h4 : ∀ u ∈ m ++ [t] ++ l, u.length ≤ 2000 := by simpa using h2
    have f1 : fitsB m = true := fits_small (by simp at h1; omega) (fun u hu => h2 u (by simp [hu]))
    have f2 : fitsB [t] = true := fits_small (by simp) (fun u hu => h2 u (by simp at hu; simp [hu]))
    have f3 : fitsB (m ++ [t]) = true := fits_small (by simp at h1 ⊢; omega) (fun u hu => h4 u (by simp at hu ⊢; rcases hu with h | h <;> simp [h]))
    have f4 : ¬ 100 < (m ++ [t]).length := by simp at h1 ⊢; omega
    have ih := cat_lits n s l (m ++ [t]) h3 h4
    rw [List.append_assoc] at ih
    rw [List.map_cons, catS, ev_lit]
    simp only [f1, f2, f3, Bool.and_self, if_true, if_neg f4]
    exact ih
/-! ### commands -/
abbrev tPut : Txt := [112, 117, 116]
/-! ### a loop over items -/
def F0 : Vps := [(star, [])]
/-! ### a loop over lines -/
/-! ### which programs may be -/
theorem fit_lit (d : Nat) {t : Txt} (h : t.length ≤ 2000) : Fits (d + 1) true (lN9 t) := Fits.mk d true 1 0 t [] rfl rfl (by simp [strB, h]) rfl (by simp)
theorem fit_two {d : Nat} {word : Bool} {kind n : Int} {s : Txt} {X Y : List Nd} (h1 : isOneB kind word = true) (h2 : numB kind n = true) (h3 : strB kind n s = true) (h4 : cntB kind 2 = true) (hX : Fits d (wordAtB kind 2 0) X) (hY : Fits d (wordAtB kind 2 1) Y) : Fits (d + 1) word (newN kind n s [X, Y]) :=
  Fits.mk d word kind n s [X, Y] h1 h2 h3 h4 (by
    intro j Z hZ
    match j, hZ with
    | 0, hZ => cases hZ; exact hX
    | 1, hZ => cases hZ; exact hY
    | j + 2, hZ => simp at hZ)
theorem fit_call2 (d : Nat) {a b : Txt} (ha : a.length ≤ 2000) (hb : b.length ≤ 2000) : Fits (d + 2) false (callN [a, b]) := fit_two rfl rfl rfl rfl (fit_lit d ha) (fit_lit d hb)
end Go.Proofs.YtfafhjglcaikoaaGreatDoor
/-! What is said is heard: plain. -/
namespace Go.Proofs.YtfafhjglcaikoaaGreatDoor
open Go.RowKit

/-- A run with files. -/
def mkD (D : Fls) (E : List Ev) (st dp : Nat) (hd : Txt) (ct : Option Txt) (fl : Txt) : Sh := ⟨F0, [], D, [], E, st, 1500, dp, 25, hd, ct, fl, 0⟩
structure OkD (D : Fls) (E : List Ev) (st dp : Nat) (hd : Txt) (ct : Option Txt) (fl : Txt) : Prop where
  d1 : D.length ≤ 2
  d2 : ∀ p ∈ D, p.1.length ≤ 10 ∧ p.2.length ≤ 2000
  e : E.length ≤ 100
  st : st ≤ 100
  dp : dp ≤ 20
  hd : hd.length ≤ 2000
  ct : ∀ t, ct = some t → t.length ≤ 2000
  fl : fl.length ≤ 10
variable {D : Fls} {E : List Ev} {st dp : Nat} {hd fl : Txt} {ct : Option Txt}
theorem OkD.ok (h : OkD D E st dp hd ct fl) : okB (mkD D E st dp hd ct fl) = true := by
  have h1 := h.d1
  have h2 : (D.all fun p => decide (p.1.length < 100000) && decide (p.2.length < 100000)) = true := by
    rw [List.all_eq_true]
    intro p hp
    have := h.d2 p hp
    rw [Bool.and_eq_true, decide_eq_true_eq, decide_eq_true_eq]
    omega
  have h3 := h.e
  have h4 := h.st
  have h5 := h.dp
  have h6 := h.hd
  have h7 := h.fl
  have g1 : decide (D.length < 100000) = true := decide_eq_true (by omega)
  have g2 : decide (E.length < 1000000) = true := decide_eq_true (by omega)
  have g3 : decide (hd.length < 100000) = true := decide_eq_true (by omega)
  have g4 : decide (fl.length < 100000) = true := decide_eq_true (by omega)
  have g5 : decide (st ≤ 1000000) = true := decide_eq_true (by omega)
  have g6 : decide (dp ≤ 1000000) = true := decide_eq_true (by omega)
  cases hc : ct with
  | none =>
    unfold okB
    simp only [Bool.and_eq_true]
    refine ⟨⟨⟨⟨⟨⟨⟨⟨⟨⟨⟨⟨⟨rfl, rfl⟩, g1⟩, rfl⟩, g2⟩, h2⟩, rfl⟩, g3⟩, g4⟩, g5⟩, rfl⟩, g6⟩, rfl⟩, rfl⟩
  | some t =>
    have h8 : decide (t.length ≤ 2000) = true := decide_eq_true (h.ct t hc)
    unfold okB
    simp only [Bool.and_eq_true]
    refine ⟨⟨⟨⟨⟨⟨⟨⟨⟨⟨⟨⟨⟨rfl, rfl⟩, g1⟩, rfl⟩, g2⟩, h2⟩, rfl⟩, g3⟩, g4⟩, g5⟩, rfl⟩, g6⟩, rfl⟩, h8⟩
theorem OkD.step (h : OkD D E st dp hd ct fl) (h2 : st < 100) : OkD D E (st + 1) dp hd ct fl := ⟨h.d1, h.d2, h.e, h2, h.dp, h.hd, h.ct, h.fl⟩
theorem step_mkD (h : st ≤ 100) : stepP (mkD D E st dp hd ct fl) = (mkD D E (st + 1) dp hd ct fl, Xr.ok) := by
  have : ¬ st = 1500 := by omega
  show (if st = 1500 then _ else _) = _
  rw [if_neg this]
  rfl
theorem cmdD (n : Nat) (kind k : Int) (t : Txt) (Ls : List (List Nd)) (h : OkD D E st dp hd ct fl) (ht : t.length < 100000) (hk : kidsP (newN kind k t Ls) = some Ls) (hs : stepsB kind = true) :
    (ev (n + 1)).1 (newN kind k t Ls) (mkD D E st dp hd ct fl) = bodyS (ev n).1 (ev n).2 n ⟨kind, k, Ls.length, Ls.flatten.length + 1, t⟩ Ls (mkD D E (st + 1) dp hd ct fl) := by
  show cmdS _ _ _ (newN kind k t Ls) _ = _
  unfold cmdS
  rw [hk]
  show (if okB (mkD D E st dp hd ct fl) && decide (t.length < 100000) then (if stepsB kind then _ else _) else none) = _
  rw [h.ok, decide_eq_true ht, hs, Bool.and_self, if_pos rfl, if_pos rfl, step_mkD h.st]
theorem cmdD0 (n : Nat) (kind k : Int) (t : Txt) (Ls : List (List Nd)) (h : OkD D E st dp hd ct fl) (ht : t.length < 100000) (hk : kidsP (newN kind k t Ls) = some Ls) (hs : stepsB kind = false) :
    (ev (n + 1)).1 (newN kind k t Ls) (mkD D E st dp hd ct fl) = bodyS (ev n).1 (ev n).2 n ⟨kind, k, Ls.length, Ls.flatten.length + 1, t⟩ Ls (mkD D E st dp hd ct fl) := by
  show cmdS _ _ _ (newN kind k t Ls) _ = _
  unfold cmdS
  rw [hk]
  show (if okB (mkD D E st dp hd ct fl) && decide (t.length < 100000) then (if stepsB kind then _ else _) else none) = _
  rw [h.ok, decide_eq_true ht, hs, Bool.and_self, if_pos rfl]
  rfl
theorem callD (n : Nat) (nm : Txt) (l : List Txt) (o : Oc) (h : OkD D E st dp hd ct fl) (h2 : st < 100) (hn : l.length ≤ 5) (hl : ∀ t ∈ nm :: l, t.length ≤ 2000) (ho : doP nm hd l = some (some o)) :
    (ev (n + 2)).1 (callN (nm :: l)) (mkD D E st dp hd ct fl) = some (followP (mkD D E (st + 1) dp hd ct fl) o) := by
  have hk : kidsP (newN 21 0 [] ((nm :: l).map lN9)) = some ((nm :: l).map lN9) := kidsP_new _ _ _ _ (fun X hX => by
    obtain ⟨t, _, rfl⟩ := List.mem_map.1 hX
    exact hd_new _ _ _ _) (by simp; omega) (by rw [lits_len]; simp; omega)
  show (ev (n + 1 + 1)).1 (newN 21 0 [] ((nm :: l).map lN9)) _ = _
  rw [cmdD (n + 1) 21 0 [] _ h (by decide) hk rfl]
  show callS (ev (n + 1)).1 (ev (n + 1)).2 ((nm :: l).map lN9) _ = _
  unfold callS
  rw [cat_lits n _ (nm :: l) [] (by simp; omega) (by simpa using hl)]
  show (if okB (mkD D E (st + 1) dp hd ct fl) then (if hasM [] nm then _ else (match doP nm hd l with
    | none => none
    | some (some o) => some (followP (mkD D E (st + 1) dp hd ct fl) o)
    | some none => some (execP (mkD D E (st + 1) dp hd ct fl) nm l))) else none) = _
  rw [(h.step h2).ok, if_pos rfl, ho]
  rfl
def wE (d : Txt) : List Ev := if d.isEmpty then [] else [⟨3, 0, [], d, []⟩]
theorem follow_ct (t d rest : Txt) (h : t.length + d.length ≤ 2000) : followP (mkD D E st dp hd (some t) fl) ⟨d, rest, 0, [], [], false⟩ = (mkD D E st dp rest (some (t ++ d)) fl, 0, Xr.ok) := by
  have h1 : ¬ (2000 : Int) - t.length < d.length := by omega
  simp [followP, sayP, mkD, h1]
theorem follow_out (d rest : Txt) : followP (mkD D E st dp hd none []) ⟨d, rest, 0, [], [], false⟩ = (mkD D (E ++ wE d) st dp rest none [], 0, Xr.ok) := by
  simp [followP, sayP, mkD, writeF, writeE, writeB, wE]
theorem follow_file (d rest : Txt) (h : writeB D fl d = true) : followP (mkD D E st dp hd none fl) ⟨d, rest, 0, [], [], false⟩ = (mkD (writeF D fl d) (E ++ writeE D fl d) st dp rest none fl, 0, Xr.ok) := by
  simp [followP, sayP, mkD, h]
theorem join_one (s : Txt) : Lib.join [s] [32] = s := by simp [Lib.join]
theorem doP_put (hd s : Txt) : doP tPut hd [s] = some (some ⟨s, hd, 0, [], [], false⟩) := by
  show some (some (Oc.mk (Lib.join [s] [32]) hd 0 [] [] false)) = _
  rw [join_one]
theorem doP_cat (hd : Txt) : doP tCat hd [] = some (some ⟨hd, [], 0, [], [], false⟩) := rfl
abbrev putN (s : Txt) : List Nd := callN [tPut, s]
abbrev catN : List Nd := callN [tCat]
theorem put_ct (n : Nat) (s t : Txt) (h : OkD D E st dp hd (some t) fl) (h2 : st < 100) (hl : t.length + s.length ≤ 2000) : (ev (n + 2)).1 (putN s) (mkD D E st dp hd (some t) fl) = some (mkD D E (st + 1) dp hd (some (t ++ s)) fl, 0, Xr.ok) := by
  rw [callD n tPut [s] _ h h2 (by simp) (by intro u hu; simp only [List.mem_cons, List.not_mem_nil, or_false] at hu; rcases hu with rfl | rfl <;> first | decide | omega) (doP_put hd s), follow_ct _ _ _ hl]
theorem put_file (n : Nat) (s : Txt) (h : OkD D E st dp hd none fl) (h2 : st < 100) (hl : s.length ≤ 2000) (hw : writeB D fl s = true) : (ev (n + 2)).1 (putN s) (mkD D E st dp hd none fl) = some (mkD (writeF D fl s) (E ++ writeE D fl s) (st + 1) dp hd none fl, 0, Xr.ok) := by
  rw [callD n tPut [s] _ h h2 (by simp) (by intro u hu; simp only [List.mem_cons, List.not_mem_nil, or_false] at hu; rcases hu with rfl | rfl <;> first | decide | omega) (doP_put hd s), follow_file _ _ hw]
theorem cat_ct (n : Nat) (t : Txt) (h : OkD D E st dp hd (some t) fl) (h2 : st < 100) (hl : t.length + hd.length ≤ 2000) : (ev (n + 2)).1 catN (mkD D E st dp hd (some t) fl) = some (mkD D E (st + 1) dp [] (some (t ++ hd)) fl, 0, Xr.ok) := by
  rw [callD n tCat [] _ h h2 (by simp) (by intro u hu; simp only [List.mem_cons, List.not_mem_nil, or_false] at hu; rw [hu]; decide) (doP_cat hd), follow_ct _ _ _ hl]
theorem cat_out (n : Nat) (h : OkD D E st dp hd none []) (h2 : st < 100) : (ev (n + 2)).1 catN (mkD D E st dp hd none []) = some (mkD D (E ++ wE hd) (st + 1) dp [] none [], 0, Xr.ok) := by
  rw [callD n tCat [] _ h h2 (by simp) (by intro u hu; simp only [List.mem_cons, List.not_mem_nil, or_false] at hu; rw [hu]; decide) (doP_cat hd), follow_out]

/-! ### what is caught -/
theorem catch_put (n : Nat) (s : Txt) (hc : ct = none) (hf : fl = []) (h : OkD D E st dp hd ct fl) (h2 : st < 100) (hl : s.length ≤ 2000) : catchS (ev (n + 2)).1 (putN s) (mkD D E st dp hd ct fl) = some (mkD D E (st + 1) dp hd none [], s, Xr.ok) := by
  subst hc hf
  have h9 : OkD D E st dp hd (some []) [] := ⟨h.d1, h.d2, h.e, h.st, h.dp, h.hd, fun t ht => by cases ht; simp, h.fl⟩
  have e := put_ct n s [] h9 h2 (by simpa using hl)
  rw [List.nil_append] at e
  show (match sayingS (ev (n + 2)).1 (some []) [] (putN s) (mkD D E st dp hd none []) with
    | none => none
    | some ((s1, _, Xr.ok), some t) => some (s1, t, Xr.ok)
    | some ((_, _, Xr.ok), none) => none
    | some ((s1, _, e), _) => some (s1, [], e)) = _
  have e2 : sayingS (ev (n + 2)).1 (some []) [] (putN s) (mkD D E st dp hd none []) = some ((mkD D E (st + 1) dp hd none [], 0, Xr.ok), some s) := by
    show (match (ev (n + 2)).1 (putN s) (mkD D E st dp hd (some []) []) with
      | none => none
      | some (s1, st, Xr.ok) => some (({ s1 with ct := none, fl := [] }, st, Xr.ok), s1.ct)
      | some (s1, _, e) => some ((s1, 0, e), none)) = _
    rw [e]
    rfl
  rw [e2]
theorem catch_cat (n : Nat) (hc : ct = none) (hf : fl = []) (h : OkD D E st dp hd ct fl) (h2 : st < 100) : catchS (ev (n + 2)).1 catN (mkD D E st dp hd ct fl) = some (mkD D E (st + 1) dp [] none [], hd, Xr.ok) := by
  subst hc hf
  have h9 : OkD D E st dp hd (some []) [] := ⟨h.d1, h.d2, h.e, h.st, h.dp, h.hd, fun t ht => by cases ht; simp, h.fl⟩
  have e := cat_ct n [] h9 h2 (by have := h.hd; simpa using this)
  rw [List.nil_append] at e
  show (match sayingS (ev (n + 2)).1 (some []) [] catN (mkD D E st dp hd none []) with
    | none => none
    | some ((s1, _, Xr.ok), some t) => some (s1, t, Xr.ok)
    | some ((_, _, Xr.ok), none) => none
    | some ((s1, _, e), _) => some (s1, [], e)) = _
  have e2 : sayingS (ev (n + 2)).1 (some []) [] catN (mkD D E st dp hd none []) = some ((mkD D E (st + 1) dp [] none [], 0, Xr.ok), some hd) := by
    show (match (ev (n + 2)).1 catN (mkD D E st dp hd (some []) []) with
      | none => none
      | some (s1, st, Xr.ok) => some (({ s1 with ct := none, fl := [] }, st, Xr.ok), s1.ct)
      | some (s1, _, e) => some ((s1, 0, e), none)) = _
    rw [e]
    rfl
  rw [e2]
/-- The world that is laid. -/
def dS (s : Txt) : Fls := [([102], s)]
theorem okD0 {s : Txt} (hl : s.length ≤ 500) {E : List Ev} {st dp : Nat} {hd : Txt} (hE : E.length ≤ 100) (hs : st ≤ 100) (hp : dp ≤ 20) (hh : hd.length ≤ 2000) : OkD (dS s) E st dp hd none [] :=
  ⟨by simp [dS], by intro p hp; simp only [dS, List.mem_singleton] at hp; subst hp; simp; omega, hE, hs, hp, hh, (fun t ht => by cases ht), by simp⟩
/-! ### a pipe -/
def pipeN (s : Txt) : List Nd := newN 32 0 [] [putN s, catN, catN]
theorem wE_len (d : Txt) : (wE d).length ≤ 1 := by unfold wE; split <;> simp
theorem kids_pipe (s : Txt) : kidsP (pipeN s) = some [putN s, catN, catN] := kidsP_new _ _ _ _ (by
  intro X hX
  simp only [List.mem_cons, List.not_mem_nil, or_false] at hX
  rcases hX with rfl | rfl | rfl <;> exact hd_new _ _ _ _) (by simp) (by simp [newN])
theorem ev_pipe (n : Nat) (s : Txt) (hl : s.length ≤ 500) : (ev (n + 3)).1 (pipeN s) (mkD (dS s) [] 0 0 [] none []) = some (mkD (dS s) ([⟨4, 3, [], [], []⟩] ++ wE s ++ [⟨6, 3, [], [], []⟩]) 4 0 [] none [], 0, Xr.ok) := by
  unfold pipeN
  rw [cmdD (n + 2) 32 0 [] _ (okD0 hl (by simp) (by omega) (by omega) (by simp)) (by decide) (kids_pipe s) rfl]
  show pipeS (ev (n + 2)).1 [putN s, catN, catN] (mkD (dS s) [] 1 0 [] none []) = _
  unfold pipeS
  have hw := wE_len s
  rw [(okD0 hl (E := []) (st := 1) (dp := 0) (hd := []) (by simp) (by omega) (by omega) (by simp)).ok, if_pos rfl]
  have e1 : thruAll (ev (n + 2)).1 [putN s, catN, catN] (markP 4 (3 : Nat) (mkD (dS s) [] 1 0 [] none [])) = some (mkD (dS s) ([⟨4, 3, [], [], []⟩] ++ wE s) 4 0 [] none [], 0, Xr.ok) := by
    show (match catchS (ev (n + 2)).1 (putN s) (mkD (dS s) [⟨4, 3, [], [], []⟩] 1 0 [] none []) with
      | none => none
      | some (s1, t, Xr.ok) => (match thruS (ev (n + 2)).1 [catN] s1 t with
        | none => none
        | some (s2, u, Xr.ok) => hearS (ev (n + 2)).1 u catN { s2 with hd := s1.hd }
        | some (s2, _, e) => some (s2, 0, e))
      | some (s1, _, e) => some (s1, 0, e)) = _
    rw [catch_put n s rfl rfl (okD0 hl (by simp) (by omega) (by omega) (by simp)) (by omega) (by omega)]
    dsimp only
    have e2 : thruS (ev (n + 2)).1 [catN] (mkD (dS s) [⟨4, 3, [], [], []⟩] 2 0 [] none []) s = some (mkD (dS s) [⟨4, 3, [], [], []⟩] 3 0 [] none [], s, Xr.ok) := by
      show (match catchS (ev (n + 2)).1 catN (mkD (dS s) [⟨4, 3, [], [], []⟩] 2 0 s none []) with
        | none => none
        | some (s1, t, Xr.ok) => thruS (ev (n + 2)).1 [] s1 t
        | some (s1, _, e) => some (s1, [], e)) = _
      rw [catch_cat n rfl rfl (okD0 hl (by simp) (by omega) (by omega) (by omega)) (by omega)]
      rfl
    rw [e2]
    dsimp only
    show (match (ev (n + 2)).1 catN (mkD (dS s) [⟨4, 3, [], [], []⟩] 3 0 s none []) with
      | none => none
      | some (s1, st, Xr.ok) => some ({ s1 with hd := [] }, st, Xr.ok)
      | some (s1, _, e) => some (s1, 0, e)) = _
    rw [cat_out n (okD0 hl (by simp) (by omega) (by omega) (by omega)) (by omega)]
    rfl
  show (match thruAll (ev (n + 2)).1 [putN s, catN, catN] (markP 4 (3 : Nat) (mkD (dS s) [] 1 0 [] none [])) with
    | none => none
    | some (s1, st, Xr.ok) => if okB s1 then some (markP 6 (3 : Nat) s1, st, Xr.ok) else none
    | some (s1, _, e) => some (s1, 0, e)) = _
  rw [e1]
  dsimp only
  rw [(okD0 hl (by simp; omega) (by omega) (by omega) (by simp)).ok, if_pos rfl]
  rfl
/-! ### a file, a text -/
def fileN : List Nd := newN 33 1 [] [lN9 [102], catN]
def hereN (s : Txt) : List Nd := newN 34 0 [] [lN9 s, catN]
theorem flat_lit (n : Nat) (t : Txt) (s : Sh) (h : t.length ≤ 2000) : flatS (ev (n + 1)).2 (lN9 t) s = some (s, t, Xr.ok) := by
  unfold flatS
  rw [ev_lit]
  have h1 : flatB [t] = some [Lib.join [t] [32]] := if_pos (by simp [flatSum]; omega)
  simp only [fits_small (l := [t]) (by simp) (by simpa using h), if_true, h1, join_one]
theorem kids_file : kidsP fileN = some [lN9 [102], catN] := by kernel_rfl
theorem ev_file (n : Nat) (s : Txt) (hl : s.length ≤ 500) : (ev (n + 3)).1 fileN (mkD (dS s) [] 0 0 [] none []) = some (mkD (dS s) ([⟨5, 1, [], [], []⟩, ⟨2, 1, [102], [], []⟩] ++ wE s ++ [⟨6, 1, [], [], []⟩]) 2 0 [] none [], 0, Xr.ok) := by
  unfold fileN
  rw [cmdD (n + 2) 33 1 [] _ (okD0 hl (by simp) (by omega) (by omega) (by simp)) (by decide) kids_file rfl]
  show redirS (ev (n + 2)).1 (ev (n + 2)).2 1 (lN9 [102]) catN (mkD (dS s) [] 1 0 [] none []) = _
  unfold redirS
  have hw := wE_len s
  rw [flat_lit (n + 1) [102] _ (by decide)]
  dsimp only
  rw [if_neg (by simp), (okD0 hl (E := []) (st := 1) (dp := 0) (hd := []) (by simp) (by omega) (by omega) (by simp)).ok, if_pos rfl]
  have e1 : openedS (ev (n + 2)).1 [102] 1 catN (markP 5 1 (mkD (dS s) [] 1 0 [] none [])) = some (mkD (dS s) ([⟨5, 1, [], [], []⟩, ⟨2, 1, [102], [], []⟩] ++ wE s) 2 0 [] none [], 0, Xr.ok) := by
    show (match (ev (n + 2)).1 catN (mkD (dS s) [⟨5, 1, [], [], []⟩, ⟨2, 1, [102], [], []⟩] 1 0 s none []) with
      | none => none
      | some (s1, st, Xr.ok) => some ({ s1 with hd := [] }, st, Xr.ok)
      | some (s1, _, e) => some (s1, 0, e)) = _
    rw [cat_out n (okD0 hl (by simp) (by omega) (by omega) (by omega)) (by omega)]
    rfl
  rw [e1]
  dsimp only
  rw [(okD0 hl (by simp; omega) (by omega) (by omega) (by simp)).ok, if_pos rfl]
  rfl
theorem kids_here (s : Txt) : kidsP (hereN s) = some [lN9 s, catN] := kidsP_new _ _ _ _ (by
  intro X hX
  simp only [List.mem_cons, List.not_mem_nil, or_false] at hX
  rcases hX with rfl | rfl <;> exact hd_new _ _ _ _) (by simp) (by simp [newN])
theorem ev_here (n : Nat) (s : Txt) (hl : s.length ≤ 500) : (ev (n + 3)).1 (hereN s) (mkD (dS s) [] 0 0 [] none []) = some (mkD (dS s) ([⟨5, 1, [], [], []⟩] ++ wE s ++ [⟨6, 1, [], [], []⟩]) 2 0 [] none [], 0, Xr.ok) := by
  unfold hereN
  rw [cmdD (n + 2) 34 0 [] _ (okD0 hl (by simp) (by omega) (by omega) (by simp)) (by decide) (kids_here s) rfl]
  show hereS (ev (n + 2)).1 (ev (n + 2)).2 (lN9 s) catN (mkD (dS s) [] 1 0 [] none []) = _
  unfold hereS
  have hw := wE_len s
  rw [flat_lit (n + 1) s _ (by omega)]
  dsimp only
  rw [(okD0 hl (E := []) (st := 1) (dp := 0) (hd := []) (by simp) (by omega) (by omega) (by simp)).ok, if_pos rfl]
  have e1 : hearS (ev (n + 2)).1 s catN (markP 5 1 (mkD (dS s) [] 1 0 [] none [])) = some (mkD (dS s) ([⟨5, 1, [], [], []⟩] ++ wE s) 2 0 [] none [], 0, Xr.ok) := by
    show (match (ev (n + 2)).1 catN (mkD (dS s) [⟨5, 1, [], [], []⟩] 1 0 s none []) with
      | none => none
      | some (s1, st, Xr.ok) => some ({ s1 with hd := [] }, st, Xr.ok)
      | some (s1, _, e) => some (s1, 0, e)) = _
    rw [cat_out n (okD0 hl (by simp) (by omega) (by omega) (by omega)) (by omega)]
    rfl
  rw [e1]
  dsimp only
  rw [(okD0 hl (by simp; omega) (by omega) (by omega) (by simp)).ok, if_pos rfl]
  rfl
/-! ### a substitution -/
def subN (s : Txt) : List Nd := newN 21 0 [] [lN9 tPut, newN 12 0 [] [putN s]]
theorem kids_sub1 (s : Txt) : kidsP (newN 12 0 [] [putN s]) = some [putN s] := kidsP_new _ _ _ _ (by
  intro X hX
  rw [List.mem_singleton] at hX
  subst hX
  exact hd_new _ _ _ _) (by simp) (by simp [newN])
theorem kids_sub (s : Txt) : kidsP (subN s) = some [lN9 tPut, newN 12 0 [] [putN s]] := kidsP_new _ _ _ _ (by
  intro X hX
  simp only [List.mem_cons, List.not_mem_nil, or_false] at hX
  rcases hX with rfl | rfl <;> exact hd_new _ _ _ _) (by simp) (by simp [newN])
theorem trim_len (s : Txt) : (Lib.trimRightB s 10).length ≤ s.length := by
  unfold Lib.trimRightB
  rw [List.length_reverse]
  have := (List.dropWhile_sublist (fun x => x == (10 : UInt8)) (l := s.reverse)).length_le
  rw [List.length_reverse] at this
  exact this
theorem ev_sub (n : Nat) (s : Txt) (hl : s.length ≤ 500) : (ev (n + 4)).1 (subN s) (mkD (dS s) [] 0 0 [] none []) = some (mkD (dS s) ([] ++ wE (Lib.trimRightB s 10)) 3 0 [] none [], 0, Xr.ok) := by
  unfold subN
  rw [cmdD (n + 3) 21 0 [] _ (okD0 hl (by simp) (by omega) (by omega) (by simp)) (by decide) (kids_sub s) rfl]
  show callS (ev (n + 3)).1 (ev (n + 3)).2 [lN9 tPut, newN 12 0 [] [putN s]] (mkD (dS s) [] 1 0 [] none []) = _
  have ht := trim_len s
  have ok1 := (okD0 hl (E := []) (st := 1) (dp := 0) (hd := []) (by simp) (by omega) (by omega) (by simp)).ok
  have ok3 := (okD0 hl (E := []) (st := 3) (dp := 0) (hd := []) (by simp) (by omega) (by omega) (by simp)).ok
  have e1 : (ev (n + 3)).2 (newN 12 0 [] [putN s]) (mkD (dS s) [] 1 0 [] none []) = some (mkD (dS s) [] 3 0 [] none [], [Lib.trimRightB s 10], Xr.ok) := by
    show (match kidsP (newN 12 0 [] [putN s]) with
      | none => none
      | some ks => (match ks with
        | [] => none
        | k0 :: _ => if okB (mkD (dS s) [] 1 0 [] none []) then subS (ev (n + 2)).1 k0 (mkD (dS s) [] 1 0 [] none []) else none)) = _
    rw [kids_sub1]
    dsimp only
    rw [ok1, if_pos rfl]
    show (match catchS (ev (n + 2)).1 (putN s) (mkD (dS s) [] 2 1 [] none []) with
      | none => none
      | some (s1, t, Xr.ok) => if 1 ≤ s1.dp ∧ s1.dp ≤ 1000000 ∧ t.length < 100000 then some ({ s1 with dp := s1.dp - 1 }, [Lib.trimRightB t 10], Xr.ok) else none
      | some (s1, _, e) => some (s1, [], e)) = _
    rw [catch_put n s rfl rfl (okD0 hl (by simp) (by omega) (by omega) (by simp)) (by omega) (by omega)]
    dsimp only
    rw [if_pos ⟨Nat.le_refl 1, (by show (1 : Nat) ≤ 1000000; omega), (by omega)⟩]
    rfl
  have hc : catS (ev (n + 3)).2 100 [lN9 tPut, newN 12 0 [] [putN s]] (mkD (dS s) [] 1 0 [] none []) [] = some (mkD (dS s) [] 3 0 [] none [], [tPut, Lib.trimRightB s 10], Xr.ok) := by
    rw [catS, ev_lit]
    simp only [fits_nil, show fitsB [tPut] = true from rfl, Bool.and_self, if_true, List.nil_append, show ¬ 100 < [tPut].length by decide, if_false]
    rw [catS, e1]
    have f1 : fitsB [Lib.trimRightB s 10] = true := fits_small (by simp) (by simp; omega)
    have f2 : fitsB ([tPut] ++ [Lib.trimRightB s 10]) = true := fits_small (by simp) (by simp; omega)
    simp only [show fitsB [tPut] = true from rfl, f1, f2, Bool.and_self, if_true, show ¬ 100 < ([tPut] ++ [Lib.trimRightB s 10]).length by simp, if_false]
    rfl
  unfold callS
  rw [hc]
  show (if okB (mkD (dS s) [] 3 0 [] none []) then (match doP tPut [] [Lib.trimRightB s 10] with
    | none => none
    | some (some o) => some (followP (mkD (dS s) [] 3 0 [] none []) o)
    | some none => some (execP (mkD (dS s) [] 3 0 [] none []) tPut [Lib.trimRightB s 10])) else none) = _
  rw [ok3, if_pos rfl, doP_put]
  dsimp only
  rw [follow_out]
/-! ### what is written -/
def dG (s u : Txt) : Fls := [([102], s), ([103], u)]
theorem okDG {s u : Txt} (hl : s.length ≤ 500) (hu : u.length ≤ 1000) {E : List Ev} {st dp : Nat} {hd fl : Txt} (hE : E.length ≤ 100) (hs : st ≤ 100) (hp : dp ≤ 20) (hh : hd.length ≤ 2000) (hf : fl.length ≤ 10) : OkD (dG s u) E st dp hd none fl :=
  ⟨by simp [dG], by intro p hp; simp only [dG, List.mem_cons, List.not_mem_nil, or_false] at hp; rcases hp with rfl | rfl <;> simp <;> omega, hE, hs, hp, hh, (fun t ht => by cases ht), hf⟩
theorem write_dG {s u : Txt} (hl : s.length ≤ 500) (hu : u.length ≤ 1000) : writeB (dG s u) [103] s = true ∧ writeF (dG s u) [103] s = dG s (u ++ s) ∧ (writeE (dG s u) [103] s).length ≤ 1 := by
  have hd : datF (dG s u) [103] = u := rfl
  have hw : writeB (dG s u) [103] s = true := by
    unfold writeB
    rw [hd, decide_eq_true (show s.length + u.length ≤ 16384 by omega), Bool.or_true]
  refine ⟨hw, ?_, by unfold writeE; split <;> simp⟩
  unfold writeF
  rw [hw, hd]
  cases s with
  | nil => rw [List.append_nil]; rfl
  | cons b s => rfl
def redirN (m : Int) (s : Txt) : List Nd := newN 33 m [] [lN9 [103], putN s]
theorem kids_redir (m : Int) (s : Txt) : kidsP (redirN m s) = some [lN9 [103], putN s] := kidsP_new _ _ _ _ (by
  intro X hX
  simp only [List.mem_cons, List.not_mem_nil, or_false] at hX
  rcases hX with rfl | rfl <;> exact hd_new _ _ _ _) (by simp) (by simp [newN])
def evOut (m : Int) (s u : Txt) : List Ev := [⟨5, m, [], [], []⟩, ⟨2, m, [103], [], []⟩] ++ writeE (dG s u) [103] s ++ [⟨6, m, [], [], []⟩]
theorem evOut_len {m : Int} {s u : Txt} (hl : s.length ≤ 500) (hu : u.length ≤ 1000) : (evOut m s u).length ≤ 4 := by
  have := (write_dG hl hu).2.2
  simp only [evOut, List.length_append, List.length_cons, List.length_nil]
  omega
theorem ev_redir (n : Nat) (m : Int) (hm : m = 2 ∨ m = 3) (s u : Txt) (hl : s.length ≤ 500) (hu : u.length ≤ 500) (h : OkD D E st 0 [] none []) (hE : E.length ≤ 50) (hst : st ≤ 50) (ho : openF D [103] m = dG s u) :
    (ev (n + 3)).1 (redirN m s) (mkD D E st 0 [] none []) = some (mkD (dG s (u ++ s)) (E ++ evOut m s u) (st + 2) 0 [] none [], 0, Xr.ok) := by
  unfold redirN
  rw [cmdD (n + 2) 33 m [] _ h (by decide) (kids_redir m s) rfl]
  show redirS (ev (n + 2)).1 (ev (n + 2)).2 m (lN9 [103]) (putN s) (mkD D E (st + 1) 0 [] none []) = _
  unfold redirS
  obtain ⟨w1, w2, w3⟩ := write_dG hl (u := u) (by omega)
  rw [flat_lit (n + 1) [103] _ (by decide)]
  dsimp only
  rw [if_neg (by simp), (h.step (by omega)).ok, if_pos rfl]
  have hm5 : markP 5 m (mkD D E (st + 1) 0 [] none []) = mkD D (E ++ [⟨5, m, [], [], []⟩]) (st + 1) 0 [] none [] := rfl
  have hop : openE D [103] m = [⟨2, m, [103], [], []⟩] ∧ openB D [103] m = true ∧ ¬ m = 1 := by
    rcases hm with rfl | rfl <;> exact ⟨rfl, rfl, by decide⟩
  have e1 : openedS (ev (n + 2)).1 [103] m (putN s) (markP 5 m (mkD D E (st + 1) 0 [] none [])) = some (mkD (dG s (u ++ s)) (E ++ ([⟨5, m, [], [], []⟩, ⟨2, m, [103], [], []⟩] ++ writeE (dG s u) [103] s)) (st + 2) 0 [] none [], 0, Xr.ok) := by
    rw [hm5]
    unfold openedS
    rw [if_pos (show openB (mkD D (E ++ [⟨5, m, [], [], []⟩]) (st + 1) 0 [] none []).D [103] m = true from hop.2.1), if_neg hop.2.2]
    have e8 : ({ mkD D (E ++ [⟨5, m, [], [], []⟩]) (st + 1) 0 [] none [] with D := openF (mkD D (E ++ [⟨5, m, [], [], []⟩]) (st + 1) 0 [] none []).D [103] m, E := (mkD D (E ++ [⟨5, m, [], [], []⟩]) (st + 1) 0 [] none []).E ++ openE (mkD D (E ++ [⟨5, m, [], [], []⟩]) (st + 1) 0 [] none []).D [103] m } : Sh) = mkD (dG s u) (E ++ [⟨5, m, [], [], []⟩] ++ [⟨2, m, [103], [], []⟩]) (st + 1) 0 [] none [] := by
      show mkD (openF D [103] m) (E ++ [⟨5, m, [], [], []⟩] ++ openE D [103] m) (st + 1) 0 [] none [] = _
      rw [hop.1, ho]
    rw [e8]
    have e2 := put_file (hd := []) (fl := [103]) (D := dG s u) (E := E ++ [⟨5, m, [], [], []⟩] ++ [⟨2, m, [103], [], []⟩]) (st := st + 1) (dp := 0) n s (okDG hl (by omega) (by simp; omega) (by omega) (by omega) (by simp) (by decide)) (by omega) (by omega) w1
    have e3 : sayingS (ev (n + 2)).1 none [103] (putN s) (mkD (dG s u) (E ++ [⟨5, m, [], [], []⟩] ++ [⟨2, m, [103], [], []⟩]) (st + 1) 0 [] none []) = some ((mkD (dG s (u ++ s)) (E ++ ([⟨5, m, [], [], []⟩, ⟨2, m, [103], [], []⟩] ++ writeE (dG s u) [103] s)) (st + 2) 0 [] none [], 0, Xr.ok), none) := by
      show (match (ev (n + 2)).1 (putN s) (mkD (dG s u) (E ++ [⟨5, m, [], [], []⟩] ++ [⟨2, m, [103], [], []⟩]) (st + 1) 0 [] none [103]) with
        | none => none
        | some (s1, st, Xr.ok) => some (({ s1 with ct := none, fl := [] }, st, Xr.ok), s1.ct)
        | some (s1, _, e) => some ((s1, 0, e), none)) = _
      rw [e2, w2]
      dsimp only
      rw [List.append_assoc, List.append_assoc]
      rfl
    rw [e3]
    rfl
  rw [e1]
  dsimp only
  rw [(okDG hl (u := u ++ s) (by simp; omega) (E := E ++ ([(⟨5, m, [], [], []⟩ : Ev), (⟨2, m, [103], [], []⟩ : Ev)] ++ writeE (dG s u) [103] s)) (st := st + 2) (dp := 0) (hd := []) (fl := []) (by simp; omega) (by omega) (by omega) (by simp) (by simp)).ok, if_pos rfl]
  show some (mkD (dG s (u ++ s)) ((E ++ ([⟨5, m, [], [], []⟩, ⟨2, m, [103], [], []⟩] ++ writeE (dG s u) [103] s)) ++ [⟨6, m, [], [], []⟩]) (st + 2) 0 [] none [], (0 : Int), Xr.ok) = _
  unfold evOut
  simp only [List.append_assoc]
def outN (s : Txt) : List Nd := newN 23 0 [] [redirN 2 s, redirN 3 s]
theorem kids_out (s : Txt) : kidsP (outN s) = some [redirN 2 s, redirN 3 s] := kidsP_new _ _ _ _ (by
  intro X hX
  simp only [List.mem_cons, List.not_mem_nil, or_false] at hX
  rcases hX with rfl | rfl <;> exact hd_new _ _ _ _) (by simp) (by simp [redirN, newN])
theorem ev_out (n : Nat) (s : Txt) (hl : s.length ≤ 500) : (ev (n + 4)).1 (outN s) (mkD (dS s) [] 0 0 [] none []) = some (mkD (dG s (s ++ s)) ([] ++ evOut 2 s [] ++ evOut 3 s s) 4 0 [] none [], 0, Xr.ok) := by
  unfold outN
  rw [cmdD0 (n + 3) 23 0 [] _ (okD0 hl (by simp) (by omega) (by omega) (by simp)) (by decide) (kids_out s) rfl]
  show (match (ev (n + 3)).1 (redirN 2 s) (mkD (dS s) [] 0 0 [] none []) with
    | none => none
    | some (s1, st, Xr.ok) => seqS (ev (n + 3)).1 [redirN 3 s] s1 st
    | some (s1, _, e) => some (s1, 0, e)) = _
  have h1 := evOut_len (m := 2) hl (u := []) (by simp)
  rw [ev_redir n 2 (.inl rfl) s [] hl (by simp) (okD0 hl (by simp) (by omega) (by omega) (by simp)) (by simp) (by omega) rfl]
  show (match (ev (n + 3)).1 (redirN 3 s) (mkD (dG s s) ([] ++ evOut 2 s []) 2 0 [] none []) with
    | none => none
    | some (s1, st, Xr.ok) => seqS (ev (n + 3)).1 [] s1 st
    | some (s1, _, e) => some (s1, 0, e)) = _
  rw [ev_redir n 3 (.inr rfl) s s hl (by omega) (okDG hl (by omega) (by simp; omega) (by omega) (by omega) (by simp) (by simp)) (by simp; omega) (by omega) rfl]
  rfl
/-! ### what is said -/
def saidL (E : List Ev) : Txt := (E.filter fun e => decide (e.kind = 3) && e.a.isEmpty).flatMap (·.b)
theorem said_wE (d : Txt) : saidL (wE d) = d := by
  cases d with
  | nil => rfl
  | cons b d => simp [saidL, wE]
theorem er_pipe (s : Txt) : erased ([⟨4, 3, [], [], []⟩] ++ wE s ++ [⟨6, 3, [], [], []⟩]) = wE s ∧ erased ([⟨5, 1, [], [], []⟩] ++ wE s ++ [⟨6, 1, [], [], []⟩]) = wE s ∧ erased ([] ++ wE s) = wE s ∧
    erased ([⟨5, 1, [], [], []⟩, ⟨2, 1, [102], [], []⟩] ++ wE s ++ [⟨6, 1, [], [], []⟩]) = [⟨2, 1, [102], [], []⟩] ++ wE s := by
  cases s with
  | nil => exact ⟨rfl, rfl, rfl, rfl⟩
  | cons b s => exact ⟨rfl, rfl, rfl, rfl⟩
theorem said_file (s : Txt) : saidL ([⟨2, 1, [102], [], []⟩] ++ wE s) = s := by
  cases s with
  | nil => rfl
  | cons b s => simp [saidL, wE]
/-! ### which may be -/
theorem fit_one {d : Nat} {word : Bool} {kind n : Int} {s : Txt} {X : List Nd} (h1 : isOneB kind word = true) (h2 : numB kind n = true) (h3 : strB kind n s = true) (h4 : cntB kind 1 = true) (hX : Fits d (wordAtB kind 1 0) X) : Fits (d + 1) word (newN kind n s [X]) :=
  Fits.mk d word kind n s [X] h1 h2 h3 h4 (by
    intro j Z hZ
    match j, hZ with
    | 0, hZ => cases hZ; exact hX
    | j + 1, hZ => simp at hZ)
theorem fit_three {d : Nat} {word : Bool} {kind n : Int} {s : Txt} {X Y Z : List Nd} (h1 : isOneB kind word = true) (h2 : numB kind n = true) (h3 : strB kind n s = true) (h4 : cntB kind 3 = true) (hX : Fits d (wordAtB kind 3 0) X) (hY : Fits d (wordAtB kind 3 1) Y) (hZ : Fits d (wordAtB kind 3 2) Z) : Fits (d + 1) word (newN kind n s [X, Y, Z]) :=
  Fits.mk d word kind n s [X, Y, Z] h1 h2 h3 h4 (by
    intro j V hV
    match j, hV with
    | 0, hV => cases hV; exact hX
    | 1, hV => cases hV; exact hY
    | 2, hV => cases hV; exact hZ
    | j + 3, hV => simp at hV)
theorem fit_put (d : Nat) {s : Txt} (hl : s.length ≤ 500) : Fits (d + 2) false (putN s) := fit_call2 d (by decide) (by omega)
theorem fit_catN (d : Nat) : Fits (d + 2) false catN := fit_one rfl rfl rfl rfl (fit_lit d (by decide))
theorem hears_fit {s : Txt} (hl : s.length ≤ 500) : Fits 30 false (pipeN s) ∧ Fits 30 false fileN ∧ Fits 30 false (hereN s) ∧ Fits 30 false (subN s) ∧ Fits 30 false (outN s) :=
  ⟨fit_three rfl rfl rfl rfl (fit_put 27 hl) (fit_catN 27) (fit_catN 27), fit_two rfl rfl rfl rfl (fit_lit 28 (by decide)) (fit_catN 27), fit_two rfl rfl rfl rfl (fit_lit 28 (by omega)) (fit_catN 27),
    fit_two rfl rfl rfl rfl (fit_lit 28 (by decide)) (fit_one rfl rfl rfl rfl (fit_put 26 hl)),
    fit_two rfl rfl rfl rfl (fit_two rfl rfl rfl rfl (fit_lit 27 (by decide)) (fit_put 26 hl)) (fit_two rfl rfl rfl rfl (fit_lit 27 (by decide)) (fit_put 26 hl))⟩
theorem hears_len (s : Txt) : (pipeN s).length = 8 ∧ fileN.length = 4 ∧ (hereN s).length = 4 ∧ (subN s).length = 6 ∧ (outN s).length = 11 := ⟨rfl, rfl, rfl, rfl, rfl⟩
end Go.Proofs.YtfafhjglcaikoaaGreatDoor
/-! Programs that are made step by step: each call behind the row that it takes. -/
namespace Go.Proofs.YtfafhjglcaikoaaGreatDoor
open Go.RowKit
attribute [local go_sem] Oper.semAt_some

variable {W W' : World} {ea : Nat → Addr}
/-- A node comes back: a program of so many nodes. -/
def Made (w : World) (L : Nat) (X : List Nd) (e : Ending) (w' : World) : Prop := ∃ p c, e = .returned (.slice p L c) ∧ Hid (NdAt w' (.slice p L c) X) ∧ Hid (Below w.heap.size w w')
theorem Made.of {w w1 w' : World} {L : Nat} {X : List Nd} {e : Ending} {v : Value} (h1 : e = .returned v) (h2 : NdAt w' v X) (h3 : Below w1.heap.size w1 w') (hb : Below w.heap.size w w1) (hL : X.length = L) : Made w L X e w' := by
  obtain ⟨p, c, hv⟩ := h2.form
  rw [hL] at hv
  subst hv
  exact ⟨p, c, h1, h2, hb.trans (h3.mono hb.size)⟩
theorem lit_new (w : World) (a : Txt) : Calls Tryz.prog 15 #[.string ⟨a.toArray⟩] w (Made w 1 (lN9 a)) := by
  refine (lit_any ⟨a.toArray⟩ w).mono ?_
  rintro e w' ⟨v', h1, h2, h3⟩
  exact Made.of h1 h2.at h3 (Below.refl _ _) rfl
theorem call1_new (w : World) (a : Txt) : Calls Tryz.prog 22 #[.slice (some ⟨w.heap.size, 0, none⟩) 1 1] (w.alloc (.cells #[.string ⟨a.toArray⟩] 9)) (Made w 2 (callN [a])) := by
  refine (callT_any _ [a] _ (tx_one9 w a) (by simp)).mono ?_
  rintro e w' ⟨v', h1, h2, h3⟩
  exact Made.of h1 h2 h3 (below_new _ _) rfl
theorem call2_new (w : World) (a b : Txt) : Calls Tryz.prog 22 #[.slice (some ⟨w.heap.size, 0, none⟩) 2 2] (w.alloc (.cells #[.string ⟨a.toArray⟩, .string ⟨b.toArray⟩] 9)) (Made w 3 (callN [a, b])) := by
  refine (callT_any _ [a, b] _ (tx_two w a b) (by simp)).mono ?_
  rintro e w' ⟨v', h1, h2, h3⟩
  exact Made.of h1 h2 h3 (below_new _ _) rfl
theorem node1_new (kind n : Int) (s : Txt) {w : World} {v : Value} {X : List Nd} {L : Nat} (h : NdAt w v X) (hL : X.length + 1 = L) (hb : L < 100000) : Calls Tryz.prog 16 #[.int .i64 kind, .int .i64 n, .string ⟨s.toArray⟩, .slice (some ⟨w.heap.size, 0, none⟩) 1 1] (w.alloc (.cells #[v] 22)) (Made w L (newN kind n s [X])) := by
  refine (newL_any kind n s _ [X] _ (kdl_one h) (by simp) (by simp; omega)).mono ?_
  rintro e w' ⟨v', h1, h2, h3⟩
  exact Made.of h1 h2 h3 (below_new _ _) (by simp [newN]; omega)
theorem node2_new (kind n : Int) (s : Txt) {w : World} {v u : Value} {X Y : List Nd} {L : Nat} (h : NdAt w v X) (g : NdAt w u Y) (hL : X.length + Y.length + 1 = L) (hb : L < 100000) : Calls Tryz.prog 16 #[.int .i64 kind, .int .i64 n, .string ⟨s.toArray⟩, .slice (some ⟨w.heap.size, 0, none⟩) 2 2] (w.alloc (.cells #[v, u] 22)) (Made w L (newN kind n s [X, Y])) := by
  refine (newL_any kind n s _ [X, Y] _ (kdl_two h g) (by simp) (by simp; omega)).mono ?_
  rintro e w' ⟨v', h1, h2, h3⟩
  exact Made.of h1 h2 h3 (below_new _ _) (by simp [newN]; omega)
theorem kdl_three {v u t : Value} {X Y Z : List Nd} (h : NdAt W v X) (g : NdAt W u Y) (f : NdAt W t Z) : KdL (W.alloc (.cells #[v, u, t] 22)) (.slice (some ⟨W.heap.size, 0, none⟩) 3 3) [X, Y, Z] :=
  ⟨[(v, X), (u, Y), (t, Z)], rfl, KdAt.of_cells rfl (Cel.new W 22 #[v, u, t]) (fun p hp => by
    rcases List.mem_cons.1 hp with rfl | hp
    · exact h.more _
    · rcases List.mem_cons.1 hp with rfl | hp
      · exact g.more _
      · rw [List.mem_singleton] at hp
        subst hp
        exact f.more _) (Nat.le_refl _)⟩
theorem node3_new (kind n : Int) (s : Txt) {w : World} {v u t : Value} {X Y Z : List Nd} {L : Nat} (h : NdAt w v X) (g : NdAt w u Y) (f : NdAt w t Z) (hL : X.length + Y.length + Z.length + 1 = L) (hb : L < 100000) : Calls Tryz.prog 16 #[.int .i64 kind, .int .i64 n, .string ⟨s.toArray⟩, .slice (some ⟨w.heap.size, 0, none⟩) 3 3] (w.alloc (.cells #[v, u, t] 22)) (Made w L (newN kind n s [X, Y, Z])) := by
  refine (newL_any kind n s _ [X, Y, Z] _ (kdl_three h g f) (by simp) (by simp; omega)).mono ?_
  rintro e w' ⟨v', h1, h2, h3⟩
  exact Made.of h1 h2 h3 (below_new _ _) (by simp [newN]; omega)
theorem seqL_any (v : Value) (L : List (List Nd)) (w : World) (h : KdL w v L) (h1 : 1 ≤ L.length) (hL : L.length < 4294967296) (hT : L.flatten.length < 4294967296) :
    Calls Tryz.prog 17 #[v] w fun e w' => ∃ v', e = .returned v' ∧ NdAt w' v' (seqP L) ∧ Below w.heap.size w w' := by
  obtain ⟨K, rfl, hk⟩ := h
  exact seqN_any v K w hk (by simpa using h1) (by simpa using hL) hT
theorem seq2_new {w : World} {v u : Value} {X Y : List Nd} {L : Nat} (h : NdAt w v X) (g : NdAt w u Y) (hL : X.length + Y.length + 1 = L) (hb : L < 100000) : Calls Tryz.prog 17 #[.slice (some ⟨w.heap.size, 0, none⟩) 2 2] (w.alloc (.cells #[v, u] 22)) (Made w L (newN 23 0 [] [X, Y])) := by
  refine (seqL_any _ [X, Y] _ (kdl_two h g) (by simp) (by simp) (by simp; omega)).mono ?_
  rintro e w' ⟨v', h1, h2, h3⟩
  exact Made.of h1 h2 h3 (below_new _ _) (by simp [newN]; omega)
theorem NdMade.on {w w' : World} {v : Value} {X : List Nd} (h : Hid (NdAt w v X)) (hb : Hid (Below w.heap.size w w')) : Hid (NdAt w' v X) := h.out.below hb.out (Nat.le_refl _)
theorem Bel.on {w w' : World} (h : Hid (Below W.heap.size W w)) (hb : Hid (Below w.heap.size w w')) : Hid (Below W.heap.size W w') := h.out.trans (hb.out.mono h.out.size)
/-- Region k of a function, wherever it stands. -/
def cRg (k : Nat) : Code → Option Code
  | .region i o b => if i = k then some (.region i o b) else none
  | .seq a b => match cRg k a with
    | some c => some c
    | none => cRg k b
  | .cond _ a b => match cRg k a with
    | some c => some c
    | none => cRg k b
  | .block _ a => cRg k a
  | .loop a => cRg k a
  | .scope a => cRg k a
  | _ => none
theorem cell_on {w w' : World} (h : Below w.heap.size w w') {a : Addr} {v : Value} (hc : w.cell? a = some v) : w'.cell? a = some v := (h.cell (World.block_lt_of_cell? w a hc)).trans hc
end Go.Proofs.YtfafhjglcaikoaaGreatDoor
namespace Go.Proofs.YtfafhjglcaikoaaGreatDoor
open Go.RowKit
attribute [local go_sem] Oper.semAt_some

variable {W W' : World} {ea : Nat → Addr}
theorem plain_v {X : List Nd} {Fl : Fls} {st dp n : Nat} {inp : Txt} {r : Cr} (v fv : Value) (w : World) (hE : ErX w ea) (h17 : 17 ≤ w.heap.size) (hn : NdAt w v X) (hl : X.length ≤ 1000) (hs : ∀ x ∈ X, NdOk x) (hc : checkL X = .fine) (hf : FlAt w fv Fl) (hFl : Fl.length < 4294967296) (hN : ∀ p ∈ Fl, p.1.length < 4294967296) (hm : mayR Fl [] = none) (h1 : st ≤ 1500) (h2 : dp ≤ 25) (h3 : inp.length ≤ 2000) (hev : (ev n).1 X (start Fl st dp inp) = some r) (hr : Okr r.1) (hx : r.2.2 = .ok) :
    Calls Tryz.prog 18 #[v, wV fv (.slice none 0 0), oV st dp inp] w fun e w' => ∃ u, e = .returned (.tuple #[u, .bool true]) ∧ RunV ea w.heap.size r.2.1 .ok r.1 u w' ∧ Below w.heap.size w w' := by
  have hfin : finR r.1 r.2.1 r.2.2 = (r.2.1, .ok) := by rw [hx]; exact if_neg (by simp)
  refine Calls.mono (plain9_any (ea := ea) v fv r.2.1 .ok r.1 st dp inp (by obtain ⟨a, c, h⟩ := hf.form; exact ⟨a, _, c, h⟩) (by obtain ⟨a, c, h⟩ := hn.form; exact ⟨a, _, c, h⟩) (fun w2 hb => ?_)) ?_
  · refine Calls.mono (run_any (ea := ea) v fv X Fl st dp n inp r (hE.below (Nat.le_refl _) hb) (Nat.le_trans h17 hb.size) (hn.below hb (Nat.le_refl _)) (by omega) hs hc (hf.below hb (Nat.le_refl _)) hFl hN hm h1 h2 h3 hev hr) ?_
    rintro e w' ⟨u, p1, p2, p3⟩
    rw [hfin] at p2
    exact ⟨u, p1, p2, p3⟩
  · rintro e w' ⟨u, p1, p2, p3⟩
    obtain ⟨tv, vv, fv', X', Y', q1, q2, q3, q4, q5, q6⟩ := p2
    obtain ⟨a1, c1, e1⟩ := owns_slice q2.1
    obtain ⟨a2, c2, e2⟩ := owns_slice q4.1
    obtain ⟨a3, c3, e3⟩ := owns_slice q6
    subst e1 e2 e3 q1
    exact ⟨_, p1, ⟨a1, _, c1, a2, _, c2, a3, _, c3, rfl, _, _, _, X', Y', rfl, q2, q3, q4, q5, q6⟩, p3⟩
def OkN (X : List Nd) : Prop := ∀ x ∈ X, NdOk x
theorem okn_new {kind n : Int} {s : Txt} {Ls : List (List Nd)} (hs : s.length ≤ 500) (hl : Ls.length ≤ 1000) (h : ∀ X ∈ Ls, OkN X) : OkN (newN kind n s Ls) := by
  intro x hx
  rcases List.mem_cons.1 hx with rfl | hx
  · exact ⟨by simp only; omega, by simp only; omega⟩
  · obtain ⟨X, hX, hx⟩ := List.mem_flatten.1 hx
    exact h X hX x hx
theorem okn_lit {t : Txt} (h : t.length ≤ 500) : OkN (lN9 t) := okn_new h (by simp) (by simp)
theorem okn_one {kind n : Int} {X : List Nd} (h1 : OkN X) : OkN (newN kind n [] [X]) := okn_new (by simp) (by simp) (by
  intro Z hZ
  rw [List.mem_singleton] at hZ
  subst hZ
  exact h1)
theorem okn_two {kind n : Int} {X Y : List Nd} (h1 : OkN X) (h2 : OkN Y) : OkN (newN kind n [] [X, Y]) := okn_new (by simp) (by simp) (by
  intro Z hZ
  simp only [List.mem_cons, List.not_mem_nil, or_false] at hZ
  rcases hZ with rfl | rfl
  · exact h1
  · exact h2)
theorem okn_three {kind n : Int} {X Y Z : List Nd} (h1 : OkN X) (h2 : OkN Y) (h3 : OkN Z) : OkN (newN kind n [] [X, Y, Z]) := okn_new (by simp) (by simp) (by
  intro V hV
  simp only [List.mem_cons, List.not_mem_nil, or_false] at hV
  rcases hV with rfl | rfl | rfl
  · exact h1
  · exact h2
  · exact h3)
theorem okn_put {s : Txt} (h : s.length ≤ 500) : OkN (putN s) := okn_two (okn_lit (by decide)) (okn_lit h)
theorem okn_cat : OkN catN := okn_one (okn_lit (by decide))
theorem hears_okn {s : Txt} (h : s.length ≤ 500) : OkN (pipeN s) ∧ OkN fileN ∧ OkN (hereN s) ∧ OkN (subN s) ∧ OkN (outN s) :=
  ⟨okn_three (okn_put h) okn_cat okn_cat, okn_two (okn_lit (by decide)) okn_cat, okn_two (okn_lit h) okn_cat, okn_two (okn_lit (by decide)) (okn_one (okn_put h)),
    okn_two (okn_two (okn_lit (by decide)) (okn_put h)) (okn_two (okn_lit (by decide)) (okn_put h))⟩
/-- Files of one's own, fresh. -/
theorem fl_one (w : World) (f d : Txt) : FlAt (w.alloc (.cells #[.string ⟨f.toArray⟩, .string ⟨d.toArray⟩] 68)) (.slice (some ⟨w.heap.size, 0, none⟩) 1 1) [(f, d)] :=
  FlAt.owned (B := 0) ⟨rfl, .inr ⟨w.heap.size, 1, #[.string ⟨f.toArray⟩, .string ⟨d.toArray⟩], rfl, Nat.zero_le _, Cel.new w 68 _, Nat.le_refl _, by decide, rfl, rfl⟩⟩
theorem may_one (s : Txt) (h : s.length ≤ 500) : mayR [([102], s)] [] = none := by
  have h1 : fileR ([102], s) [] = none := by
    unfold fileR
    rw [if_neg (by show ¬ (noNm [102] || false) = true; decide), if_neg (by show ¬ 16384 < s.length; omega)]
  unfold mayR
  rw [if_neg (show ¬ manyW [([102], s)] [] = true from Bool.false_ne_true)]
  show (match firstOf (fileAt [([102], s)]) 0 1 with
    | some e => some e
    | none => firstOf (rowAt []) 0 0) = none
  have h2 : firstOf (fileAt [([102], s)]) 0 1 = none := by
    show (match fileAt [([102], s)] 0 with
      | some e => some e
      | none => firstOf (fileAt [([102], s)]) 1 0) = none
    rw [show fileAt [([102], s)] 0 = fileR ([102], s) [] from rfl, h1]
    rfl
  rw [h2]
  rfl
theorem okr_mkD {D : Fls} {E : List Ev} {st dp : Nat} {hd fl : Txt} {ct : Option Txt} (h1 : E.length ≤ 100) (h2 : ∀ q ∈ E, q.l = []) (h3 : D.length ≤ 2) (h4 : ∀ p ∈ D, p.1.length ≤ 10) : Okr (mkD D E st dp hd ct fl) :=
  ⟨by show E.length < _; omega, fun q hq => by rw [h2 q hq]; simp, by show F0.length < _; simp [F0], fun p hp => by
    have : p = (star, []) := by simpa [mkD, F0] using hp
    subst this
    have := maxLen_big
    show star.length ≤ _
    simp
    omega, by show D.length < _; omega, fun p hp => by have := h4 p hp; omega⟩
/-- What the four programs come to. -/
theorem hears_at {s : Txt} (hl : s.length ≤ 500) (k : Nat) (hk : k < 4) : ∃ (X : List Nd) (E : List Ev) (st n : Nat), X = ([pipeN s, fileN, hereN s, subN s].getD k []) ∧ X.length ≤ 1000 ∧ OkN X ∧ checkL X = .fine ∧ (ev n).1 X (start [([102], s)] 1500 25 []) = some (mkD (dS s) E st 0 [] none [], 0, .ok) ∧ Okr (mkD (dS s) E st 0 [] none []) ∧ saidL (erased E) = (if k = 3 then Lib.trimRightB s 10 else s) := by
  obtain ⟨f1, f2, f3, f4, -⟩ := hears_fit hl
  obtain ⟨o1, o2, o3, o4, -⟩ := hears_okn hl
  obtain ⟨l1, l2, l3, l4, -⟩ := hears_len s
  have hw : ∀ t : Txt, (wE t).length ≤ 1 ∧ ∀ q ∈ wE t, q.l = [] := fun t => by
    unfold wE
    split <;> simp
  have hD : ∀ p ∈ dS s, p.1.length ≤ 10 := fun p hp => by
    simp only [dS, List.mem_singleton] at hp
    subst hp
    simp
  obtain ⟨e1, e2, e3, e4⟩ := er_pipe s
  have hws := hw s
  obtain rfl | rfl | rfl | rfl : k = 0 ∨ k = 1 ∨ k = 2 ∨ k = 3 := by omega
  · refine ⟨pipeN s, _, _, 6, rfl, by omega, o1, fits_fine _ f1 (by omega), ev_pipe 3 s hl, okr_mkD (by simp; omega) ?_ (by simp [dS]) hD, ?_⟩
    · intro q hq
      simp only [List.mem_append, List.mem_singleton] at hq
      rcases hq with (rfl | hq) | rfl
      · rfl
      · exact hws.2 q hq
      · rfl
    · rw [e1, said_wE]
      rfl
  · refine ⟨fileN, _, _, 6, rfl, by omega, o2, fits_fine _ f2 (by omega), ev_file 3 s hl, okr_mkD (by simp; omega) ?_ (by simp [dS]) hD, ?_⟩
    · intro q hq
      simp only [List.mem_append, List.mem_cons, List.not_mem_nil, or_false] at hq
      rcases hq with ((rfl | rfl) | hq) | rfl
      · rfl
      · rfl
      · exact hws.2 q hq
      · rfl
    · rw [e4, said_file]
      rfl
  · refine ⟨hereN s, _, _, 6, rfl, by omega, o3, fits_fine _ f3 (by omega), ev_here 3 s hl, okr_mkD (by simp; omega) ?_ (by simp [dS]) hD, ?_⟩
    · intro q hq
      simp only [List.mem_append, List.mem_singleton] at hq
      rcases hq with (rfl | hq) | rfl
      · rfl
      · exact hws.2 q hq
      · rfl
    · rw [e2, said_wE]
      rfl
  · refine ⟨subN s, _, _, 7, rfl, by omega, o4, fits_fine _ f4 (by omega), ev_sub 3 s hl, okr_mkD (by have := (hw (Lib.trimRightB s 10)).1; simp; omega) ?_ (by simp [dS]) hD, ?_⟩
    · intro q hq
      exact (hw (Lib.trimRightB s 10)).2 q (by simpa using hq)
    · rw [(er_pipe (Lib.trimRightB s 10)).2.2.1, said_wE]
      rfl
theorem out_at {s : Txt} (hl : s.length ≤ 500) : (outN s).length ≤ 1000 ∧ OkN (outN s) ∧ checkL (outN s) = .fine ∧ ∃ E, (ev 7).1 (outN s) (start [([102], s)] 1500 25 []) = some (mkD (dG s (s ++ s)) E 4 0 [] none [], 0, .ok) ∧ Okr (mkD (dG s (s ++ s)) E 4 0 [] none []) := by
  obtain ⟨-, -, -, -, f⟩ := hears_fit hl
  obtain ⟨-, -, -, -, o⟩ := hears_okn hl
  obtain ⟨-, -, -, -, l⟩ := hears_len s
  have h1 := evOut_len (m := 2) hl (u := []) (by simp)
  have h2 := evOut_len (m := 3) hl (u := s) (by omega)
  have hwe : ∀ (u d : Txt), ∀ q ∈ writeE (dG u d) [103] u, q.l = [] := fun u d => by
    unfold writeE
    split <;> simp
  have hE : ∀ (m : Int) (u : Txt), ∀ q ∈ evOut m s u, q.l = [] := fun m u q hq => by
    simp only [evOut, List.mem_append, List.mem_cons, List.not_mem_nil, or_false] at hq
    rcases hq with ((rfl | rfl) | hq) | rfl
    · rfl
    · rfl
    · exact hwe s u q hq
    · rfl
  refine ⟨by omega, o, fits_fine _ f (by omega), _, ev_out 3 s hl, okr_mkD (by simp; omega) ?_ (by simp [dG]) ?_⟩
  · intro q hq
    simp only [List.nil_append, List.mem_append] at hq
    rcases hq with hq | hq
    · exact hE _ _ q hq
    · exact hE _ _ q hq
  · intro p hp
    simp only [dG, List.mem_cons, List.not_mem_nil, or_false] at hp
    rcases hp with rfl | rfl <;> simp
end Go.Proofs.YtfafhjglcaikoaaGreatDoor

/- The document's kernel in memory; find. -/
import Derived.Test.YthhghkjgffcpeaaDoorKW
import Derived.OrdersHeld
import Derived.Deep.RegionHeld
import Derived.BigQuiet
import Derived.Laws.AppendOwnNone
namespace Go.Proofs.YthhghkjgffcpeaaDoor
open Go.RowKit

/-! ### order of texts -/
theorem bb_asym : ∀ a b : List UInt8, bytesBefore a b = true → bytesBefore b a = false
  | [], [], h => by simp [bytesBefore] at h
  | [], _ :: _, _ => rfl
  | _ :: _, [], h => by simp [bytesBefore] at h
  | a :: r, b :: s, h => by
    simp only [bytesBefore, Bool.or_eq_true, Bool.and_eq_true, decide_eq_true_eq, beq_iff_eq, Bool.or_eq_false_iff, Bool.and_eq_false_iff, decide_eq_false_iff_not, beq_eq_false_iff_ne, ne_eq] at h ⊢
    rcases h with h | ⟨rfl, h⟩
    · have h1 := UInt8.lt_iff_toNat_lt.1 h
      refine ⟨fun h2 => ?_, .inl (fun e => ?_)⟩
      · have := UInt8.lt_iff_toNat_lt.1 h2
        omega
      · subst e
        omega
    · exact ⟨fun h2 => by have := UInt8.lt_iff_toNat_lt.1 h2; omega, .inr (bb_asym r s h)⟩
theorem bb_tri : ∀ a b : List UInt8, bytesBefore a b = false → a ≠ b → bytesBefore b a = true
  | [], [], _, h => absurd rfl h
  | [], _ :: _, h, _ => by simp [bytesBefore] at h
  | _ :: _, [], _, _ => rfl
  | a :: r, b :: s, h, hne => by
    simp only [bytesBefore, Bool.or_eq_false_iff, Bool.and_eq_false_iff, decide_eq_false_iff_not, beq_eq_false_iff_ne, ne_eq, Bool.or_eq_true, Bool.and_eq_true, decide_eq_true_eq, beq_iff_eq] at h ⊢
    obtain ⟨h1, h2⟩ := h
    by_cases hab : a = b
    · subst hab
      right
      refine ⟨rfl, bb_tri r s ?_ (fun e => hne (by rw [e]))⟩
      rcases h2 with h2 | h2
      · exact absurd rfl h2
      · exact h2
    · left
      rw [UInt8.lt_iff_toNat_lt] at h1 ⊢
      have : a.toNat ≠ b.toNat := fun e => hab (UInt8.toNat_inj.1 e)
      omega
theorem bb_trans : ∀ a b c : List UInt8, bytesBefore a b = true → bytesBefore b c = true → bytesBefore a c = true
  | [], _, [], _, h => by cases (‹List UInt8›) <;> simp [bytesBefore] at h
  | [], _, _ :: _, _, _ => rfl
  | _ :: _, [], _, h, _ => by simp [bytesBefore] at h
  | _ :: _, _ :: _, [], _, h => by simp [bytesBefore] at h
  | a :: r, b :: s, c :: t, h1, h2 => by
    simp only [bytesBefore, Bool.or_eq_true, Bool.and_eq_true, decide_eq_true_eq, beq_iff_eq] at h1 h2 ⊢
    rw [UInt8.lt_iff_toNat_lt] at *
    rcases h1 with h1 | ⟨rfl, h1⟩ <;> rcases h2 with h2 | ⟨rfl, h2⟩
    · left; omega
    · left; exact h1
    · left; exact h2
    · right; exact ⟨rfl, bb_trans r s t h1 h2⟩
theorem bl_eq : ∀ a b : List UInt8, Op.bytesLess a b = bytesBefore a b
  | [], [] => rfl
  | [], _ :: _ => rfl
  | _ :: _, [] => rfl
  | a :: r, b :: s => by simp only [Op.bytesLess, bytesBefore, bl_eq r s]
theorem bb_ne {a b : List UInt8} (h : bytesBefore a b = true) : a ≠ b := fun e => by
  rw [e, WideAt.bytes_irrefl] at h
  cases h

/-! ### files, rising -/
def Ris (F : Fls) : Prop := F.Pairwise fun p q => bytesBefore p.1 q.1 = true
theorem Kern.ris {W : World} {K : Nat → Prop} {kb mb : Nat} {ev rv : Value} {F : Fls} {Y : List (Rw × Value)} {X : List (Ev × Value)} (h : Kern W K kb mb ev rv F Y X) : Ris F := by
  obtain ⟨es, he, hp, _⟩ := h.fm.canon key9
  unfold dF at he
  cases he
  rw [List.pairwise_map] at hp
  exact hp.imp fun {a b} hab => hab
theorem mem_ins (x y : Txt × Txt) : ∀ F : Fls, y ∈ insF x F ↔ y = x ∨ y ∈ F
  | [] => by simp [insF]
  | z :: r => by
    unfold insF
    split
    · simp
    · simp only [List.mem_cons, mem_ins x y r]
      constructor
      · rintro (h | h | h)
        · exact .inr (.inl h)
        · exact .inl h
        · exact .inr (.inr h)
      · rintro (h | h | h)
        · exact .inr (.inl h)
        · exact .inl h
        · exact .inr (.inr h)
theorem ris_ins (x : Txt × Txt) : ∀ F : Fls, Ris F → (∀ p ∈ F, p.1 ≠ x.1) → Ris (insF x F)
  | [], _, _ => List.pairwise_singleton _ _
  | y :: r, h, hne => by
    obtain ⟨h1, h2⟩ := List.pairwise_cons.1 h
    unfold insF
    split
    · rename_i hb
      refine List.pairwise_cons.2 ⟨fun z hz => ?_, h⟩
      rcases List.mem_cons.1 hz with e | e
      · rw [e]; exact hb
      · exact bb_trans _ _ _ hb (h1 z e)
    · rename_i hb
      refine List.pairwise_cons.2 ⟨fun z hz => ?_, ris_ins x r h2 fun p hp => hne p (List.mem_cons_of_mem _ hp)⟩
      rcases (mem_ins x z r).1 hz with e | e
      · rw [e]
        exact bb_tri _ _ (by simpa using hb) (fun e2 => hne y List.mem_cons_self e2.symm)
      · exact h1 z e
theorem ris_put (F : Fls) (k d : Txt) (h : Ris F) : Ris (putF F k d) := by
  unfold putF
  refine ris_ins _ _ (h.sublist List.filter_sublist) fun p hp => ?_
  have := (List.mem_filter.1 hp).2
  simpa using this
theorem ris_putAll (Fl : Fls) : Ris (putAll Fl) := by
  unfold putAll
  have : ∀ (l : Fls) (F : Fls), Ris F → Ris (l.foldl (fun F p => putF F p.1 p.2) F) := by
    intro l
    induction l with
    | nil => exact fun F h => h
    | cons p l ih => exact fun F h => ih _ (ris_put F p.1 p.2 h)
  exact this Fl [] List.Pairwise.nil
theorem put_set (k d : Txt) : ∀ (F : Fls) (i : Nat) (p : Txt × Txt), Ris F → F[i]? = some p → p.1 = k → putF F k d = F.set i (k, d)
  | [], _, _, _, h, _ => by simp at h
  | x :: r, 0, p, hr, h, hk => by
    simp at h
    subst h
    obtain ⟨h1, _⟩ := List.pairwise_cons.1 hr
    have hf : r.filter (fun p => !(p.1 == k)) = r := by
      rw [List.filter_eq_self]
      intro q hq
      have := bb_ne (h1 q hq)
      rw [hk] at this
      simpa using fun e => this e.symm
    unfold putF
    rw [List.filter_cons_of_neg (by simp [hk]), hf]
    cases r with
    | nil => rfl
    | cons y s =>
      unfold insF
      have := h1 y List.mem_cons_self
      rw [hk] at this
      rw [if_pos this]
      rfl
  | x :: r, i + 1, p, hr, h, hk => by
    obtain ⟨h1, h2⟩ := List.pairwise_cons.1 hr
    have hb := h1 p (List.mem_of_getElem? (by simpa using h))
    rw [hk] at hb
    have ih := put_set k d r i p h2 (by simpa using h) hk
    unfold putF at ih ⊢
    rw [List.filter_cons_of_pos (by simpa using bb_ne hb)]
    unfold insF
    rw [if_neg (by rw [bb_asym _ _ hb]; simp), ih]
    rfl
theorem put_ins (F : Fls) (k d : Txt) (h : ∀ p ∈ F, (p.1 == k) = false) : putF F k d = insF (k, d) F := by
  unfold putF
  rw [List.filter_eq_self.2 fun p hp => by rw [h p hp]; rfl]
theorem insF_split (x : Txt × Txt) : ∀ (P : Fls) (i : Nat), i ≤ P.length → (∀ j q, j < i → P[j]? = some q → bytesBefore q.1 x.1 = true) → (∀ q, P[i]? = some q → bytesBefore q.1 x.1 = false ∧ q.1 ≠ x.1) → insF x P = P.take i ++ x :: P.drop i
  | [], 0, _, _, _ => rfl
  | [], i + 1, h, _, _ => by simp at h
  | y :: P, 0, _, _, h2 => by
    obtain ⟨h3, h4⟩ := h2 y rfl
    unfold insF
    rw [if_pos (bb_tri _ _ h3 h4)]
    rfl
  | y :: P, i + 1, h, h1, h2 => by
    have h3 := h1 0 y (by omega) rfl
    unfold insF
    rw [if_neg (by rw [bb_asym _ _ h3]; simp), insF_split x P i (by simpa using h) (fun j q hj hq => h1 (j + 1) q (by omega) (by simpa using hq)) (fun q hq => h2 q (by simpa using hq))]
    rfl
theorem flCs_len (F : Fls) : (flCs F).length = F.length * 2 := by
  induction F with
  | nil => rfl
  | cons p r ih =>
    unfold flCs at ih ⊢
    rw [List.flatMap_cons, List.length_append, ih]
    simp only [List.length_cons, List.length_nil]
    omega
theorem flCs_app (A B : Fls) : flCs (A ++ B) = flCs A ++ flCs B := by simp [flCs]
theorem flCs_set (k d : Txt) : ∀ (F : Fls) (i : Nat) (p : Txt × Txt), F[i]? = some p → p.1 = k → flCs (F.set i (k, d)) = (flCs F).set (i * 2 + 1) (str d)
  | [], _, _, h, _ => by simp at h
  | x :: r, 0, p, h, hk => by
    simp at h
    subst h
    simp [flCs, hk]
  | x :: r, i + 1, p, h, hk => by
    have ih := flCs_set k d r i p (by simpa using h) hk
    have e1 : flCs ((x :: r).set (i + 1) (k, d)) = [str x.1, str x.2] ++ flCs (r.set i (k, d)) := by simp [flCs]
    have e2 : flCs (x :: r) = [str x.1, str x.2] ++ flCs r := by simp [flCs]
    rw [e1, e2, ih, show (i + 1) * 2 + 1 = (i * 2 + 1) + 2 by omega]
    rfl
theorem flC_all (F : Fls) : ∀ u ∈ flCs F, u.oneCell' = true := by
  intro u hu
  obtain ⟨p, _, hx⟩ := List.mem_flatMap.1 hu
  simp at hx
  rcases hx with rfl | rfl <;> rfl

/-! ### the document's kernel -/
structure Rk (W : World) (K : Nat → Prop) (xb : Nat) (fv rv tv : Value) (F : Fls) (X : List (Ev × Value)) : Prop where
  xc : Cel W xb 60 #[fv, rv, tv]
  fr : W.ownsRow 0 73 2 fv F.length (flCs F)
  er : W.ownsRow 0 70 5 tv X.length (evCs X)
  xt : ∀ p ∈ X, Ot W K p.2 p.1.l
  Kx : K xb
  Kf : ∀ b, fv.ownBlock = some b → K b
  Kt : ∀ b, tv.ownBlock = some b → K b
  lt : ∀ i, K i → i < W.heap.size
variable {W W' : World} {K K' S : Nat → Prop} {xb : Nat} {fv rv tv : Value} {F : Fls} {X : List (Ev × Value)}
theorem Rk.turn (h : Rk W K xb fv rv tv F X) (hT : Turn S W W') (hs : ∀ i, K i → ¬ S i) : Rk W' K xb fv rv tv F X := {
  xc := h.xc.turn hT (hs _ h.Kx)
  fr := owns_turn h.fr hT fun b hb => hs b (h.Kf b hb)
  er := owns_turn h.er hT fun b hb => hs b (h.Kt b hb)
  xt := fun p hp => (h.xt p hp).turn hT fun b hb => hs b ((h.xt p hp).2 b hb)
  Kx := h.Kx
  Kf := h.Kf
  Kt := h.Kt
  lt := fun i hi => Nat.lt_of_lt_of_le (h.lt i hi) hT.size }
theorem Rk.below (h : Rk W K xb fv rv tv F X) (hb : Below W.heap.size W W') : Rk W' K xb fv rv tv F X :=
  h.turn (S := fun _ => False) (Turn.ofBelow hb) (fun _ _ h => h)
theorem turn_set (W : World) (xb j : Nat) (u : Value) : Turn (fun i => i = xb) W (W.setCell ⟨xb, j, none⟩ u) := (Turn.refl (fun i => i = xb) W).setCell (p := ⟨xb, j, none⟩) (fun _ => rfl) u
theorem set_size (W : World) (xb j : Nat) (u : Value) : (W.setCell ⟨xb, j, none⟩ u).heap.size = W.heap.size := by simp [World.setCell]
/-- The files' cell is set. -/
theorem Rk.setF (h : Rk W K xb fv rv tv F X) {fv' : Value} {F' : Fls} (ho : W.ownsRow 0 73 2 fv' F'.length (flCs F')) (hK : ∀ i, K i → K' i) (hf : ∀ b, fv'.ownBlock = some b → K' b) (hlt : ∀ i, K' i → i < W.heap.size) :
    Rk (W.setCell ⟨xb, 0, none⟩ fv') K' xb fv' rv tv F' X := by
  have hT := turn_set W xb 0 fv'
  exact {
    xc := h.xc.set fv'
    fr := owns_turn ho hT fun b hb e => owns_apart h.xc ho (by decide) (by rw [hb, e])
    er := owns_turn h.er hT fun b hb e => owns_apart h.xc h.er (by decide) (by rw [hb, e])
    xt := fun p hp => ((h.xt p hp).mono hK).turn hT fun b hb e => owns_apart h.xc (h.xt p hp).1 (by decide) (by rw [hb, e])
    Kx := hK _ h.Kx
    Kf := hf
    Kt := fun b hb => hK _ (h.Kt b hb)
    lt := fun i hi => by rw [set_size]; exact hlt i hi }
/-- The events' cell is set. -/
theorem Rk.setT (h : Rk W K xb fv rv tv F X) {tv' : Value} {X' : List (Ev × Value)} (ho : W.ownsRow 0 70 5 tv' X'.length (evCs X')) (hK : ∀ i, K i → K' i) (hx : ∀ p ∈ X', Ot W K' p.2 p.1.l) (hf : ∀ b, tv'.ownBlock = some b → K' b) (hlt : ∀ i, K' i → i < W.heap.size) :
    Rk (W.setCell ⟨xb, 2, none⟩ tv') K' xb fv rv tv' F X' := by
  have hT := turn_set W xb 2 tv'
  exact {
    xc := h.xc.set tv'
    fr := owns_turn h.fr hT fun b hb e => owns_apart h.xc h.fr (by decide) (by rw [hb, e])
    er := owns_turn ho hT fun b hb e => owns_apart h.xc ho (by decide) (by rw [hb, e])
    xt := fun p hp => (hx p hp).turn hT fun b hb e => owns_apart h.xc (hx p hp).1 (by decide) (by rw [hb, e])
    Kx := hK _ h.Kx
    Kf := fun b hb => hK _ (h.Kf b hb)
    Kt := hf
    lt := fun i hi => by rw [set_size]; exact hlt i hi }
/-- The two cells of a file. -/
theorem fl_at {W : World} {B : Nat} {v : Value} {P : Fls} (h : W.ownsRow B 73 2 v P.length (flCs P)) {j : Nat} {p : Txt × Txt} (hj : P[j]? = some p) :
    ∃ g cap, v = .slice (some ⟨g, 0, none⟩) P.length cap ∧ P.length ≤ cap ∧ W.cell? ⟨g, j * 2, none⟩ = some (str p.1) ∧ W.cell? ⟨g, j * 2 + 1, none⟩ = some (str p.2) := by
  rcases h.2 with ⟨_, h0⟩ | ⟨g, cap, cur, hv, hb, hc, h1, h1', h2, h3⟩
  · rw [List.eq_nil_of_length_eq_zero h0] at hj
    simp at hj
  · have key : ∀ i u, [str p.1, str p.2][i]? = some u → W.cell? ⟨g, j * 2 + i, none⟩ = some u := by
      intro i u hu
      have hf := flat_at 2 (flL P) (flL_len P) j [str p.1, str p.2] (by simp [flL, hj]) i u hu
      rw [flL_flat] at hf
      have hlt := (List.getElem?_eq_some_iff.1 hf).1
      rw [flCs_len] at hlt
      have e1 : W.cell? ⟨g, j * 2 + i, none⟩ = cur[j * 2 + i]? := by simp [World.cell?, hc]
      rw [e1, ← Array.getElem?_toList, ← List.getElem?_take_of_lt hlt, h3]
      exact hf
    exact ⟨g, cap, hv, h1, key 0 _ rfl, key 1 _ rfl⟩
abbrev xP (xb : Nat) : Value := .pointer (some ⟨xb, 0, none⟩)
/-- A place, or none. -/
def idxV : Option Nat → Int
  | some i => i
  | none => -1
def idxF (F : Fls) (k : Txt) : Option Nat := F.findIdx? fun p => p.1 == k

set_option maxRecDepth 100000 in
set_option maxHeartbeats 2000000 in
theorem rfind_any (h : Rk W K xb fv rv tv F X) (k : Txt) (hF : F.length < 60000) :
    Calls Tryd.prog 52 #[xP xb, str k] W fun e w' => e = .returned (.int .i64 (idxV (idxF F k))) ∧ w' = W := by
  have c0 : W.cell? ⟨xb, 0, none⟩ = some fv := h.xc.cell 0
  have HFR : Hid (W.ownsRow 0 73 2 fv F.length (flCs F)) := h.fr
  obtain ⟨adf, capf, rfl⟩ := owns_slice h.fr
  clear h
  go_enter Tryd.func52, Tryd.ntmps52
  go_wp2_with fail
  go_loopw [5] (fun v5 wr => ∃ i : Nat, v5 = .int .i64 i ∧ i ≤ F.length ∧ wr = W ∧ Hid (∀ j q, j < i → F[j]? = some q → (q.1 == k) = false)) (fun v5 _ => F.length - (intOf v5).toNat)
  case atStart => exact ⟨0, rfl, Nat.zero_le _, rfl, fun j q hj => absurd hj (Nat.not_lt_zero _)⟩
  case round =>
    obtain ⟨i, rfl, hi, rfl, HI⟩ := hrel
    by_cases hil : i < F.length
    · obtain ⟨p, hp⟩ : ∃ p, F[i]? = some p := ⟨_, List.getElem?_eq_getElem hil⟩
      obtain ⟨g, cap, hv, _, d0, d1⟩ := fl_at HFR.out hp
      cases hv
      have HP : Hid (F[i]? = some p) := hp
      clear hp d1
      cases hk : (p.1 == k)
      · have HI2 : Hid (∀ j q, j < i + 1 → F[j]? = some q → (q.1 == k) = false) := fun j q hj hq => by
          rcases Nat.lt_or_ge j i with h1 | h1
          · exact HI.out j q h1 hq
          · rw [show j = i by omega, HP.out] at hq
            cases hq
            exact hk
        go_wp2_with fail
        exact ⟨⟨i + 1, by simp, by omega, trivial, HI2⟩, by simp [intOf]; omega⟩
      · have HR : Hid (idxF F k = some i) := by
          unfold Hid idxF
          rw [List.findIdx?_eq_some_iff_getElem]
          refine ⟨hil, ?_, fun j hj => ?_⟩
          · rw [(List.getElem?_eq_some_iff.1 HP.out).2]; exact hk
          · rw [HI.out j F[j] hj (List.getElem?_eq_getElem _)]
            simp
        go_wp2_with fail
        go_ret
        exact ⟨by rw [HR.out]; rfl, rfl⟩
    · have hiz : i = F.length := by omega
      have HR : Hid (idxF F k = none) := by
        unfold Hid idxF
        rw [List.findIdx?_eq_none_iff]
        intro q hq
        obtain ⟨j, hj⟩ := List.mem_iff_getElem?.1 hq
        exact HI.out j q (by have := (List.getElem?_eq_some_iff.1 hj).1; omega) hj
      subst hiz
      go_wp2_with fail
      go_ret
      exact ⟨by rw [HR.out]; rfl, rfl⟩
end Go.Proofs.YthhghkjgffcpeaaDoor

/- Calls. -/
import Derived.Test.YtfafhjglcaikoaaGreatDoorH25
import Derived.Test.YtfafhjglcaikoaaGreatDoorH23
/-! builtin.Do, name by name: add, exit, read, and what is none of them. -/
namespace Go.Proofs.YtfafhjglcaikoaaGreatDoor
open Go.RowKit Go.Shelf
attribute [local go_sem] Oper.semAt_some

set_option maxRecDepth 100000 in
set_option maxHeartbeats 800000 in
theorem do_exit (s : ByteArray) (v : Value) (l : List (List UInt8)) (w : World) (h : Tx w v l) (hn : l.length < 35184372088832) :
    Calls Tryz.prog 111 #[.string ⟨#[101, 120, 105, 116]⟩, .string s, v] w fun e w' => e = .returned (.tuple #[ocV ⟨[], s.data.toList, endR l, [], [], true⟩, .bool true]) ∧ Below w.heap.size w w' := by
  have HS : Hid (∀ W, Below w.heap.size w W → Calls Tryz.prog 155 #[v] W fun e w' => e = .returned (.int .i64 (endR l)) ∧ w' = W) := fun W hW => ending_cmd v l W (h.below hW (Nat.le_refl _)) (by omega)
  obtain ⟨ad, cap, rfl⟩ := h.form
  obtain ⟨r, hr⟩ : ∃ r, endR l = r := ⟨_, rfl⟩
  rw [hr] at HS ⊢
  clear h hr
  go_enter Tryz.func111, Tryz.ntmps111
  go_wp2_with fail
  refine (HS.out _ (two_newB w _ _)).mono ?_
  rintro e w2 ⟨rfl, hw2⟩
  obtain rfl := hw2.symm
  go_wp2_with fail
  exact bodyPost_ret (v := .tuple #[ocV ⟨[], s.data.toList, r, [], [], true⟩, .bool true]) (by simp [results, Tryz.results111, go_sem]) rfl ⟨rfl, two_newB w _ _⟩
set_option maxRecDepth 100000 in
set_option maxHeartbeats 800000 in
theorem do_read (s : ByteArray) (v : Value) (l : List (List UInt8)) (w : World) (h : Tx w v l) (hn : l.length < 35184372088832) (hz : s.size < 35184372088832) :
    Calls Tryz.prog 111 #[.string ⟨#[114, 101, 97, 100]⟩, .string s, v] w fun e w' => e = .returned (.tuple #[ocV (readR s.data.toList l), .bool true]) ∧ Below w.heap.size w w' := by
  have HS : Hid (∀ W, Below w.heap.size w W → Calls Tryz.prog 158 #[.string s, v] W fun e w' => e = .returned (ocV (readR s.data.toList l)) ∧ Below W.heap.size W w') := fun W hW => read_cmd s v l W hz (h.below hW (Nat.le_refl _)) (by omega)
  obtain ⟨ad, cap, rfl⟩ := h.form
  obtain ⟨⟨o0, o1, o2, o3, o4, o5⟩, hr⟩ : ∃ r, readR s.data.toList l = r := ⟨_, rfl⟩
  rw [hr] at HS ⊢
  clear h hr
  go_enter Tryz.func111, Tryz.ntmps111
  go_wp2_with fail
  refine (HS.out _ (two_newB w _ _)).mono ?_
  rintro e w2 ⟨rfl, hw2⟩
  obtain ⟨hc2, hf2⟩ := bcell hw2
  go_wp2_with fail
  exact bodyPost_ret (results_oc rfl _ _ w.heap.size _ rfl (((((((((Cel.first hw2).other (by omega) _).other (by omega) _).other (by omega) _).other (by omega) _).other (by omega) _).other (by omega) _)).six _ _ _ _ _ _) rfl) rfl ⟨rfl, set6 _ _ _ _ _ _ (set6 _ _ _ _ _ _ ((two_newB w _ _).trans (hw2.mono (by simp; omega))) (by simp)) (Nat.le_refl _)⟩
set_option maxRecDepth 100000 in
set_option maxHeartbeats 800000 in
theorem do_none (nm s : ByteArray) (v : Value) (l : List (List UInt8)) (w : World) (h : Tx w v l) (h0 : (nm.toList == [97, 100, 100]) = false) (h1 : (nm.toList == [99, 97, 116]) = false) (h2 : (nm.toList == [101, 99, 104, 111]) = false) (h3 : (nm.toList == [101, 113]) = false) (h4 : (nm.toList == [101, 120, 105, 116]) = false) (h5 : (nm.toList == [102, 97, 108, 115, 101]) = false) (h6 : (nm.toList == [108, 101, 115, 115]) = false) (h7 : (nm.toList == [108, 105, 107, 101]) = false) (h8 : (nm.toList == [112, 117, 116]) = false) (h9 : (nm.toList == [114, 101, 97, 100]) = false) (h10 : (nm.toList == [116, 114, 117, 101]) = false) :
    Calls Tryz.prog 111 #[.string nm, .string s, v] w fun e w' => e = .returned (.tuple #[ocV ⟨[], [], 0, [], [], false⟩, .bool false]) ∧ Below w.heap.size w w' := by
  obtain ⟨ad, cap, rfl⟩ := h.form
  clear h
  go_enter Tryz.func111, Tryz.ntmps111
  go_wp2_with fail
  exact bodyPost_ret (v := .tuple #[ocV ⟨[], [], 0, [], [], false⟩, .bool false]) (by simp [results, Tryz.results111, go_sem]) rfl ⟨rfl, two_newB w _ _⟩
end Go.Proofs.YtfafhjglcaikoaaGreatDoor
namespace Go.Proofs.YtfafhjglcaikoaaGreatDoor
open Go.RowKit
attribute [local go_sem] Oper.semAt_some

variable {W W' : World} {K : Nat → Prop} {rb cb sb kb : Nat} {s : Sh} {ea : Nat → Addr} {f : List Nd → Sh → Option Cr} {g : List Nd → Sh → Option Wr}
theorem sumT_le : ∀ (l : List Txt), (∀ t ∈ l, t.length ≤ 2000) → sumT l ≤ l.length * 2000
  | [], _ => by simp [sumT]
  | t :: l, h => by
    have h1 := sumT_le l (fun q hq => h q (List.mem_cons_of_mem _ hq))
    have h2 := h t List.mem_cons_self
    simp only [sumT, List.map_cons, List.sum_cons, List.length_cons] at *
    omega
theorem line_le (l : Txt) : (lineL l).length ≤ l.length := by
  unfold lineL
  exact (List.takeWhile_sublist _).length_le
/-- No outcome. -/
abbrev noOc : Oc := ⟨[], [], 0, [], [], false⟩
theorem do_any (nm hd : Txt) (l : List Txt) (v : Value) (q : Option Oc) (h : Tx W v l) (hl : fitsB l = true) (hh : hd.length < 100000) (hq : doP nm hd l = some q) :
    Calls Tryz.prog 111 #[str nm, str hd, v] W fun e w' => e = .returned (.tuple #[ocV (q.getD noOc), .bool q.isSome]) ∧ Below W.heap.size W w' := by
  obtain ⟨h1, h2⟩ := (fitsB_iff l).1 hl
  have h3 := sumT_le l h2
  have hz : (⟨hd.toArray⟩ : ByteArray).size = hd.length := by show hd.toArray.size = _; simp
  unfold doP at hq
  by_cases e1 : nm = [101, 99, 104, 111]
  · subst e1
    obtain rfl := by simpa using hq
    exact do_echo ⟨hd.toArray⟩ v l W h (by omega) (by omega)
  rw [if_neg e1] at hq
  by_cases e2 : nm = [112, 117, 116]
  · subst e2
    obtain rfl := by simpa using hq
    exact do_put ⟨hd.toArray⟩ v l W h (by omega) (by omega)
  rw [if_neg e2] at hq
  by_cases e3 : nm = [99, 97, 116]
  · subst e3
    obtain rfl := by simpa using hq
    exact do_cat ⟨hd.toArray⟩ v l W h
  rw [if_neg e3] at hq
  by_cases e4 : nm = [116, 114, 117, 101]
  · subst e4
    obtain rfl := by simpa using hq
    exact do_true ⟨hd.toArray⟩ v l W h
  rw [if_neg e4] at hq
  by_cases e5 : nm = [102, 97, 108, 115, 101]
  · subst e5
    obtain rfl := by simpa using hq
    exact do_false ⟨hd.toArray⟩ v l W h
  rw [if_neg e5] at hq
  by_cases e6 : nm = [114, 101, 97, 100]
  · subst e6
    obtain rfl := by simpa using hq
    exact do_read ⟨hd.toArray⟩ v l W h (by omega) (by omega)
  rw [if_neg e6] at hq
  by_cases e7 : nm = [101, 120, 105, 116]
  · subst e7
    obtain rfl := by simpa using hq
    exact do_exit ⟨hd.toArray⟩ v l W h (by omega)
  rw [if_neg e7] at hq
  by_cases e8 : nm = [101, 113]
  · subst e8
    obtain rfl := by simpa using hq
    exact do_eq ⟨hd.toArray⟩ v l W h (by omega)
  rw [if_neg e8] at hq
  by_cases e9 : nm = [97, 100, 100] ∨ nm = [108, 101, 115, 115] ∨ nm = [108, 105, 107, 101]
  · rw [if_pos e9] at hq
    cases hq
  rw [if_neg e9] at hq
  obtain rfl := by simpa using hq
  simp only [not_or] at e9
  have key : ∀ t : Txt, nm ≠ t → ((⟨nm.toArray⟩ : ByteArray).toList == t) = false := fun t ht => by
    have : (⟨nm.toArray⟩ : ByteArray).toList = nm := by simp [ByteArray.toList_eq]
    rw [this]
    simpa using ht
  exact do_none ⟨nm.toArray⟩ ⟨hd.toArray⟩ v l W h (key _ e9.1) (key _ e3) (key _ e1) (key _ e8) (key _ e7) (key _ e5) (key _ e9.2.1) (key _ e9.2.2) (key _ e2) (key _ e6) (key _ e4)
theorem doP_small (nm hd : Txt) (l : List Txt) (o : Oc) (hl : fitsB l = true) (hh : hd.length < 100000) (hq : doP nm hd l = some (some o)) : o.out.length < 4294967296 ∧ o.name.length < 100000 ∧ o.value.length < 4294967296 := by
  obtain ⟨h1, h2⟩ := (fitsB_iff l).1 hl
  have h3 := sumT_le l h2
  have h4 := join_len l
  have hz : ∀ o' : Oc, some (some o') = some (some o) → o' = o := fun o' h => by simpa using h
  unfold doP at hq
  by_cases e1 : nm = [101, 99, 104, 111]
  · rw [if_pos e1] at hq
    obtain rfl := hz _ hq
    exact ⟨by simp; omega, by simp, by simp⟩
  rw [if_neg e1] at hq
  by_cases e2 : nm = [112, 117, 116]
  · rw [if_pos e2] at hq
    obtain rfl := hz _ hq
    exact ⟨by show (Lib.join l [32]).length < _; omega, by simp, by simp⟩
  rw [if_neg e2] at hq
  by_cases e3 : nm = [99, 97, 116]
  · rw [if_pos e3] at hq
    obtain rfl := hz _ hq
    exact ⟨by show hd.length < _; omega, by simp, by simp⟩
  rw [if_neg e3] at hq
  by_cases e4 : nm = [116, 114, 117, 101]
  · rw [if_pos e4] at hq
    obtain rfl := hz _ hq
    exact ⟨by simp, by simp, by simp⟩
  rw [if_neg e4] at hq
  by_cases e5 : nm = [102, 97, 108, 115, 101]
  · rw [if_pos e5] at hq
    obtain rfl := hz _ hq
    exact ⟨by simp, by simp, by simp⟩
  rw [if_neg e5] at hq
  by_cases e6 : nm = [114, 101, 97, 100]
  · rw [if_pos e6] at hq
    obtain rfl := hz _ hq
    have hll := line_le hd
    unfold readR
    split
    · rename_i a
      have := h2 a (by simp)
      split
      · exact ⟨by simp, by show a.length < _; omega, by show (lineL hd).length < _; omega⟩
      · exact ⟨by simp, by simp, by simp⟩
    · exact ⟨by simp, by simp, by simp⟩
  rw [if_neg e6] at hq
  by_cases e7 : nm = [101, 120, 105, 116]
  · rw [if_pos e7] at hq
    obtain rfl := hz _ hq
    exact ⟨by simp, by simp, by simp⟩
  rw [if_neg e7] at hq
  by_cases e8 : nm = [101, 113]
  · rw [if_pos e8] at hq
    obtain rfl := hz _ hq
    exact ⟨by simp, by simp, by simp⟩
  rw [if_neg e8] at hq
  by_cases e9 : nm = [97, 100, 100] ∨ nm = [108, 101, 115, 115] ∨ nm = [108, 105, 107, 101]
  · rw [if_pos e9] at hq
    cases hq
  rw [if_neg e9] at hq
  simp at hq
/-- The items behind the first. -/
theorem Tx.tail {g o cap : Nat} {t : Txt} {l : List Txt} (h : Tx W (.slice (some ⟨g, o, none⟩) (t :: l).length cap) (t :: l)) : Tx W (.slice (some ⟨g, o + 1, none⟩) l.length (cap - 1)) l := by
  obtain ⟨g', o', cap', hv, hc, hg, hcs⟩ := h.inRow (by simp)
  cases hv
  refine .inr ⟨⟨g, o + 1, none⟩, cap - 1, rfl, by simp at hc; omega, fun _ => ⟨g, o + 1, rfl, hg, fun k p hp => ?_⟩⟩
  have := hcs (k + 1) p hp
  rw [show o + 1 + k = o + (k + 1) by omega]
  exact this
theorem fits_tail {t : Txt} {l : List Txt} (h : fitsB (t :: l) = true) : fitsB l = true ∧ t.length ≤ 2000 := by
  obtain ⟨h1, h2⟩ := (fitsB_iff _).1 h
  exact ⟨(fitsB_iff _).2 ⟨by simp at h1; omega, fun q hq => h2 q (List.mem_cons_of_mem _ hq)⟩, h2 t List.mem_cons_self⟩
/-- What cat answers fits. -/
theorem catS_fits {most : Nat} : ∀ {ks : List (List Nd)} {s : Sh} {m : List Txt} {r : Wr}, fitsB m = true → catS g most ks s m = some r → fitsB r.2.1 = true
  | [], s, m, r, hm, h => by
    obtain rfl : (s, m, .ok) = r := by simpa [catS] using h
    exact hm
  | k :: ks, s, m, r, hm, h => by
    obtain ⟨s1, l, y, _, hno, hyes⟩ := catS_cons h
    by_cases hy : y = .ok
    · obtain ⟨_, _, ⟨_, rfl⟩ | ⟨_, _, rfl⟩ | ⟨h1, _, h2⟩⟩ := hyes hy
      · rfl
      · rfl
      · exact catS_fits h1 h2
    · rw [hno hy]
      rfl
/-- What is called, behind its words. -/
def callB (f : List Nd → Sh → Option Cr) (nm : Txt) (l : List Txt) (s1 : Sh) : Option Cr :=
  if okB s1 then
    if hasM s1.H nm then framedS f (getM s1.H nm []) l s1
    else match doP nm s1.hd l with
      | none => none
      | some (some o) => some (followP s1 o)
      | some none => some (execP s1 nm l)
  else none
theorem callS_some {ks : List (List Nd)} {r : Cr} (h : callS f g ks s = some r) : ∃ s1 l x, catS g 100 ks s [] = some (s1, l, x) ∧ (x ≠ .ok → r = (s1, 0, x)) ∧ (x = .ok → l = [] → r = (s1, 0, .ok)) ∧ (x = .ok → ∀ nm l', l = nm :: l' → callB f nm l' s1 = some r) := by
  unfold callS at h
  cases hk : catS g 100 ks s [] with
  | none => simp [hk] at h
  | some q =>
    obtain ⟨s1, l, x⟩ := q
    refine ⟨s1, l, x, rfl, fun hx => ?_, fun hx hl => ?_, fun hx nm l' hl => ?_⟩
    · cases l <;> cases x <;> first | exact absurd rfl hx | simpa [hk] using h.symm
    · subst hx hl
      simpa [hk] using h.symm
    · subst hx hl
      simp only [hk] at h
      exact h
end Go.Proofs.YtfafhjglcaikoaaGreatDoor

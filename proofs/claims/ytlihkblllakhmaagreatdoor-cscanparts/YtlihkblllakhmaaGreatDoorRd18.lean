/- The commands of a source. -/
import Derived.Test.YtlihkblllakhmaaGreatDoorRd17
namespace Go.Proofs.YtlihkblllakhmaaGreatDoor
open Go.RowKit
attribute [local go_sem] Oper.semAt_some

/-! ### commands in memory -/
abbrev Mc : Type := Value × Nat × List (Value × Wd)
def toCm (q : Mc) : Cm := ⟨q.2.1, q.2.2.map Prod.snd⟩
abbrev cmC (q : Mc) : List Value := [.int .i64 (q.2.1 : Nat), q.1]
def cmCs (K : List Mc) : List Value := K.flatMap cmC
theorem cmCs_append (X Y : List Mc) : cmCs (X ++ Y) = cmCs X ++ cmCs Y := by simp [cmCs]
theorem cmCs_one (q : Mc) : cmCs [q] = cmC q := by simp [cmCs]
/-- Commands of one's own, and their words. -/
structure CmOwn (W : World) (B : Nat) (v : Value) (K : List Mc) : Prop where
  row : W.ownsRow B 39 2 v K.length (cmCs K)
  words : ∀ q ∈ K, WdOwn W B q.1 q.2.2
theorem CmOwn.nil (W : World) (B : Nat) : CmOwn W B (.slice none 0 0) [] := ⟨World.ownsRow_nil W B _ _, fun q h => by cases h⟩
theorem CmOwn.turn {W W' : World} {B : Nat} {v : Value} {K : List Mc} {S : Nat → Prop} (h : CmOwn W B v K) (hT : Turn S W W') (hS : ∀ i, S i → i < B) : CmOwn W' B v K := by
  refine ⟨owns_turn h.row hT fun g hg hs => ?_, fun q hq => (h.words q hq).turn hT hS⟩
  have := (World.ownsRow.lt h.row g hg).1
  have := hS g hs
  omega
theorem CmOwn.below {W W' : World} {B : Nat} {v : Value} {K : List Mc} (h : CmOwn W B v K) (hb : Below W.heap.size W W') : CmOwn W' B v K := h.turn (Turn.ofBelow (S := fun _ => False) hb) (fun _ e => e.elim)
theorem CmOwn.form {W : World} {B : Nat} {v : Value} {K : List Mc} (h : CmOwn W B v K) : ∃ ad cap, v = .slice ad K.length cap := owns_slice h.row
theorem CmOwn.lower {W : World} {B B' : Nat} {v : Value} {K : List Mc} (h : CmOwn W B v K) (hB : B' ≤ B) : CmOwn W B' v K := ⟨owns_lower h.row hB, fun q hq => (h.words q hq).lower hB⟩
theorem PtOwn.grown2 {X w6 : World} {B B' n : Nat} {v row : Value} {P : List Pt} {xs : List Value} (h : PtOwn X B v P) (hr : X.ownsRow B' 39 2 row n xs) (hg : X.grownBy w6 row.ownBlock) : PtOwn w6 B v P :=
  owns_turn h (Turn.ofGrown hg) (fun b hb e => owns_apart2 h hr (by decide) b hb e)
theorem WdOwn.grown2 {X w6 : World} {B B' n : Nat} {v row : Value} {K : List (Value × Wd)} {xs : List Value} (h : WdOwn X B v K) (hr : X.ownsRow B' 39 2 row n xs) (hg : X.grownBy w6 row.ownBlock) : WdOwn w6 B v K :=
  ⟨owns_turn h.row (Turn.ofGrown hg) (fun b hb e => owns_apart2 h.row hr (by decide) b hb e), fun q hq => (h.parts q hq).grown2 hr hg⟩
theorem infoM : (Tryz.prog.info? 39).map (fun i => (i.zero, i.size, i.bytes)) = some (some (.agg zM), 2, 32) := by kernel_rfl
theorem new_any (s : ByteArray) (w : World) (hs : s.size ≤ 8192) :
    Calls Tryz.prog 19 #[.string s] w fun e w' => e = .returned (.tuple #[.pointer (some ⟨w.heap.size, 0, none⟩), .nilIface]) ∧ w' = w.alloc (.cells #[.string s] 87) := by
  have hd : decide ((8192 : Int) < (s.size : Int)) = false := by simp; omega
  go_enter Tryz.func19, Tryz.ntmps19
  go_wp2_with fail
  go_ret2
  exact ⟨rfl, rfl⟩
theorem new_long (s : ByteArray) (w : World) (ea : Nat → Addr) (hE : Env w ea) (hs : 8192 < s.size) :
    Calls Tryz.prog 19 #[.string s] w fun e w' => e = .returned (.tuple #[.pointer none, errV (ea 0)]) ∧ ∃ m, w' = w.drewN m := by
  have hs' : (8192 : Int) < (s.size : Int) := by omega
  have g0 := hE.cell 0 (by omega)
  clear hE
  go_enter Tryz.func19, Tryz.ntmps19
  go_wp2_with fail
  go_quiet (fail)
  go_wp2_with fail
  go_ret2
  exact ⟨rfl, _, rfl⟩
theorem scan_long (s : ByteArray) (W : World) (ea : Nat → Addr) (hE : Env W ea) (hs : 8192 < s.size) :
    Calls Tryz.prog 8 #[.string s] W fun e w' => e = .returned (.tuple #[.slice none 0 0, errV (ea 0)]) ∧ ∃ m, w' = W.drewN m := by
  have HN : Hid _ := new_long s W ea hE hs
  clear hE
  go_enter Tryz.func8, Tryz.ntmps8
  go_wp2_with fail
  refine Calls.mono HN.out ?_
  rintro e w1 ⟨rfl, m, hw⟩
  have HW : Hid (w1 = W.drewN m) := hw
  clear hw HN
  go_wp2_with fail
  go_ret2
  exact ⟨rfl, m, HW.out⟩
/-! ### the loop -/
def preM (acc : List Cm) (R : Except Er (List Cm)) : Except Er (List Cm) := match R with
  | .error e => .error e
  | .ok l => .ok (acc ++ l)
theorem preM_pre (a b : List Cm) (R : Except Er (List Cm)) : preM a (preM b R) = preM (a ++ b) R := by
  cases R with
  | error e => rfl
  | ok q => simp [preM]
theorem preM_nil (R : Except Er (List Cm)) : preM [] R = R := by cases R <;> rfl
theorem scan_nil (T : List UInt8 → Except Er (Cm × List UInt8)) (f : Nat) : scanW T f [] = .ok [] := by cases f <;> rfl
theorem scan_err (T : List UInt8 → Except Er (Cm × List UInt8)) (f : Nat) (c : UInt8) (t : List UInt8) (x : Er) (h : T (c :: t) = .error x) : scanW T (f + 1) (c :: t) = .error x := by rw [scanW, h]
theorem scan_more (T : List UInt8 → Except Er (Cm × List UInt8)) (f : Nat) (c : UInt8) (t u : List UInt8) (m : Cm) (h : T (c :: t) = .ok (m, u)) : scanW T (f + 1) (c :: t) = preM (if m.words.isEmpty then [] else [m]) (scanW T f u) := by
  rw [scanW, h]
  simp only
  cases scanW T f u with
  | error e => rfl
  | ok l =>
    simp only [preM]
    split <;> rfl
theorem word_le {N : Nat} {l : List UInt8} {w : Wd} {u : List UInt8} (h : wordL N l = .ok (w, u)) : u.length ≤ l.length := by
  unfold wordL at h
  split at h
  · cases hb : passB 0 l.tail with
    | none => rw [hb] at h; cases h
    | some v =>
      rw [hb] at h
      have h1 := passB_lt _ _ _ _ (Nat.le_refl _) hb
      rw [List.length_tail] at h1
      rw [closed_ok h]
      omega
  · split at h
    · cases hp : partsL N [34] l.length l.tail with
      | error x => rw [hp] at h; cases h
      | ok r =>
        obtain ⟨ps, v⟩ := r
        have h1 := parts_le _ _ _ _ _ _ hp
        rw [List.length_tail] at h1
        rw [hp] at h
        cases v with
        | nil => cases h
        | cons d v =>
          simp only at h
          rw [closed_ok h]
          simp only [List.length_cons] at h1
          omega
    · cases hp : partsL N endS l.length l with
      | error x => rw [hp] at h; cases h
      | ok r =>
        obtain ⟨ps, v⟩ := r
        rw [hp] at h
        cases h
        exact parts_le _ _ _ _ _ _ hp
theorem words_le (N : Nat) : ∀ (f : Nat) (l : List UInt8) (ws : List Wd) (u : List UInt8), wordsL N f l = .ok (ws, u) → u.length ≤ l.length
  | 0, l, ws, u, h => by cases h; exact Nat.le_refl _
  | f + 1, [], ws, u, h => by cases h; exact Nat.le_refl _
  | f + 1, c :: t, ws, u, h => by
    cases hc : sepS.contains c with
    | true => rw [words_stop _ _ _ _ hc] at h; cases h; exact Nat.le_refl _
    | false =>
      cases hp : wordL N (c :: t) with
      | error x => rw [words_err _ _ _ _ hc x hp] at h; cases h
      | ok r =>
        obtain ⟨w, v⟩ := r
        have h1 := word_le hp
        rw [words_ok _ _ _ _ hc w v hp] at h
        cases hq : wordsL N f (v.dropWhile blk) with
        | error x => rw [hq] at h; cases h
        | ok r2 =>
          obtain ⟨ws2, u2⟩ := r2
          rw [hq] at h
          cases h
          exact Nat.le_trans (words_le N f _ ws2 u2 hq) (Nat.le_trans (List.dropWhile_sublist _).length_le h1)
theorem over_len (l : List UInt8) : (over l).length ≤ l.length := by
  unfold over overC
  have h1 : (l.dropWhile blk).length ≤ l.length := (List.dropWhile_sublist _).length_le
  split
  · exact Nat.le_trans (List.dropWhile_sublist _).length_le h1
  · exact h1
theorem command_lt {N : Nat} {c : UInt8} {t u : List UInt8} {m : Cm} (h : commandL N (c :: t) = .ok (m, u)) : u.length < (c :: t).length := by
  unfold commandL at h
  cases hq : wordsL N (over (c :: t)).length (over (c :: t)) with
  | error x => rw [hq] at h; cases h
  | ok r =>
    obtain ⟨ws, v⟩ := r
    rw [hq] at h
    cases h
    have h1 := words_le _ _ _ _ _ hq
    have h2 := over_len (c :: t)
    rw [List.length_tail]
    simp only [List.length_cons] at h2 ⊢
    omega
end Go.Proofs.YtlihkblllakhmaaGreatDoor

/- The commands of a source. -/
import Derived.Test.YtlihkblllakhmaaGreatDoorRd15
/-! Words in memory; the words of a command: what is plain of them. -/
namespace Go.Proofs.YtlihkblllakhmaaGreatDoor
open Go.RowKit
attribute [local go_sem] Oper.semAt_some

/-! ### words in memory -/
abbrev wdC (q : Value × Wd) : List Value := [.int .i64 (q.2.pos : Nat), .bool q.2.braced, q.1]
def wdCs (K : List (Value × Wd)) : List Value := K.flatMap wdC
theorem wdCs_append (X Y : List (Value × Wd)) : wdCs (X ++ Y) = wdCs X ++ wdCs Y := by simp [wdCs]
theorem wdCs_one (q : Value × Wd) : wdCs [q] = wdC q := by simp [wdCs]
/-- Words of one's own, and their parts. -/
structure WdOwn (W : World) (B : Nat) (v : Value) (K : List (Value × Wd)) : Prop where
  row : W.ownsRow B 44 3 v K.length (wdCs K)
  parts : ∀ q ∈ K, PtOwn W B q.1 q.2.parts
theorem WdOwn.nil (W : World) (B : Nat) : WdOwn W B (.slice none 0 0) [] := ⟨World.ownsRow_nil W B _ _, fun q h => by cases h⟩
theorem WdOwn.turn {W W' : World} {B : Nat} {v : Value} {K : List (Value × Wd)} {S : Nat → Prop} (h : WdOwn W B v K) (hT : Turn S W W') (hS : ∀ i, S i → i < B) : WdOwn W' B v K := by
  refine ⟨owns_turn h.row hT fun g hg hs => ?_, fun q hq => (h.parts q hq).turn hT hS⟩
  have := (World.ownsRow.lt h.row g hg).1
  have := hS g hs
  omega
theorem WdOwn.below {W W' : World} {B : Nat} {v : Value} {K : List (Value × Wd)} (h : WdOwn W B v K) (hb : Below W.heap.size W W') : WdOwn W' B v K := h.turn (Turn.ofBelow (S := fun _ => False) hb) (fun _ e => e.elim)
theorem WdOwn.form {W : World} {B : Nat} {v : Value} {K : List (Value × Wd)} (h : WdOwn W B v K) : ∃ ad cap, v = .slice ad K.length cap := owns_slice h.row
theorem WdOwn.lower {W : World} {B B' : Nat} {v : Value} {K : List (Value × Wd)} (h : WdOwn W B v K) (hB : B' ≤ B) : WdOwn W B' v K := ⟨owns_lower h.row hB, fun q hq => (h.parts q hq).lower hB⟩
theorem PtOwn.grown {X w6 : World} {B B' n : Nat} {v row : Value} {P : List Pt} {xs : List Value} (h : PtOwn X B v P) (hr : X.ownsRow B' 44 3 row n xs) (hg : X.grownBy w6 row.ownBlock) : PtOwn w6 B v P :=
  owns_turn h (Turn.ofGrown hg) (fun b hb e => owns_apart2 h hr (by decide) b hb e)
theorem infoW : (Tryz.prog.info? 44).map (fun i => (i.zero, i.size, i.bytes)) = some (some (.agg zW), 3, 40) := by kernel_rfl
/-! ### words, plainly -/
def preW (acc : List Wd) (R : Except Er (List Wd × List UInt8)) : Except Er (List Wd × List UInt8) := match R with
  | .error e => .error e
  | .ok q => .ok (acc ++ q.1, q.2)
theorem preW_pre (a b : List Wd) (R : Except Er (List Wd × List UInt8)) : preW a (preW b R) = preW (a ++ b) R := by
  cases R with
  | error e => rfl
  | ok q => simp [preW]
theorem preW_nil (R : Except Er (List Wd × List UInt8)) : preW [] R = R := by cases R <;> rfl
theorem words_nil (N f : Nat) : wordsL N f [] = .ok ([], []) := by cases f <;> rfl
theorem words_stop (N f : Nat) (c : UInt8) (t : List UInt8) (h : sepS.contains c = true) : wordsL N f (c :: t) = .ok ([], c :: t) := by
  cases f with
  | zero => rfl
  | succ f => rw [wordsL, if_pos h]
theorem words_err (N f : Nat) (c : UInt8) (t : List UInt8) (h : sepS.contains c = false) (x : Er) (hp : wordL N (c :: t) = .error x) : wordsL N (f + 1) (c :: t) = .error x := by
  rw [wordsL, if_neg (by rw [h]; simp), hp]
theorem words_ok (N f : Nat) (c : UInt8) (t : List UInt8) (h : sepS.contains c = false) (w : Wd) (u : List UInt8) (hp : wordL N (c :: t) = .ok (w, u)) : wordsL N (f + 1) (c :: t) = preW [w] (wordsL N f (u.dropWhile blk)) := by
  rw [wordsL, if_neg (by rw [h]; simp), hp]
  simp only
  cases wordsL N f (u.dropWhile blk) <;> rfl
theorem parts_le (N : Nat) (e : List UInt8) : ∀ (f : Nat) (l : List UInt8) (ps : List Pt) (u : List UInt8), partsL N e f l = .ok (ps, u) → u.length ≤ l.length
  | 0, l, ps, u, h => by cases h; exact Nat.le_refl _
  | f + 1, [], ps, u, h => by cases h; exact Nat.le_refl _
  | f + 1, c :: t, ps, u, h => by
    cases hc : e.contains c with
    | true => rw [parts_stop _ _ _ _ _ hc] at h; cases h; exact Nat.le_refl _
    | false =>
      cases hp : partL N e (c :: t) with
      | error x => rw [parts_err _ _ _ _ _ hc x hp] at h; cases h
      | ok r =>
        obtain ⟨p, v⟩ := r
        have h1 := partL_lt hc hp
        rw [parts_ok _ _ _ _ _ hc p v hp] at h
        cases hq : partsL N e f v with
        | error x => rw [hq] at h; cases h
        | ok r2 =>
          obtain ⟨ps2, u2⟩ := r2
          rw [hq] at h
          cases h
          exact Nat.le_trans (parts_le N e f v ps2 u2 hq) (Nat.le_of_lt h1)
theorem parts_lt {N f : Nat} {e : List UInt8} {c : UInt8} {t : List UInt8} {ps : List Pt} {u : List UInt8} (hc : e.contains c = false) (h : partsL N e (f + 1) (c :: t) = .ok (ps, u)) : u.length < (c :: t).length := by
  cases hp : partL N e (c :: t) with
  | error x => rw [parts_err _ _ _ _ _ hc x hp] at h; cases h
  | ok r =>
    obtain ⟨p, v⟩ := r
    have h1 := partL_lt hc hp
    rw [parts_ok _ _ _ _ _ hc p v hp] at h
    cases hq : partsL N e f v with
    | error x => rw [hq] at h; cases h
    | ok r2 =>
      obtain ⟨ps2, u2⟩ := r2
      rw [hq] at h
      cases h
      exact Nat.lt_of_le_of_lt (parts_le N e f v ps2 u2 hq) h1
theorem closed_ok {N : Nat} {w w' : Wd} {u u' : List UInt8} (h : closedL N w u = .ok (w', u')) : u' = u := by
  cases u with
  | nil => cases h; rfl
  | cons c t =>
    rw [closedL] at h
    split at h
    · cases h; rfl
    · cases h
theorem word_lt {N : Nat} {c : UInt8} {t : List UInt8} {w : Wd} {u : List UInt8} (hc : endS.contains c = false) (h : wordL N (c :: t) = .ok (w, u)) : u.length < (c :: t).length := by
  unfold wordL at h
  simp only [List.tail_cons] at h
  split at h
  · cases hb : passB 0 t with
    | none => rw [hb] at h; cases h
    | some v =>
      rw [hb] at h
      have h1 := passB_lt _ _ _ _ (Nat.le_refl _) hb
      rw [closed_ok h, List.length_cons]
      omega
  · split at h
    · cases hp : partsL N [34] (c :: t).length t with
      | error x => rw [hp] at h; cases h
      | ok r =>
        obtain ⟨ps, v⟩ := r
        have h1 := parts_le _ _ _ _ _ _ hp
        rw [hp] at h
        cases v with
        | nil => cases h
        | cons d v =>
          simp only at h
          rw [closed_ok h]
          simp only [List.length_cons] at h1 ⊢
          omega
    · cases hp : partsL N endS (c :: t).length (c :: t) with
      | error x => rw [hp] at h; cases h
      | ok r =>
        obtain ⟨ps, v⟩ := r
        rw [hp] at h
        cases h
        exact parts_lt hc hp
/-- No blank ahead. -/
def NoBlk (l : List UInt8) : Prop := ∀ c t, l = c :: t → blk c = false
theorem noBlk_drop (l : List UInt8) : NoBlk (l.dropWhile blk) := by
  induction l with
  | nil => intro c t e; cases e
  | cons a l ih =>
    intro c t e
    cases h : blk a with
    | true => rw [List.dropWhile_cons, if_pos h] at e; exact ih c t e
    | false => rw [List.dropWhile_cons, if_neg (by rw [h]; simp)] at e; cases e; exact h
theorem nl_drop (l : List UInt8) : ∀ c t, l.dropWhile notNl = c :: t → c = 10 := by
  induction l with
  | nil => intro c t e; cases e
  | cons a l ih =>
    intro c t e
    cases h : notNl a with
    | true => rw [List.dropWhile_cons, if_pos h] at e; exact ih c t e
    | false =>
      rw [List.dropWhile_cons, if_neg (by rw [h]; simp)] at e
      cases e
      simpa [notNl] using h
theorem noBlk_over (l : List UInt8) : NoBlk (over l) := by
  unfold over overC
  split
  · intro c t e
    rw [nl_drop _ c t e]
    rfl
  · exact noBlk_drop l
theorem ends_sep (c : UInt8) (h : sepS.contains c = false) (h' : blk c = false) : endS.contains c = false := by
  simp only [endS, sepS, blk, blkS, List.contains_cons, List.contains_nil, Bool.or_false, Bool.or_eq_false_iff] at h h' ⊢
  exact ⟨h'.1, h'.2, h.1, h.2⟩
end Go.Proofs.YtlihkblllakhmaaGreatDoor
/-! A command. -/
namespace Go.Proofs.YtlihkblllakhmaaGreatDoor
open Go.RowKit
attribute [local go_sem] Oper.semAt_some

theorem sizeM : (Tryz.prog.info? 39).map (·.size) = some 2 := by kernel_rfl
theorem results_cmd {fn : Func} {p u : Tmp} (h : fn.results = #[.cell p 39, .tmp u]) (tmps : Array Value) (w : World) (g : Nat) (cs : Array Value) (hp : tmps.getD p undef = .pointer (some ⟨g, 0, none⟩)) (hc : Cel w g 39 cs) (hz : cs.size = 2) :
    (results fn tmps).run Tryz.prog w = .ok (.tuple #[.agg cs, tmps.getD u undef]) w := by
  rw [results_cell_tmp h, hp]
  simp only [asAddr, Sem.run_pure, Result.andThen]
  rw [run_loadVar_row w g 39 39 cs (0, 0) _ hc Tryz.underlying39 rfl (by rw [hz]; exact sizeM)]
abbrev zM : Array Value := #[.int .i64 0, .slice none 0 0]
def putM (X : World) (g : Nat) (v0 v1 : Value) : World := (X.setCell ⟨g, 0, none⟩ v0).setCell ⟨g, 1, none⟩ v1
theorem Cel.put2 {X : World} {g : Nat} {t : TypeId} {u0 u1 : Value} (h : Cel X g t #[u0, u1]) (v0 v1 : Value) : Cel (putM X g v0 v1) g t #[v0, v1] :=
  (h.set (j := 0) v0).set (j := 1) v1
theorem Stp.put2 {W X : World} {b sb k g : Nat} {s : ByteArray} (h : Stp W b sb s k X) (hb : b < W.heap.size) (hsb : sb < W.heap.size) (hg : W.heap.size ≤ g) (v0 v1 : Value) : Stp W b sb s k (putM X g v0 v1) :=
  (h.other hb hsb hg 0 v0).other hb hsb hg 1 v1
theorem Turn.putM (X : World) (g : Nat) (v0 v1 : Value) : Turn (fun i => i = g) X (putM X g v0 v1) :=
  (Turn.setCell (S := fun i => i = g) (p := ⟨g, 0, none⟩) (Turn.refl _ X) (fun _ => rfl) v0).setCell (p := ⟨g, 1, none⟩) (fun _ => rfl) v1
theorem AtEr.putM {w : World} {g : Nat} {cs : Array Value} {ea : Nat → Addr} {v : Value} {x : Er} (h : AtEr w ea v x) (hc : Cel w g 39 cs) (v0 v1 : Value) : AtEr (putM w g v0 v1) ea v x := by
  refine h.turn (Turn.putM w g v0 v1) (fun i e cs' hc' => ?_)
  subst e
  have := (show w.heap[i]? = _ from hc').symm.trans hc
  simp at this
/-- A command, or an error; where the reader stands behind it. -/
def CmdV (W : World) (b sb : Nat) (s : ByteArray) (ea : Nat → Addr) (R : Except Er (Cm × List UInt8)) (v : Array Value) (ev : Value) (w' : World) : Prop := match R with
  | .ok q => ev = .nilIface ∧ (∃ (K : List (Value × Wd)) (wv : Value), v = #[.int .i64 (q.1.pos : Nat), wv] ∧ K.map Prod.snd = q.1.words ∧ WdOwn w' W.heap.size wv K) ∧ ∃ j, Stp W b sb s j w' ∧ j ≤ s.size + 1 ∧ q.2 = s.data.toList.drop j
  | .error x => v = zM ∧ AtEr w' ea ev x ∧ ∃ j, Stp W b sb s j w'
set_option maxRecDepth 100000 in
set_option maxHeartbeats 8000000 in
theorem command_any {W : World} {b sb k : Nat} {s : ByteArray} {ea : Nat → Addr} (h : Rd W b sb s k) (hE : Env W ea) (hs : s.size ≤ 8192) (hk : k ≤ s.size) (hb64 : (ea 64).block ≤ b) :
    Calls Tryz.prog 21 #[.pointer (some ⟨b, 0, none⟩)] W fun e' w' => ∃ v ev, e' = .returned (.tuple #[.agg v, ev]) ∧ CmdV W b sb s ea (commandL s.size (s.data.toList.drop k)) v ev w' := by
  obtain ⟨i0, hi, hz0, hz1, hz2⟩ := info_parts infoW
  have hlb := h.rd.lt
  have hlsb := h.src.lt
  obtain ⟨W0, hW0⟩ : ∃ W0, W0 = W.alloc (.cells zM 39) := ⟨_, rfl⟩
  have HS0 : Hid (Stp W b sb s k W0) := by rw [hW0]; exact (Stp.refl h).alloc _
  have HQ0 : Hid (Cel W0 W.heap.size 39 zM) := by rw [hW0]; exact Cel.new W _ _
  have hs0 : W0.heap.size = W.heap.size + 1 := by rw [hW0]; simp
  have HW0 : Hid (W.alloc (.cells zM 39) = W0) := hW0.symm
  have HEV : Hid (∀ w j, Stp W b sb s j w → Env w ea) := fun w j hw => hE.stp hw hb64
  have HPB : Hid (∀ w p, p ≤ s.size → Stp W b sb s p w → Calls Tryz.prog 34 #[.pointer (some ⟨b, 0, none⟩)] w fun e w' => e = .returned (.tuple #[]) ∧ ∃ j, Stp w b sb s j w' ∧ p ≤ j ∧ j ≤ s.size ∧ (s.data.toList.drop p).dropWhile blk = s.data.toList.drop j) := fun w p hp hw => passBlanks_any hw.at_ (by omega) hp
  have HPC : Hid (∀ w p, p ≤ s.size → Stp W b sb s p w → Calls Tryz.prog 35 #[.pointer (some ⟨b, 0, none⟩)] w fun e w' => e = .returned (.tuple #[]) ∧ ∃ j, Stp w b sb s j w' ∧ p ≤ j ∧ j ≤ s.size ∧ overC (s.data.toList.drop p) = s.data.toList.drop j) := fun w p hp hw => passComment_any hw.at_ (by omega) hp
  have hnb : ¬ W.heap.size = b := by omega
  clear h hE hW0
  go_enter Tryz.func21, Tryz.ntmps21
  go_wp2_with fail
  rw [HW0.out]
  refine Calls.mono (HPB.out W0 k hk HS0.out) ?_
  rintro e w1 ⟨rfl, j1, hst1, hj1, hj1', hd1⟩
  have HS1 : Hid (Stp W b sb s j1 w1) := HS0.out.trans hst1
  have HQ1 : Hid (Cel w1 W.heap.size 39 zM) := HQ0.out.turn hst1.turn (by omega)
  have hs1 : W0.heap.size ≤ w1.heap.size := hst1.turn.size
  clear hst1 HS0 HQ0 HW0
  go_wp2_with fail
  refine Calls.mono (HPC.out w1 j1 hj1' HS1.out) ?_
  rintro e w2 ⟨rfl, j2, hst2, hj2, hj2', hd2⟩
  have HS2 : Hid (Stp W b sb s j2 w2) := HS1.out.trans hst2
  have HQ2 : Hid (Cel w2 W.heap.size 39 zM) := HQ1.out.turn hst2.turn (by omega)
  have hs2 : w1.heap.size ≤ w2.heap.size := hst2.turn.size
  have HOV : Hid (over (s.data.toList.drop k) = s.data.toList.drop j2) := by unfold Hid over; rw [hd1, hd2]
  have c2 := HS2.out.at_.c1
  obtain ⟨cb, hcb⟩ : ∃ cb, cb = w2.heap.size := ⟨_, rfl⟩
  obtain ⟨W3, hW3⟩ : ∃ W3, W3 = w2.alloc (.cells #[.int .i64 (j2 : Nat), .slice none 0 0] 39) := ⟨_, rfl⟩
  have HW3 : Hid (w2.alloc (.cells #[.int .i64 (j2 : Nat), .slice none 0 0] 39) = W3) := hW3.symm
  have HS3 : Hid (Stp W b sb s j2 W3) := by rw [hW3]; exact HS2.out.alloc _
  have HQ3 : Hid (Cel W3 W.heap.size 39 zM) := by rw [hW3]; exact HQ2.out.below (below_new _ _) HQ2.out.lt
  have HC3 : Hid (Cel W3 cb 39 #[.int .i64 (j2 : Nat), .slice none 0 0]) := by rw [hW3, hcb]; exact Cel.new w2 _ _
  have hs3 : W3.heap.size = cb + 1 := by rw [hW3, hcb]; simp
  have hWc : W.heap.size + 1 ≤ cb := by omega
  have HNB : Hid (NoBlk (s.data.toList.drop j2)) := by unfold Hid; rw [← HOV.out]; exact noBlk_over _
  have HCM : Hid (commandL s.size (s.data.toList.drop k) = match wordsL s.size (s.size - j2) (s.data.toList.drop j2) with | .error x => .error x | .ok q => .ok (⟨j2, q.1⟩, q.2.tail)) := by
    unfold Hid commandL
    rw [HOV.out, len_drop, show s.size - (s.size - j2) = j2 by omega]
    cases wordsL s.size (s.size - j2) (s.data.toList.drop j2) <;> rfl
  obtain ⟨R, HR⟩ : ∃ R, Hid (wordsL s.size (s.size - j2) (s.data.toList.drop j2) = R) := ⟨_, rfl⟩
  clear hst2 hd1 hd2 hW3 HS1 HQ1 HS2 HQ2 HOV
  go_wp2_with fail
  rw [HW3.out, ← hcb]
  have hcbb : ¬ cb = b := by omega
  have hbcb : ¬ b = cb := by omega
  have hcW : ¬ cb = W.heap.size := by omega
  have hWcb : ¬ W.heap.size = cb := by omega
  clear HW3 c2 hcb
  go_loopw [3] (fun v3 wr => ∃ (p g : Nat) (K : List (Value × Wd)) (wv : Value), v3 = .nilIface ∧ p ≤ s.size ∧ s.size - p ≤ g ∧ K.length ≤ p ∧ Hid (R = preW (K.map Prod.snd) (wordsL s.size g (s.data.toList.drop p))) ∧ Hid (NoBlk (s.data.toList.drop p)) ∧ Hid (Stp W b sb s p wr) ∧ Hid (Cel wr W.heap.size 39 zM) ∧ Hid (Cel wr cb 39 #[.int .i64 (j2 : Nat), wv]) ∧ Hid (WdOwn wr (cb + 1) wv K)) (fun _ wr => s.size + 2 - posOf wr b)
  case atStart => exact ⟨j2, s.size - j2, [], .slice none 0 0, rfl, hj2', Nat.le_refl _, Nat.zero_le _, by unfold Hid; rw [← HR.out]; exact (preW_nil _).symm, HNB, HS3, HQ3, HC3, WdOwn.nil _ _⟩
  case round =>
    obtain ⟨p, g, K, wv, rfl, hp, hg, hK, HE, HN, HS, HQ, HC, HO⟩ := hrel
    obtain ⟨wa, wc, rfl⟩ := HO.out.form
    clear HS3 HQ3 HC3 HNB HPC
    have HPO : Hid (posOf wr b = p) := HS.out.at_.pos
    have HEA : Hid _ := endsAt_any HS.out.at_ sepS
    cases hq : endQ sepS s.data.toList[p]? with
    | true =>
      rw [hq] at HEA
      have HEQ : Hid (R = .ok (K.map Prod.snd, s.data.toList.drop p)) := by
        unfold Hid
        rw [HE.out]
        by_cases hlt : p < s.size
        · rw [text_at s p hlt] at hq
          rw [drop_cons s p hlt, words_stop _ _ _ _ hq]
          simp [preW]
        · rw [drop_none s p hlt, words_nil]
          simp [preW]
      clear HE hq HPO HN
      go_wp2_with fail
      refine Calls.mono HEA.out ?_
      rintro e' w4 ⟨rfl, m1, hw4⟩
      have HS4 : Hid (Stp W b sb s p w4) := by rw [hw4]; exact HS.out.drewN m1
      have HQ4 : Hid (Cel w4 W.heap.size 39 zM) := by rw [hw4]; exact HQ.out
      have HC4 : Hid (Cel w4 cb 39 #[.int .i64 (j2 : Nat), .slice wa K.length wc]) := by rw [hw4]; exact HC.out
      have HO4 : Hid (WdOwn w4 (cb + 1) (.slice wa K.length wc) K) := by rw [hw4]; exact HO.out.below ⟨rfl, rfl, rfl, Nat.le_refl _, fun _ _ => rfl⟩
      have c4 := HS4.out.at_.c1
      have f4 := HS4.out.at_.f1
      have q0 : w4.cell? ⟨W.heap.size, 0, none⟩ = some (.int .i64 0) := HQ4.out.cell 0
      have q1 : w4.cell? ⟨W.heap.size, 1, none⟩ = some (.slice none 0 0) := HQ4.out.cell 1
      have qf0 := HQ4.out.frozen 0
      have qf1 := HQ4.out.frozen 1
      have d0 : w4.cell? ⟨cb, 0, none⟩ = some (.int .i64 (j2 : Nat)) := HC4.out.cell 0
      have d1 : w4.cell? ⟨cb, 1, none⟩ = some (.slice wa K.length wc) := HC4.out.cell 1
      have HS5 : Hid (Stp W b sb s (p + 1) (w4.setCell ⟨b, 1, none⟩ (.int .i64 ((p : Int) + 1)))) := HS4.out.set (p + 1)
      have HQ5 : Hid (Cel (w4.setCell ⟨b, 1, none⟩ (.int .i64 ((p : Int) + 1))) W.heap.size 39 zM) := HQ4.out.other hnb _
      have HO5 : Hid (WdOwn (w4.setCell ⟨b, 1, none⟩ (.int .i64 ((p : Int) + 1))) (cb + 1) (.slice wa K.length wc) K) := HO4.out.turn (S := fun i => i = b) (Turn.setCell (S := fun i => i = b) (p := ⟨b, 1, none⟩) (Turn.refl _ w4) (fun _ => rfl) _) (fun i e => by omega)
      clear hw4 HS HQ HC HO HEA HS4 HQ4 HC4 HO4
      go_wp2_with fail
      refine bodyPost_ret (results_cmd (p := 2) (u := 3) rfl _ _ W.heap.size _ rfl (HQ5.out.put2 _ _) rfl) rfl ?_
      refine ⟨_, _, rfl, ?_⟩
      rw [HCM.out, HR.out, HEQ.out]
      exact ⟨rfl, ⟨K, _, rfl, rfl, (HO5.out.turn (Turn.putM _ _ _ _) (fun i e => by omega)).lower (by omega)⟩, p + 1, HS5.out.put2 hlb hlsb (Nat.le_refl _) _ _, by omega, List.tail_drop⟩
    | false =>
      rw [hq] at HEA
      have hlt : p < s.size := by
        by_cases h : p < s.size
        · exact h
        · rw [at_none s p h] at hq
          cases hq
      rw [text_at s p hlt] at hq
      have hsc : sepS.contains s[p] = false := hq
      have HDC : Hid _ := drop_cons s p hlt
      have hec : endS.contains s[p] = false := ends_sep _ hsc (HN.out _ _ HDC.out)
      obtain ⟨g', rfl⟩ : ∃ g', g = g' + 1 := ⟨g - 1, by omega⟩
      have HWD : Hid (∀ w, Stp W b sb s p w → Env w ea → Calls Tryz.prog 37 #[.pointer (some ⟨b, 0, none⟩)] w fun e' w' => ∃ v ev, e' = .returned (.tuple #[.agg v, ev]) ∧ WordV w b sb s ea (wordL s.size (s.data.toList.drop p)) v ev w') := fun w hw he => word_any hw.at_ he hs hlt hb64
      clear hq HN
      cases hpl : wordL s.size (s.data.toList.drop p) with
      | error x =>
        have HEQ : Hid (R = .error x) := by
          unfold Hid
          rw [HE.out, HDC.out]
          rw [HDC.out] at hpl
          rw [words_err _ _ _ _ hsc x hpl]
          rfl
        rw [hpl] at HWD
        clear HE hpl HDC hec hsc HPO
        go_wp2_with fail
        refine Calls.mono HEA.out ?_
        rintro e' w4 ⟨rfl, m1, hw4⟩
        have HS4 : Hid (Stp W b sb s p w4) := by rw [hw4]; exact HS.out.drewN m1
        have HQ4 : Hid (Cel w4 W.heap.size 39 zM) := by rw [hw4]; exact HQ.out
        have HE4 : Hid (Env w4 ea) := HEV.out _ _ HS4.out
        clear hw4 HS HQ HC HO HEA
        go_wp2_with fail
        refine Calls.mono (HWD.out _ HS4.out HE4.out) ?_
        rintro e' w5 ⟨v, ev, rfl, rfl, ⟨qe, rfl, hqe⟩, j, hst⟩
        have HS5 : Hid (Stp W b sb s j w5) := HS4.out.trans hst
        have HX5 : Hid (AtEr w5 ea (.iface 119 (.pointer (some ⟨qe, 0, none⟩))) x) := ⟨qe, rfl, hqe⟩
        have HQ5 : Hid (Cel w5 W.heap.size 39 zM) := HQ4.out.turn hst.turn (by omega)
        have hs5 : W.heap.size < w5.heap.size := HQ5.out.lt
        have HQ6 : Hid (Cel ((putM w5 W.heap.size (.int .i64 0) (.slice none 0 0)).alloc (.cells zW 44)) W.heap.size 39 zM) := (HQ5.out.put2 _ _).below (below_new _ _) (HQ5.out.put2 (.int .i64 0) (.slice none 0 0)).lt
        have HS6 : Hid (Stp W b sb s j ((putM w5 W.heap.size (.int .i64 0) (.slice none 0 0)).alloc (.cells zW 44))) := (HS5.out.put2 hlb hlsb (Nat.le_refl _) _ _).alloc _
        have HX6 : Hid (AtEr ((putM w5 W.heap.size (.int .i64 0) (.slice none 0 0)).alloc (.cells zW 44)) ea (.iface 119 (.pointer (some ⟨qe, 0, none⟩))) x) := (HX5.out.putM HQ5.out _ _).below (below_new _ _)
        have q0 : w5.cell? ⟨W.heap.size, 0, none⟩ = some (.int .i64 0) := HQ5.out.cell 0
        have q1 : w5.cell? ⟨W.heap.size, 1, none⟩ = some (.slice none 0 0) := HQ5.out.cell 1
        have qf0 := HQ5.out.frozen 0
        have qf1 := HQ5.out.frozen 1
        clear hqe hst HS4 HQ4 HE4 HWD HS5 HX5 HQ5
        go_wp2_with fail
        refine bodyPost_ret (results_cmd (p := 2) (u := 3) rfl _ _ W.heap.size _ rfl HQ6.out rfl) rfl ?_
        refine ⟨_, _, rfl, ?_⟩
        rw [HCM.out, HR.out, HEQ.out]
        exact ⟨rfl, HX6.out, j, HS6.out⟩
      | ok r =>
        obtain ⟨q0, u⟩ := r
        have hul : u.length < s.size - p := by
          have := hpl
          rw [HDC.out] at this
          have h9 := word_lt hec this
          rw [← HDC.out, len_drop] at h9
          exact h9
        have HEQ : Hid (R = preW (K.map Prod.snd ++ [q0]) (wordsL s.size g' (u.dropWhile blk))) := by
          unfold Hid
          rw [HE.out, HDC.out]
          rw [HDC.out] at hpl
          rw [words_ok _ _ _ _ hsc q0 u hpl, preW_pre]
        rw [hpl] at HWD
        clear HE hpl HDC hec hsc
        go_wp2_with fail
        refine Calls.mono HEA.out ?_
        rintro e' w4 ⟨rfl, m1, hw4⟩
        have HS4 : Hid (Stp W b sb s p w4) := by rw [hw4]; exact HS.out.drewN m1
        have HQ4 : Hid (Cel w4 W.heap.size 39 zM) := by rw [hw4]; exact HQ.out
        have HC4 : Hid (Cel w4 cb 39 #[.int .i64 (j2 : Nat), .slice wa K.length wc]) := by rw [hw4]; exact HC.out
        have HO4 : Hid (WdOwn w4 (cb + 1) (.slice wa K.length wc) K) := by rw [hw4]; exact HO.out.below ⟨rfl, rfl, rfl, Nat.le_refl _, fun _ _ => rfl⟩
        have HE4 : Hid (Env w4 ea) := HEV.out _ _ HS4.out
        have hs4 : cb + 1 ≤ w4.heap.size := HC4.out.lt
        clear hw4 HS HQ HC HO HEA
        go_wp2_with fail
        refine Calls.mono (HWD.out _ HS4.out HE4.out) ?_
        rintro e' w5 ⟨v, ev, rfl, rfl, ⟨pv, rfl, hpo⟩, j5, hst, hj5, hu5⟩
        obtain ⟨pa, pc, rfl⟩ := hpo.form
        obtain ⟨qp, qb, qs⟩ := q0
        simp only at hpo hu5
        have HU5 : Hid (u = s.data.toList.drop j5) := hu5
        have hpj : p < j5 := by
          have h9 : (s.data.toList.drop j5).length < s.size - p := by rw [← hu5]; exact hul
          rw [len_drop] at h9
          omega
        have HS5 : Hid (Stp W b sb s j5 w5) := HS4.out.trans hst
        have HQ5 : Hid (Cel w5 W.heap.size 39 zM) := HQ4.out.turn hst.turn (by omega)
        have HC5 : Hid (Cel w5 cb 39 #[.int .i64 (j2 : Nat), .slice wa K.length wc]) := HC4.out.turn hst.turn (by omega)
        have HO5 : Hid (WdOwn w5 (cb + 1) (.slice wa K.length wc) K) := HO4.out.turn hst.turn (fun i e => by omega)
        have HP5 : Hid (PtOwn w5 (cb + 1) (.slice pa qs.length pc) qs) := hpo.lower hs4
        have hs5 : cb + 1 ≤ w5.heap.size := HC5.out.lt
        have hn5 : ¬ w5.heap.size = cb := by omega
        have hn5' : ¬ cb = w5.heap.size := by omega
        have d1 : w5.cell? ⟨cb, 1, none⟩ = some (.slice wa K.length wc) := HC5.out.cell 1
        have d2 : (w5.alloc (.cells #[.int .i64 (qp : Nat), .bool qb, .slice pa qs.length pc] 44)).cell? ⟨cb, 1, none⟩ = some (.slice wa K.length wc) := (HC5.out.below (below_new _ _) HC5.out.lt).cell 1
        clear d1
        clear hst hpo hu5 hul HS4 HQ4 HC4 HO4 HE4 HWD HEV
        have HCF : Hid (∀ w6, (((w5.alloc (.cells #[.int .i64 (qp : Nat), .bool qb, .slice pa qs.length pc] 44)).alloc (.cells #[.int .i64 (qp : Nat), .bool qb, .slice pa qs.length pc] 44))).grownBy w6 (Value.slice wa K.length wc).ownBlock → Cel w6 cb 39 #[.int .i64 (j2 : Nat), .slice wa K.length wc] ∧ Cel w6 W.heap.size 39 zM) := fun w6 hg => by
          refine ⟨((HC5.out.below (below_new _ _) HC5.out.lt).below (below_new _ _) (by simp; omega)).kept hg (fun e => by have := (World.ownsRow.lt HO5.out.row _ e.symm).1; omega), ((HQ5.out.below (below_new _ _) HQ5.out.lt).below (below_new _ _) (by simp; omega)).kept hg (fun e => by have := (World.ownsRow.lt HO5.out.row _ e.symm).1; omega)⟩
        go_wp2_with (at_builtin; refine wpList_append_own_at _ rfl _ _ 37 rfl (cb + 1) 44 i0 _ 3 40 Tryz.underlying37 hi hz0 hz1 hz2 rfl (by decide) _ _ _ rfl (World.ownsRow.alloc (World.ownsRow.alloc HO5.out.row _) _) ⟨w5.heap.size + 1, 0, none⟩ 1 1 (wdC (.slice pa qs.length pc, (⟨qp, qb, qs⟩ : Wd))) rfl rfl (cells_new2 _ _ _ _) (by simp [Value.oneCell']) (by have := maxLen_big; omega) (by omega) (by simp; omega) ?_; intro v6 w6 hown hgrow _ _; have hc6 := (HCF.out w6 hgrow).1.cell 1; have hf6 := (HCF.out w6 hgrow).1.frozen 1; obtain ⟨ad6, cap6, rfl⟩ := owns_slice hown)
        have hb5 : Below (cb + 1) w5 ((w5.alloc (.cells #[.int .i64 (qp : Nat), .bool qb, .slice pa qs.length pc] 44)).alloc (.cells #[.int .i64 (qp : Nat), .bool qb, .slice pa qs.length pc] 44)) := ((Below.refl _ w5).alloc hs5 _).alloc (by simp; omega) _
        have hbel : Below (cb + 1) w5 w6 := grown_own (by simp; omega) hb5 (World.ownsRow.alloc (World.ownsRow.alloc HO5.out.row _) _) hgrow
        have HO6 : Hid (WdOwn w6 (cb + 1) (.slice ad6 (K.length + 1) cap6) (K ++ [(.slice pa qs.length pc, (⟨qp, qb, qs⟩ : Wd))])) := by
          refine ⟨by rw [wdCs_append, wdCs_one, List.length_append]; exact hown, fun q hq => ?_⟩
          have hq5 : PtOwn w5 (cb + 1) q.1 q.2.parts := by
            rcases List.mem_append.1 hq with hq | hq
            · exact HO5.out.parts q hq
            · rw [List.mem_singleton.1 hq]; exact HP5.out
          exact ((hq5.below (below_new _ _)).below (below_new _ _)).grown (World.ownsRow.alloc (World.ownsRow.alloc HO5.out.row _) _) hgrow
        have HS6 : Hid (Stp W b sb s j5 w6) := HS5.out.under hlb hlsb ⟨hbel.os, hbel.tape, hbel.output, hbel.size, fun i hi => hbel.block i (by omega)⟩
        obtain ⟨HC6, HQ6⟩ := HCF.out w6 hgrow
        obtain ⟨w7, hw7⟩ : ∃ w7, w7 = w6.setCell ⟨cb, 1, none⟩ (.slice ad6 (K.length + 1) cap6) := ⟨_, rfl⟩
        have HT7 : Hid (Turn (fun i => i = cb) w6 w7) := by rw [hw7]; exact Turn.setCell (S := fun i => i = cb) (p := ⟨cb, 1, none⟩) (Turn.refl _ w6) (fun _ => rfl) _
        have HS7 : Hid (Stp W b sb s j5 w7) := by rw [hw7]; exact HS6.out.other hlb hlsb (by omega) 1 _
        have HC7 : Hid (Cel w7 cb 39 #[.int .i64 (j2 : Nat), .slice ad6 (K.length + 1) cap6]) := by rw [hw7]; exact HC6.set (j := 1) _
        have HQ7 : Hid (Cel w7 W.heap.size 39 zM) := by rw [hw7]; exact HQ6.other hWcb _
        have HO7 : Hid (WdOwn w7 (cb + 1) (.slice ad6 (K.length + 1) cap6) (K ++ [(.slice pa qs.length pc, (⟨qp, qb, qs⟩ : Wd))])) := HO6.out.turn HT7.out (fun i e => by omega)
        rw [← hw7]
        clear hw7 hown hgrow hbel hb5 HS5 HQ5 HC5 HO5 HP5 HCF HO6 HS6 HC6 HQ6 HT7 d2 hc6 hf6
        refine Calls.mono (HPB.out w7 j5 hj5 HS7.out) ?_
        rintro e w8 ⟨rfl, j8, hst8, hj8, hj8', hd8⟩
        have HS8 : Hid (Stp W b sb s j8 w8) := HS7.out.trans hst8
        have HC8 : Hid (Cel w8 cb 39 #[.int .i64 (j2 : Nat), .slice ad6 (K.length + 1) cap6]) := HC7.out.turn hst8.turn (by omega)
        have HQ8 : Hid (Cel w8 W.heap.size 39 zM) := HQ7.out.turn hst8.turn (by omega)
        have HO8 : Hid (WdOwn w8 (cb + 1) (.slice ad6 (K.length + 1) cap6) (K ++ [(.slice pa qs.length pc, (⟨qp, qb, qs⟩ : Wd))])) := HO7.out.turn hst8.turn (fun i e => by omega)
        have HN8 : Hid (NoBlk (s.data.toList.drop j8)) := by unfold Hid; rw [← hd8]; exact noBlk_drop _
        have HE8 : Hid (R = preW ((K ++ [((.slice pa qs.length pc : Value), (⟨qp, qb, qs⟩ : Wd))]).map Prod.snd) (wordsL s.size g' (s.data.toList.drop j8))) := by
          unfold Hid
          rw [HEQ.out, HU5.out, hd8, List.map_append]
          rfl
        clear hst8 hd8 HS7 HC7 HQ7 HO7 HEQ
        go_wp2_with fail
        refine ⟨⟨j8, g', K ++ [(.slice pa qs.length pc, (⟨qp, qb, qs⟩ : Wd))], _, rfl, hj8', by omega, by simp; omega, HE8, HN8, HS8, HQ8, HC8, HO8⟩, ?_⟩
        rw [HS8.out.at_.pos, HPO.out]
        omega
end Go.Proofs.YtlihkblllakhmaaGreatDoor
namespace Go.Proofs.YtlihkblllakhmaaGreatDoor
open Go.RowKit
attribute [local go_sem] Oper.semAt_some

/-! ### commands in memory -/
abbrev Mc : Type := Value × Nat × List (Value × Wd)
def toCm (q : Mc) : Cm := ⟨q.2.1, q.2.2.map Prod.snd⟩
abbrev cmC (q : Mc) : List Value := [.int .i64 (q.2.1 : Nat), q.1]
def cmCs (K : List Mc) : List Value := K.flatMap cmC
theorem cmCs_append (X Y : List Mc) : cmCs (X ++ Y) = cmCs X ++ cmCs Y := by simp [cmCs]
theorem cmCs_one (q : Mc) : cmCs [q] = cmC q := by simp [cmCs]
/-- Commands of one's own, and their words. -/
structure CmOwn (W : World) (B : Nat) (v : Value) (K : List Mc) : Prop where
  row : W.ownsRow B 39 2 v K.length (cmCs K)
  words : ∀ q ∈ K, WdOwn W B q.1 q.2.2
theorem CmOwn.nil (W : World) (B : Nat) : CmOwn W B (.slice none 0 0) [] := ⟨World.ownsRow_nil W B _ _, fun q h => by cases h⟩
theorem CmOwn.turn {W W' : World} {B : Nat} {v : Value} {K : List Mc} {S : Nat → Prop} (h : CmOwn W B v K) (hT : Turn S W W') (hS : ∀ i, S i → i < B) : CmOwn W' B v K := by
  refine ⟨owns_turn h.row hT fun g hg hs => ?_, fun q hq => (h.words q hq).turn hT hS⟩
  have := (World.ownsRow.lt h.row g hg).1
  have := hS g hs
  omega
theorem CmOwn.below {W W' : World} {B : Nat} {v : Value} {K : List Mc} (h : CmOwn W B v K) (hb : Below W.heap.size W W') : CmOwn W' B v K := h.turn (Turn.ofBelow (S := fun _ => False) hb) (fun _ e => e.elim)
theorem CmOwn.form {W : World} {B : Nat} {v : Value} {K : List Mc} (h : CmOwn W B v K) : ∃ ad cap, v = .slice ad K.length cap := owns_slice h.row
theorem CmOwn.lower {W : World} {B B' : Nat} {v : Value} {K : List Mc} (h : CmOwn W B v K) (hB : B' ≤ B) : CmOwn W B' v K := ⟨owns_lower h.row hB, fun q hq => (h.words q hq).lower hB⟩
theorem PtOwn.grown2 {X w6 : World} {B B' n : Nat} {v row : Value} {P : List Pt} {xs : List Value} (h : PtOwn X B v P) (hr : X.ownsRow B' 39 2 row n xs) (hg : X.grownBy w6 row.ownBlock) : PtOwn w6 B v P :=
  owns_turn h (Turn.ofGrown hg) (fun b hb e => owns_apart2 h hr (by decide) b hb e)
theorem WdOwn.grown2 {X w6 : World} {B B' n : Nat} {v row : Value} {K : List (Value × Wd)} {xs : List Value} (h : WdOwn X B v K) (hr : X.ownsRow B' 39 2 row n xs) (hg : X.grownBy w6 row.ownBlock) : WdOwn w6 B v K :=
  ⟨owns_turn h.row (Turn.ofGrown hg) (fun b hb e => owns_apart2 h.row hr (by decide) b hb e), fun q hq => (h.parts q hq).grown2 hr hg⟩
theorem infoM : (Tryz.prog.info? 39).map (fun i => (i.zero, i.size, i.bytes)) = some (some (.agg zM), 2, 32) := by kernel_rfl
theorem new_any (s : ByteArray) (w : World) (hs : s.size ≤ 8192) :
    Calls Tryz.prog 19 #[.string s] w fun e w' => e = .returned (.tuple #[.pointer (some ⟨w.heap.size, 0, none⟩), .nilIface]) ∧ w' = w.alloc (.cells #[.string s] 87) := by
  have hd : decide ((8192 : Int) < (s.size : Int)) = false := by simp; omega
  go_enter Tryz.func19, Tryz.ntmps19
  go_wp2_with fail
  go_ret2
  exact ⟨rfl, rfl⟩
theorem new_long (s : ByteArray) (w : World) (ea : Nat → Addr) (hE : Env w ea) (hs : 8192 < s.size) :
    Calls Tryz.prog 19 #[.string s] w fun e w' => e = .returned (.tuple #[.pointer none, errV (ea 0)]) ∧ ∃ m, w' = w.drewN m := by
  have hs' : (8192 : Int) < (s.size : Int) := by omega
  have g0 := hE.cell 0 (by omega)
  clear hE
  go_enter Tryz.func19, Tryz.ntmps19
  go_wp2_with fail
  go_quiet (fail)
  go_wp2_with fail
  go_ret2
  exact ⟨rfl, _, rfl⟩
theorem scan_long (s : ByteArray) (W : World) (ea : Nat → Addr) (hE : Env W ea) (hs : 8192 < s.size) :
    Calls Tryz.prog 8 #[.string s] W fun e w' => e = .returned (.tuple #[.slice none 0 0, errV (ea 0)]) ∧ ∃ m, w' = W.drewN m := by
  have HN : Hid _ := new_long s W ea hE hs
  clear hE
  go_enter Tryz.func8, Tryz.ntmps8
  go_wp2_with fail
  refine Calls.mono HN.out ?_
  rintro e w1 ⟨rfl, m, hw⟩
  have HW : Hid (w1 = W.drewN m) := hw
  clear hw HN
  go_wp2_with fail
  go_ret2
  exact ⟨rfl, m, HW.out⟩
/-! ### the loop -/
def preM (acc : List Cm) (R : Except Er (List Cm)) : Except Er (List Cm) := match R with
  | .error e => .error e
  | .ok l => .ok (acc ++ l)
theorem preM_pre (a b : List Cm) (R : Except Er (List Cm)) : preM a (preM b R) = preM (a ++ b) R := by
  cases R with
  | error e => rfl
  | ok q => simp [preM]
theorem preM_nil (R : Except Er (List Cm)) : preM [] R = R := by cases R <;> rfl
theorem scan_nil (T : List UInt8 → Except Er (Cm × List UInt8)) (f : Nat) : scanW T f [] = .ok [] := by cases f <;> rfl
theorem scan_err (T : List UInt8 → Except Er (Cm × List UInt8)) (f : Nat) (c : UInt8) (t : List UInt8) (x : Er) (h : T (c :: t) = .error x) : scanW T (f + 1) (c :: t) = .error x := by rw [scanW, h]
theorem scan_more (T : List UInt8 → Except Er (Cm × List UInt8)) (f : Nat) (c : UInt8) (t u : List UInt8) (m : Cm) (h : T (c :: t) = .ok (m, u)) : scanW T (f + 1) (c :: t) = preM (if m.words.isEmpty then [] else [m]) (scanW T f u) := by
  rw [scanW, h]
  simp only
  cases scanW T f u with
  | error e => rfl
  | ok l =>
    simp only [preM]
    split <;> rfl
theorem word_le {N : Nat} {l : List UInt8} {w : Wd} {u : List UInt8} (h : wordL N l = .ok (w, u)) : u.length ≤ l.length := by
  unfold wordL at h
  split at h
  · cases hb : passB 0 l.tail with
    | none => rw [hb] at h; cases h
    | some v =>
      rw [hb] at h
      have h1 := passB_lt _ _ _ _ (Nat.le_refl _) hb
      rw [List.length_tail] at h1
      rw [closed_ok h]
      omega
  · split at h
    · cases hp : partsL N [34] l.length l.tail with
      | error x => rw [hp] at h; cases h
      | ok r =>
        obtain ⟨ps, v⟩ := r
        have h1 := parts_le _ _ _ _ _ _ hp
        rw [List.length_tail] at h1
        rw [hp] at h
        cases v with
        | nil => cases h
        | cons d v =>
          simp only at h
          rw [closed_ok h]
          simp only [List.length_cons] at h1
          omega
    · cases hp : partsL N endS l.length l with
      | error x => rw [hp] at h; cases h
      | ok r =>
        obtain ⟨ps, v⟩ := r
        rw [hp] at h
        cases h
        exact parts_le _ _ _ _ _ _ hp
theorem words_le (N : Nat) : ∀ (f : Nat) (l : List UInt8) (ws : List Wd) (u : List UInt8), wordsL N f l = .ok (ws, u) → u.length ≤ l.length
  | 0, l, ws, u, h => by cases h; exact Nat.le_refl _
  | f + 1, [], ws, u, h => by cases h; exact Nat.le_refl _
  | f + 1, c :: t, ws, u, h => by
    cases hc : sepS.contains c with
    | true => rw [words_stop _ _ _ _ hc] at h; cases h; exact Nat.le_refl _
    | false =>
      cases hp : wordL N (c :: t) with
      | error x => rw [words_err _ _ _ _ hc x hp] at h; cases h
      | ok r =>
        obtain ⟨w, v⟩ := r
        have h1 := word_le hp
        rw [words_ok _ _ _ _ hc w v hp] at h
        cases hq : wordsL N f (v.dropWhile blk) with
        | error x => rw [hq] at h; cases h
        | ok r2 =>
          obtain ⟨ws2, u2⟩ := r2
          rw [hq] at h
          cases h
          exact Nat.le_trans (words_le N f _ ws2 u2 hq) (Nat.le_trans (List.dropWhile_sublist _).length_le h1)
theorem over_len (l : List UInt8) : (over l).length ≤ l.length := by
  unfold over overC
  have h1 : (l.dropWhile blk).length ≤ l.length := (List.dropWhile_sublist _).length_le
  split
  · exact Nat.le_trans (List.dropWhile_sublist _).length_le h1
  · exact h1
theorem command_lt {N : Nat} {c : UInt8} {t u : List UInt8} {m : Cm} (h : commandL N (c :: t) = .ok (m, u)) : u.length < (c :: t).length := by
  unfold commandL at h
  cases hq : wordsL N (over (c :: t)).length (over (c :: t)) with
  | error x => rw [hq] at h; cases h
  | ok r =>
    obtain ⟨ws, v⟩ := r
    rw [hq] at h
    cases h
    have h1 := words_le _ _ _ _ _ hq
    have h2 := over_len (c :: t)
    rw [List.length_tail]
    simp only [List.length_cons] at h2 ⊢
    omega
end Go.Proofs.YtlihkblllakhmaaGreatDoor

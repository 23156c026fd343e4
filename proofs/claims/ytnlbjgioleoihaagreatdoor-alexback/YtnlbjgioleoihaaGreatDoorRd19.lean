/- The tokens of a source. -/
import Derived.Test.YtnlbjgioleoihaaGreatDoorRd18
namespace Go.Proofs.YtnlbjgioleoihaaGreatDoor
open Go.RowKit
attribute [local go_sem] Oper.semAt_some

/-! ### tokens in memory -/
abbrev tkC (q : Value × Tk) : List Value := [.int .i64 (q.2.kind : Nat), .int .i64 (q.2.pos : Nat), q.1]
def tkCs (K : List (Value × Tk)) : List Value := K.flatMap tkC
theorem tkCs_append (X Y : List (Value × Tk)) : tkCs (X ++ Y) = tkCs X ++ tkCs Y := by simp [tkCs]
theorem tkCs_one (q : Value × Tk) : tkCs [q] = tkC q := by simp [tkCs]
theorem tkCs_length (X : List (Value × Tk)) : (tkCs X).length = X.length * 3 := by
  induction X with
  | nil => rfl
  | cons x X ih => simp [tkCs] at ih ⊢; omega
/-- Tokens of one's own, and their parts. -/
structure TkOwn (W : World) (B : Nat) (v : Value) (K : List (Value × Tk)) : Prop where
  row : W.ownsRow B 31 3 v K.length (tkCs K)
  parts : ∀ q ∈ K, PtOwn W B q.1 q.2.parts
theorem TkOwn.nil (W : World) (B : Nat) : TkOwn W B (.slice none 0 0) [] := ⟨World.ownsRow_nil W B _ _, fun q h => by cases h⟩
theorem TkOwn.turn {W W' : World} {B : Nat} {v : Value} {K : List (Value × Tk)} {S : Nat → Prop} (h : TkOwn W B v K) (hT : Turn S W W') (hS : ∀ i, S i → i < B) : TkOwn W' B v K := by
  refine ⟨owns_turn h.row hT fun g hg hs => ?_, fun q hq => (h.parts q hq).turn hT hS⟩
  have := (World.ownsRow.lt h.row g hg).1
  have := hS g hs
  omega
theorem TkOwn.below {W W' : World} {B : Nat} {v : Value} {K : List (Value × Tk)} (h : TkOwn W B v K) (hb : Below W.heap.size W W') : TkOwn W' B v K := h.turn (Turn.ofBelow (S := fun _ => False) hb) (fun _ e => e.elim)
theorem TkOwn.form {W : World} {B : Nat} {v : Value} {K : List (Value × Tk)} (h : TkOwn W B v K) : ∃ ad cap, v = .slice ad K.length cap := owns_slice h.row
theorem TkOwn.lower {W : World} {B B' : Nat} {v : Value} {K : List (Value × Tk)} (h : TkOwn W B v K) (hB : B' ≤ B) : TkOwn W B' v K := ⟨owns_lower h.row hB, fun q hq => (h.parts q hq).lower hB⟩
theorem PtOwn.grown {X w6 : World} {B B' n : Nat} {v row : Value} {P : List Pt} {xs : List Value} (h : PtOwn X B v P) (hr : X.ownsRow B' 31 3 row n xs) (hg : X.grownBy w6 row.ownBlock) : PtOwn w6 B v P :=
  owns_turn h (Turn.ofGrown hg) (fun b hb e => owns_apart2 h hr (by decide) b hb e)
theorem infoT : (Tryz.prog.info? 31).map (fun i => (i.zero, i.size, i.bytes)) = some (some (.agg zT), 3, 40) := by kernel_rfl
theorem new_any (s : ByteArray) (w : World) (hs : s.size ≤ 8192) :
    Calls Tryz.prog 11 #[.string s] w fun e w' => e = .returned (.tuple #[.pointer (some ⟨w.heap.size, 0, none⟩), .nilIface]) ∧ w' = w.alloc (.cells #[.string s] 65) := by
  have hd : decide ((8192 : Int) < (s.size : Int)) = false := by simp; omega
  go_enter Tryz.func11, Tryz.ntmps11
  go_wp2_with fail
  go_ret2
  exact ⟨rfl, rfl⟩
theorem new_long (s : ByteArray) (w : World) (ea : Nat → Addr) (hE : Env w ea) (hs : 8192 < s.size) :
    Calls Tryz.prog 11 #[.string s] w fun e w' => e = .returned (.tuple #[.pointer none, errV (ea 0)]) ∧ ∃ m, w' = w.drewN m := by
  have hs' : (8192 : Int) < (s.size : Int) := by omega
  have g0 := hE.cell 0 (by omega) (by omega)
  clear hE
  go_enter Tryz.func11, Tryz.ntmps11
  go_wp2_with fail
  go_quiet (fail)
  go_wp2_with fail
  go_ret2
  exact ⟨rfl, _, rfl⟩
theorem lex_long (s : ByteArray) (W : World) (ea : Nat → Addr) (hE : Env W ea) (hs : 8192 < s.size) :
    Calls Tryz.prog 5 #[.string s] W fun e w' => e = .returned (.tuple #[.slice none 0 0, errV (ea 0)]) ∧ ∃ m, w' = W.drewN m := by
  have HN : Hid _ := new_long s W ea hE hs
  clear hE
  go_enter Tryz.func5, Tryz.ntmps5
  go_wp2_with fail
  refine Calls.mono HN.out ?_
  rintro e w1 ⟨rfl, m, hw⟩
  have HW : Hid (w1 = W.drewN m) := hw
  clear hw HN
  go_wp2_with fail
  go_ret2
  exact ⟨rfl, m, HW.out⟩
/-! ### the loop -/
def preT (acc : List Tk) (R : Except Er (List Tk)) : Except Er (List Tk) := match R with
  | .error e => .error e
  | .ok l => .ok (acc ++ l)
theorem preT_pre (a b : List Tk) (R : Except Er (List Tk)) : preT a (preT b R) = preT (a ++ b) R := by
  cases R with
  | error e => rfl
  | ok q => simp [preT]
theorem lexW_err (T : List UInt8 → Except Er (Tk × List UInt8)) (f : Nat) (l : List UInt8) (e : Er) (h : T l = .error e) : lexW T (f + 1) l = .error e := by rw [lexW, h]
theorem lexW_end (T : List UInt8 → Except Er (Tk × List UInt8)) (f : Nat) (l : List UInt8) (t : Tk) (u : List UInt8) (h : T l = .ok (t, u)) (h0 : t.kind = 0) : lexW T (f + 1) l = .ok [t] := by
  rw [lexW, h]
  simp only
  rw [if_pos h0]
theorem lexW_more (T : List UInt8 → Except Er (Tk × List UInt8)) (f : Nat) (l : List UInt8) (t : Tk) (u : List UInt8) (h : T l = .ok (t, u)) (h0 : t.kind ≠ 0) : lexW T (f + 1) l = preT [t] (lexW T f u) := by
  rw [lexW, h]
  simp only
  rw [if_neg h0]
  cases lexW T f u <;> rfl
theorem over_len (l : List UInt8) : (over l).length ≤ l.length := by
  unfold over
  have h1 : (l.dropWhile blk).length ≤ l.length := (List.dropWhile_sublist _).length_le
  split
  · exact Nat.le_trans (List.dropWhile_sublist _).length_le h1
  · exact h1
theorem sgn_pos (k : Nat) (h0 : k ≠ 0) (h : k < 13) : 1 ≤ (sgn k).length := by
  match k, h0, h with
  | 1, _, _ => decide
  | 2, _, _ => decide
  | 3, _, _ => decide
  | 4, _, _ => decide
  | 5, _, _ => decide
  | 6, _, _ => decide
  | 7, _, _ => decide
  | 8, _, _ => decide
  | 9, _, _ => decide
  | 10, _, _ => decide
  | 11, _, _ => decide
  | 12, _, _ => decide
/-- A word takes bytes, and its parts rise. -/
theorem word_ok' {N : Nat} : ∀ (f : Nat) (l : List UInt8) (ps : List Pt) (u : List UInt8), l.length ≤ N → word N f l = .ok (ps, u) → u.length ≤ l.length ∧ Rise (N - l.length) (N - u.length) ps ∧ (∀ c t, l = c :: t → wEnd c = false → 1 ≤ f → u.length < l.length ∧ ∃ p r, ps = p :: r ∧ p.pos = N - l.length) := by
  intro f
  induction f with
  | zero => intro l ps u _ h; cases h; exact ⟨Nat.le_refl _, trivial, fun _ _ _ _ hf => by omega⟩
  | succ f ih =>
    intro l ps u hl h
    cases l with
    | nil => cases h; exact ⟨Nat.le_refl _, trivial, fun _ _ e => by cases e⟩
    | cons c t =>
      cases hw : wEnd c with
      | true =>
        rw [word_end _ _ _ (.inr ⟨c, t, rfl, hw⟩)] at h
        cases h
        exact ⟨Nat.le_refl _, trivial, fun c' t' e hc => by cases e; rw [hw] at hc; cases hc⟩
      | false =>
        cases hp : parts N c t with
        | error e => rw [word_err _ _ _ _ hw e hp] at h; cases h
        | ok r =>
          obtain ⟨qs, v⟩ := r
          rw [word_ok _ _ _ _ hw qs v hp] at h
          rw [List.length_cons] at hl
          obtain ⟨h1, h2, ⟨p, r, h3, h4⟩, h5⟩ := parts_ok hl hw hp
          cases hv : word N f v with
          | error e => rw [hv] at h; cases h
          | ok r2 =>
            obtain ⟨q2, u2⟩ := r2
            rw [hv] at h
            cases h
            obtain ⟨g1, g2, _⟩ := ih v q2 u2 (by omega) hv
            simp only [List.length_cons]
            exact ⟨by omega, h5.append (by omega) g2 (by omega), fun c' t' _ _ _ => ⟨by omega, p, r ++ q2, by rw [h3]; rfl, h4⟩⟩
theorem word_err' {N : Nat} : ∀ (f : Nat) (l : List UInt8) (e : Er), l.length ≤ N → word N f l = .error e → e.pos < N := by
  intro f
  induction f with
  | zero => intro l e _ h; cases h
  | succ f ih =>
    intro l e hl h
    cases l with
    | nil => cases h
    | cons c t =>
      cases hw : wEnd c with
      | true => rw [word_end _ _ _ (.inr ⟨c, t, rfl, hw⟩)] at h; cases h
      | false =>
        rw [List.length_cons] at hl
        cases hp : parts N c t with
        | error e' =>
          rw [word_err _ _ _ _ hw e' hp] at h
          cases h
          exact parts_err hl hp
        | ok r =>
          obtain ⟨qs, v⟩ := r
          rw [word_ok _ _ _ _ hw qs v hp] at h
          obtain ⟨h1, h2, _⟩ := parts_ok hl hw hp
          cases hv : word N f v with
          | error e' =>
            rw [hv] at h
            cases h
            exact ih v e (by omega) hv
          | ok r2 => rw [hv] at h; cases h
theorem best_ge : ∀ (n : Nat) (l : List UInt8) (k : Nat), k < n → (sgn k).isPrefixOf l = true → (sgn k).length ≤ (sgn (best n l)).length
  | 0, _, k, h, _ => by omega
  | n + 1, l, k, h, hp => by
    rw [best]
    by_cases hk : k = n
    · subst hk
      split
      · exact Nat.le_refl _
      · rename_i hc
        have : ¬ (sgn (best k l)).length < (sgn k).length := fun e => hc ⟨e, hp⟩
        omega
    · have := best_ge n l k (by omega) hp
      split
      · rename_i hc; omega
      · exact this
theorem wEnd_cases {c : UInt8} (h : wEnd c = true) : c = 32 ∨ c = 9 ∨ c = 10 ∨ c = 59 ∨ c = 38 ∨ c = 124 ∨ c = 40 ∨ c = 41 ∨ c = 60 ∨ c = 62 := by
  unfold wEnd at h
  simpa using h
theorem best_byte (c : UInt8) (t : List UInt8) (h0 : best 13 (c :: t) = 0) (h38 : c ≠ 38) (hb : blk c = false) : wEnd c = false := by
  cases hw : wEnd c with
  | false => rfl
  | true =>
    exfalso
    have key : ∀ k, k < 13 → sgn k = [c] → False := fun k hk e => by
      have := best_ge 13 (c :: t) k hk (by rw [e]; simp [List.isPrefixOf])
      rw [h0, e] at this
      simp [sgn] at this
    rcases wEnd_cases hw with rfl | rfl | rfl | rfl | rfl | rfl | rfl | rfl | rfl | rfl
    · cases hb
    · cases hb
    · exact key 1 (by omega) rfl
    · exact key 2 (by omega) rfl
    · exact h38 rfl
    · exact key 6 (by omega) rfl
    · exact key 7 (by omega) rfl
    · exact key 8 (by omega) rfl
    · exact key 9 (by omega) rfl
    · exact key 10 (by omega) rfl
theorem over_head (l : List UInt8) (c : UInt8) (t : List UInt8) (h : over l = c :: t) : blk c = false := by
  have hd : ∀ (q : UInt8 → Bool) (l : List UInt8) (c : UInt8) (t : List UInt8), l.dropWhile q = c :: t → q c = false := by
    intro q l
    induction l with
    | nil => intro c t h; cases h
    | cons x l ih =>
      intro c t h
      rw [List.dropWhile_cons] at h
      split at h
      · exact ih c t h
      · rename_i hq
        cases h
        simpa using hq
  unfold over at h
  split at h
  · have := hd _ _ _ _ h
    have h10 : c = 10 := by simpa [notNl] using this
    rw [h10]
    rfl
  · exact hd _ _ _ _ h
/-- A token takes bytes, or is the end. -/
theorem token_ok {N : Nat} {l : List UInt8} {t : Tk} {u : List UInt8} (hl : l.length ≤ N) (h : tokenL N (over l) = .ok (t, u)) :
    (t.kind = 0 ∧ t.pos = N ∧ t.parts = []) ∨ (t.kind ≠ 0 ∧ u.length < l.length ∧ N - l.length ≤ t.pos ∧ t.pos < N - u.length ∧ ((t.kind < 13 ∧ t.parts = []) ∨ (t.kind = 13 ∧ Rise t.pos (N - u.length) t.parts ∧ ∃ p r, t.parts = p :: r ∧ p.pos = t.pos))) := by
  have ho := over_len l
  have hh := over_head l
  generalize over l = m at h ho hh
  unfold tokenL at h
  have hb13 := best_lt 13 m (Nat.le_refl _)
  have hp := (List.isPrefixOf_iff_prefix.1 (best_prefix 13 m)).length_le
  have hbb : ∀ c r, m = c :: r → c ≠ 38 → best 13 m = 0 → wEnd c = false := fun c r e h1 h2 => by
    subst e
    exact best_byte c r h2 h1 (hh c r rfl)
  generalize best 13 m = kb at h hb13 hp hbb
  split at h
  · rename_i hb
    have h1 := sgn_pos _ hb hb13
    cases h
    refine .inr ⟨hb, ?_, ?_, ?_, .inl ⟨hb13, rfl⟩⟩
    · rw [List.length_drop]; omega
    · show N - l.length ≤ N - m.length; omega
    · show N - m.length < _; rw [List.length_drop]; omega
  · rename_i hb
    have hb0 : kb = 0 := by omega
    cases m with
    | nil => cases h; exact .inl ⟨rfl, rfl, rfl⟩
    | cons c r =>
      simp only at h
      split at h
      · cases h
      · rename_i h38
        have hw := hbb c r rfl h38 hb0
        cases hwd : word N (c :: r).length (c :: r) with
        | error e => rw [hwd] at h; cases h
        | ok q =>
          obtain ⟨ps, v⟩ := q
          rw [hwd] at h
          cases h
          obtain ⟨_, g2, g3⟩ := word_ok' _ _ _ _ (by omega) hwd
          obtain ⟨g4, p, r', g5, g6⟩ := g3 c r rfl hw (by simp)
          exact .inr ⟨by simp, by omega, by show N - l.length ≤ N - (c :: r).length; omega, by show N - (c :: r).length < N - u.length; omega, .inr ⟨rfl, g2, p, r', g5, g6⟩⟩
theorem token_err {N : Nat} {l : List UInt8} {e : Er} (hl : l.length ≤ N) (h : tokenL N (over l) = .error e) : e.pos < N := by
  have ho := over_len l
  generalize over l = m at h ho
  unfold tokenL at h
  generalize best 13 m = kb at h
  split at h
  · cases h
  · cases m with
    | nil => cases h
    | cons c r =>
      simp only at h
      rw [List.length_cons] at ho h
      split at h
      · cases h
        show N - (r.length + 1) < N
        omega
      · cases hwd : word N (r.length + 1) (c :: r) with
        | error e' =>
          rw [hwd] at h
          cases h
          exact word_err' _ _ _ (by rw [List.length_cons]; omega) hwd
        | ok q => rw [hwd] at h; cases h
/-- What a source comes to. -/
def LexV (W : World) (ea : Nat → Addr) (R : Except Er (List Tk)) (v ev : Value) (w' : World) : Prop := match R with
  | .ok l => ev = .nilIface ∧ ∃ K : List (Value × Tk), K.map Prod.snd = l ∧ TkOwn w' W.heap.size v K
  | .error x => v = .slice none 0 0 ∧ AtEr w' ea ev x
set_option maxRecDepth 100000 in
set_option maxHeartbeats 8000000 in
theorem lex_any (s : ByteArray) (W : World) (ea : Nat → Addr) (hE : Env W ea) (hW : (ea 64).block ≤ W.heap.size) (hs : s.size ≤ 8192) :
    Calls Tryz.prog 5 #[.string s] W fun e w' => ∃ v ev, e = .returned (.tuple #[v, ev]) ∧ LexV W ea (lexL s.data.toList) v ev w' ∧ Below W.heap.size W w' := by
  obtain ⟨i0, hi, hz0, hz1, hz2⟩ := info_parts infoT
  have HN : Hid _ := new_any s W hs
  obtain ⟨W2, hW2⟩ : ∃ W2, W2 = (W.alloc (.cells #[.string s] 65)).alloc (.cells #[.pointer (some ⟨W.heap.size, 0, none⟩), .int .i64 0] 47) := ⟨_, rfl⟩
  have hz : W2.heap.size = W.heap.size + 2 := by rw [hW2]; simp
  have HB2 : Hid (Below W.heap.size W W2) := by rw [hW2]; exact (below_new W _).alloc (by simp) _
  have HR2 : Hid (Rd W2 (W.heap.size + 1) W.heap.size s 0) := by
    rw [hW2]
    exact ⟨Cel.new2 _ _ _ _, (Cel.new W _ _).below (below_new _ _) (by simp)⟩
  have HE2 : Hid (Env W2 ea) := by rw [hW2]; exact hE.below ((below_new W _).alloc (by simp) _)
  have HW2 : Hid ((W.alloc (.cells #[.string s] 65)).alloc (.cells #[.pointer (some ⟨W.heap.size, 0, none⟩), .int .i64 0] 47) = W2) := hW2.symm
  obtain ⟨T, HT⟩ : ∃ T : List UInt8 → Except Er (Tk × List UInt8), Hid (T = fun m => tokenL s.size (over m)) := ⟨_, rfl⟩
  obtain ⟨R, HR⟩ : ∃ R, Hid (lexL s.data.toList = R) := ⟨_, rfl⟩
  have HRW : Hid (R = lexW T (s.size + 1) s.data.toList) := by
    unfold Hid
    rw [← HR.out, HT.out]
    unfold lexL
    rw [show s.data.toList.length = s.size by simp]
  rw [HR.out]
  clear hE hW2 HR
  go_enter Tryz.func5, Tryz.ntmps5
  go_wp2_with fail
  refine Calls.mono HN.out ?_
  rintro e w1 ⟨rfl, rfl⟩
  go_wp2_with fail
  rw [HW2.out]
  clear HW2 HN
  go_loopw [2, 3, 7] (fun v2 v3 v7 wr => ∃ (p g : Nat) (K : List (Value × Tk)), v2 = .slice none 0 0 ∧ v3 = .nilIface ∧ p ≤ s.size ∧ s.size - p < g ∧ K.length ≤ p ∧ Hid (TkOwn wr W2.heap.size v7 K) ∧ Hid (R = preT (K.map Prod.snd) (lexW T g (s.data.toList.drop p))) ∧ Hid (Stp W2 (W.heap.size + 1) W.heap.size s p wr) ∧ Hid (Env wr ea)) (fun _ _ _ wr => s.size + 2 - posOf wr (W.heap.size + 1))
  case atStart => exact ⟨0, s.size + 1, [], rfl, rfl, Nat.zero_le _, by omega, Nat.zero_le _, TkOwn.nil _ _, by unfold Hid; rw [HRW.out, List.drop_zero]; cases lexW T (s.size + 1) s.data.toList <;> rfl, Stp.refl HR2.out, HE2.out⟩
  case round =>
    obtain ⟨p, g, K, rfl, rfl, hp, hg, hKp, HO, HEQ, HS, HE⟩ := hrel
    obtain ⟨ad, cap, rfl⟩ := HO.out.form
    clear HR2 HE2 HRW
    obtain ⟨g', rfl⟩ : ∃ g', g = g' + 1 := ⟨g - 1, by omega⟩
    have HPO : Hid (posOf wr (W.heap.size + 1) = p) := HS.out.at_.pos
    have HTO : Hid _ := token_any HS.out.at_ HE.out (by omega) hp (by omega)
    have hln := len_drop s p
    have hszr : W2.heap.size ≤ wr.heap.size := HS.out.turn.size
    have HTT : Hid (T (s.data.toList.drop p) = tokenL s.size (over (s.data.toList.drop p))) := by unfold Hid; rw [HT.out]
    cases htk : tokenL s.size (over (s.data.toList.drop p)) with
    | error x =>
      have HRR : Hid (R = .error x) := by
        unfold Hid
        rw [HEQ.out, lexW_err T g' _ x (by rw [HTT.out, htk])]
        rfl
      rw [htk] at HTO
      clear htk HTT HEQ
      go_wp2_with fail
      refine Calls.mono HTO.out ?_
      rintro e w5 ⟨kd, pos, v, ev, rfl, ⟨va, vn, vc, rfl⟩, ⟨q5, rfl, hx⟩, j5, hst5⟩
      have HX : Hid (AtEr w5 ea (.iface 79 (.pointer (some ⟨q5, 0, none⟩))) x) := ⟨q5, rfl, hx⟩
      have HS5 : Hid (Stp W2 (W.heap.size + 1) W.heap.size s j5 w5) := HS.out.trans hst5
      clear hx hst5 HTO HS HE HO HPO
      go_wp2_with fail
      go_ret2
      rw [HRR.out]
      exact ⟨_, _, rfl, ⟨rfl, HX.out.below (below_new _ _)⟩, HB2.out.trans ((Turn.below (HS5.out.below (below_new _ _)).turn (fun i e => by omega) (by omega)))⟩
    | ok r =>
      obtain ⟨tk, u⟩ := r
      have htok := token_ok (by rw [hln]; omega) htk
      have HRR : Hid (if tk.kind = 0 then R = .ok (K.map Prod.snd ++ [tk]) else R = preT (K.map Prod.snd ++ [tk]) (lexW T g' u)) := by
        unfold Hid
        split
        · rename_i h0
          rw [HEQ.out, lexW_end T g' _ tk u (by rw [HTT.out, htk]) h0]
          rfl
        · rename_i h0
          rw [HEQ.out, lexW_more T g' _ tk u (by rw [HTT.out, htk]) h0, preT_pre]
      rw [htk] at HTO
      clear htk HTT HEQ
      obtain ⟨tkk, tkp, tkq⟩ := tk
      simp only at htok HRR
      go_wp2_with fail
      refine Calls.mono HTO.out ?_
      rintro e w5 ⟨kd, pos, v, ev, rfl, rfl, rfl, rfl, hown5, j5, hst5, hj5, hu5⟩
      simp only at hown5 hu5
      have HU5 : Hid (u = s.data.toList.drop j5) := hu5
      have hlu : u.length = s.size - j5 := by rw [hu5, len_drop]
      have HS5 : Hid (Stp W2 (W.heap.size + 1) W.heap.size s j5 w5) := HS.out.trans hst5
      have HE5 : Hid (Env w5 ea) := HE.out.stp hst5 (by omega)
      have HO5 : Hid (TkOwn w5 W2.heap.size (.slice ad K.length cap) K) := HO.out.turn hst5.turn (fun i e => by omega)
      have HP5 : Hid (PtOwn w5 W2.heap.size v tkq) := hown5.lower hszr
      have hsz5 : W2.heap.size ≤ w5.heap.size := HS5.out.turn.size
      obtain ⟨va, vc, rfl⟩ := HP5.out.form
      clear hst5 hown5 hu5 HTO HS HE HO
      by_cases h0 : tkk = 0
      · rw [if_pos h0] at HRR
        subst h0
        have HCF : Hid (∀ w6, (((w5.alloc (.cells #[.int .i64 0, .int .i64 (tkp : Nat), .slice va tkq.length vc] 31)).alloc (.cells #[.int .i64 0, .int .i64 (tkp : Nat), .slice va tkq.length vc] 31))).grownBy w6 (Value.slice ad K.length cap).ownBlock → w6.cell? ⟨w5.heap.size, 0, none⟩ = some (.int .i64 0)) := fun w6 hg => by
          have hc : Cel ((w5.alloc (.cells #[.int .i64 0, .int .i64 (tkp : Nat), .slice va tkq.length vc] 31)).alloc (.cells #[.int .i64 0, .int .i64 (tkp : Nat), .slice va tkq.length vc] 31)) w5.heap.size 31 #[.int .i64 0, .int .i64 (tkp : Nat), .slice va tkq.length vc] := (Cel.new w5 _ _).below (below_new _ _) (by simp)
          exact (hc.kept hg (fun e => by have := (World.ownsRow.lt HO5.out.row _ e.symm).2; omega)).cell 0
        go_wp2_with (at_builtin; refine wpList_append_own_at _ rfl _ _ 23 rfl W2.heap.size 31 i0 _ 3 40 Tryz.underlying23 hi hz0 hz1 hz2 rfl (by decide) _ _ _ rfl (World.ownsRow.alloc (World.ownsRow.alloc HO5.out.row _) _) ⟨w5.heap.size + 1, 0, none⟩ 1 1 (tkC (.slice va tkq.length vc, ⟨0, tkp, tkq⟩)) rfl rfl (cells_new2 _ _ _ _) (by simp [Value.oneCell']) (by have := maxLen_big; omega) (by omega) (by simp; omega) ?_; intro v6 w6 hown hgrow _ _; have hc6 := HCF.out w6 hgrow; obtain ⟨ad6, cap6, rfl⟩ := owns_slice hown)
        have hb5 : Below W2.heap.size w5 ((w5.alloc (.cells #[.int .i64 0, .int .i64 (tkp : Nat), .slice va tkq.length vc] 31)).alloc (.cells #[.int .i64 0, .int .i64 (tkp : Nat), .slice va tkq.length vc] 31)) := ((Below.refl _ w5).alloc hsz5 _).alloc (by simp; omega) _
        have hbel : Below W2.heap.size w5 w6 := grown_own (by simp; omega) hb5 (World.ownsRow.alloc (World.ownsRow.alloc HO5.out.row _) _) hgrow
        have HO6 : Hid (TkOwn w6 W2.heap.size (.slice ad6 (K.length + 1) cap6) (K ++ [(.slice va tkq.length vc, ⟨0, tkp, tkq⟩)])) := by
          refine ⟨by rw [tkCs_append, tkCs_one, List.length_append]; exact hown, fun q hq => ?_⟩
          have hq5 : PtOwn w5 W2.heap.size q.1 q.2.parts := by
            rcases List.mem_append.1 hq with hq | hq
            · exact HO5.out.parts q hq
            · rw [List.mem_singleton.1 hq]; exact HP5.out
          exact ((hq5.below (below_new _ _)).below (below_new _ _)).grown (World.ownsRow.alloc (World.ownsRow.alloc HO5.out.row _) _) hgrow
        have HS6 : Hid (Stp W2 (W.heap.size + 1) W.heap.size s j5 w6) := HS5.out.under (by omega) (by omega) hbel
        have HE6 : Hid (Env w6 ea) := HE5.out.under hbel (by omega)
        clear hown hgrow hbel HS5 HE5 HO5 HP5 hb5 HCF
        go_wp2_with fail
        go_ret2
        rw [HRR.out]
        exact ⟨_, _, rfl, ⟨rfl, _, by rw [List.map_append]; rfl, HO6.out.lower (by omega)⟩, HB2.out.trans (Turn.below HS6.out.turn (fun i e => by omega) (by omega))⟩
      · rw [if_neg h0] at HRR
        have hk0 : ((tkk : Int) == 0) = false := by simp; exact h0
        have hlt : p < j5 := by
          rcases htok with h1 | h1
          · exact absurd h1.1 h0
          · have h2 := h1.2.1
            clear h1
            omega
        clear htok
        have HCF : Hid (∀ w6, (((w5.alloc (.cells #[.int .i64 (tkk : Nat), .int .i64 (tkp : Nat), .slice va tkq.length vc] 31)).alloc (.cells #[.int .i64 (tkk : Nat), .int .i64 (tkp : Nat), .slice va tkq.length vc] 31))).grownBy w6 (Value.slice ad K.length cap).ownBlock → w6.cell? ⟨w5.heap.size, 0, none⟩ = some (.int .i64 (tkk : Nat))) := fun w6 hg => by
          have hc : Cel ((w5.alloc (.cells #[.int .i64 (tkk : Nat), .int .i64 (tkp : Nat), .slice va tkq.length vc] 31)).alloc (.cells #[.int .i64 (tkk : Nat), .int .i64 (tkp : Nat), .slice va tkq.length vc] 31)) w5.heap.size 31 #[.int .i64 (tkk : Nat), .int .i64 (tkp : Nat), .slice va tkq.length vc] := (Cel.new w5 _ _).below (below_new _ _) (by simp)
          exact (hc.kept hg (fun e => by have := (World.ownsRow.lt HO5.out.row _ e.symm).2; omega)).cell 0
        go_wp2_with (at_builtin; refine wpList_append_own_at _ rfl _ _ 23 rfl W2.heap.size 31 i0 _ 3 40 Tryz.underlying23 hi hz0 hz1 hz2 rfl (by decide) _ _ _ rfl (World.ownsRow.alloc (World.ownsRow.alloc HO5.out.row _) _) ⟨w5.heap.size + 1, 0, none⟩ 1 1 (tkC (.slice va tkq.length vc, ⟨tkk, tkp, tkq⟩)) rfl rfl (cells_new2 _ _ _ _) (by simp [Value.oneCell']) (by have := maxLen_big; omega) (by omega) (by simp; omega) ?_; intro v6 w6 hown hgrow _ _; have hc6 := HCF.out w6 hgrow; obtain ⟨ad6, cap6, rfl⟩ := owns_slice hown)
        have hb5 : Below W2.heap.size w5 ((w5.alloc (.cells #[.int .i64 (tkk : Nat), .int .i64 (tkp : Nat), .slice va tkq.length vc] 31)).alloc (.cells #[.int .i64 (tkk : Nat), .int .i64 (tkp : Nat), .slice va tkq.length vc] 31)) := ((Below.refl _ w5).alloc hsz5 _).alloc (by simp; omega) _
        have hbel : Below W2.heap.size w5 w6 := grown_own (by simp; omega) hb5 (World.ownsRow.alloc (World.ownsRow.alloc HO5.out.row _) _) hgrow
        have HO6 : Hid (TkOwn w6 W2.heap.size (.slice ad6 (K.length + 1) cap6) (K ++ [(.slice va tkq.length vc, ⟨tkk, tkp, tkq⟩)])) := by
          refine ⟨by rw [tkCs_append, tkCs_one, List.length_append]; exact hown, fun q hq => ?_⟩
          have hq5 : PtOwn w5 W2.heap.size q.1 q.2.parts := by
            rcases List.mem_append.1 hq with hq | hq
            · exact HO5.out.parts q hq
            · rw [List.mem_singleton.1 hq]; exact HP5.out
          exact ((hq5.below (below_new _ _)).below (below_new _ _)).grown (World.ownsRow.alloc (World.ownsRow.alloc HO5.out.row _) _) hgrow
        have HS6 : Hid (Stp W2 (W.heap.size + 1) W.heap.size s j5 w6) := HS5.out.under (by omega) (by omega) hbel
        have HE6 : Hid (Env w6 ea) := HE5.out.under hbel (by omega)
        clear hown hgrow hbel HS5 HE5 HO5 HP5 hb5 HCF
        go_wp2_with fail
        refine ⟨⟨j5, g', K ++ [(.slice va tkq.length vc, ⟨tkk, tkp, tkq⟩)], rfl, rfl, hj5, by omega, by rw [List.length_append]; simp; omega, HO6, by unfold Hid; rw [HRR.out, HU5.out, List.map_append]; rfl, HS6.out, HE6.out⟩, ?_⟩
        rw [HS6.out.at_.pos, HPO.out]
        omega
end Go.Proofs.YtnlbjgioleoihaaGreatDoor

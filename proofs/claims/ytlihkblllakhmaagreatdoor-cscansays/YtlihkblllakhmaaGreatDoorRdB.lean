/- A word in memory; that it ends; a bare word. -/
import Derived.Test.YtlihkblllakhmaaGreatDoorRd9
import Derived.Laws.OwnMore
/-! A part. -/
namespace Go.Proofs.YtlihkblllakhmaaGreatDoor
open Go.RowKit
attribute [local go_sem] Oper.semAt_some

theorem PartV.stp {W w' : World} {b sb : Nat} {s : ByteArray} {ea : Nat → Addr} {R : Except Er (Pt × List UInt8)} {p : Pt} {ev : Value} (h : PartV W b sb s ea R p ev w') : ∃ j, Stp W b sb s j w' := by
  cases R with
  | ok q =>
    obtain ⟨_, _, j, h3, _⟩ := h
    exact ⟨j, h3⟩
  | error x =>
    obtain ⟨_, j, h3⟩ := h
    exact ⟨j, h3⟩
/-- The error of a part, if it has one, is an interface's value. -/
theorem PartV.ev {W w' : World} {b sb : Nat} {s : ByteArray} {ea : Nat → Addr} {R : Except Er (Pt × List UInt8)} {p : Pt} {ev : Value} (h : PartV W b sb s ea R p ev w') : (∃ q, R = .ok q ∧ ev = .nilIface) ∨ ∃ x q, R = .error x ∧ ev = .iface 119 (.pointer (some ⟨q, 0, none⟩)) := by
  cases R with
  | ok q => exact .inl ⟨q, rfl, h.2.1⟩
  | error x =>
    obtain ⟨⟨q, h1, _⟩, _⟩ := h
    exact .inr ⟨x, q, rfl, h1⟩
set_option maxRecDepth 100000 in
set_option maxHeartbeats 4000000 in
theorem part_any {W : World} {b sb k : Nat} {s : ByteArray} {ea : Nat → Addr} (e : List UInt8) (h : Rd W b sb s k) (hE : Env W ea) (hs : s.size < 1099511627776) (hk : k < s.size) (hb64 : (ea 64).block ≤ b) :
    Calls Tryz.prog 82 #[.pointer (some ⟨b, 0, none⟩), .string ⟨e.toArray⟩] W fun e' w' => ∃ p ev, e' = .returned (.tuple #[.agg (ptC p).toArray, ev]) ∧ PartV W b sb s ea (partL s.size e (s.data.toList.drop k)) p ev w' := by
  have hlb := h.rd.lt
  have hlsb := h.src.lt
  obtain ⟨W0, hW0⟩ : ∃ W0, W0 = W.alloc (.cells zC 59) := ⟨_, rfl⟩
  have HS0 : Hid (Stp W b sb s k W0) := by rw [hW0]; exact (Stp.refl h).alloc _
  have HQ0 : Hid (Cel W0 W.heap.size 59 zC) := by rw [hW0]; exact Cel.new W _ _
  have HE0 : Hid (Env W0 ea) := by rw [hW0]; exact hE.below (below_new W _)
  have HW0 : Hid (W.alloc (.cells zC 59) = W0) := hW0.symm
  have c0 := HS0.out.at_.c0
  have c1 := HS0.out.at_.c1
  have HH : Hid (∀ m, Calls Tryz.prog 47 #[.pointer (some ⟨sb, 0, none⟩), .int .i64 (k : Nat), .string ⟨#[91]⟩] (W0.drewN m) fun e w' => e = .returned (.bool (s.data.toList[k]? == some 91)) ∧ w' = W0.drewN m) := fun m => hasb_any sb s 91 k (W0.drewN m) HS0.out.at_.t0
  have hnb : ¬ W.heap.size = b := by omega
  clear h hE hW0
  by_cases h91 : s[k] = 91
  · have HBR : Hid (∀ w, Stp W b sb s k w → Env w ea → Calls Tryz.prog 89 #[.pointer (some ⟨b, 0, none⟩)] w fun e' w' => ∃ p ev, e' = .returned (.tuple #[.agg (ptC p).toArray, ev]) ∧ PartV w b sb s ea (partL s.size e (s.data.toList.drop k)) p ev w') := fun w hw he => bracket_any e hw.at_ he hs hk h91 hb64
    rw [text_at s k hk, h91, beq_self_eq_true] at HH
    generalize partL s.size e (s.data.toList.drop k) = R at HBR ⊢
    clear h91
    go_enter Tryz.func82, Tryz.ntmps82
    go_wp2_with fail
    rw [HW0.out]
    go_quiet (first | (go_at_call 47; exact Calls.quiet_of_same (HH.out _)))
    obtain ⟨W1, hW1⟩ : ∃ W1, W1 = W0.drewN nq := ⟨_, rfl⟩
    have HS1 : Hid (Stp W b sb s k W1) := by rw [hW1]; exact HS0.out.drewN nq
    have HQ1 : Hid (Cel W1 W.heap.size 59 zC) := by rw [hW1]; exact HQ0.out
    have HE1 : Hid (Env W1 ea) := by rw [hW1]; exact HE0.out.drewN nq
    rw [← hW1]
    clear hW1 c0 c1 HH HS0 HQ0 HE0
    go_wp2_with fail
    refine Calls.mono (HBR.out _ HS1.out HE1.out) ?_
    rintro e' w2 ⟨p, ev, rfl, hv⟩
    obtain ⟨j, hst⟩ := hv.stp
    have HQ2 : Hid (Cel w2 W.heap.size 59 zC) := HQ1.out.turn hst.turn (by omega)
    have HV2 : Hid (PartV W b sb s ea R p ev w2) := hv.lift HS1.out
    have hev := hv.ev
    clear hv hst HS1 HQ1 HE1 HBR
    have z0 : w2.cell? ⟨W.heap.size, 0, none⟩ = some (.int .i64 0) := HQ2.out.cell 0
    have z1 : w2.cell? ⟨W.heap.size, 1, none⟩ = some (.int .i64 0) := HQ2.out.cell 1
    have z2 : w2.cell? ⟨W.heap.size, 2, none⟩ = some (.int .i64 0) := HQ2.out.cell 2
    have z3 : w2.cell? ⟨W.heap.size, 3, none⟩ = some (.string ⟨#[]⟩) := HQ2.out.cell 3
    have zf0 := HQ2.out.frozen 0
    have zf1 := HQ2.out.frozen 1
    have zf2 := HQ2.out.frozen 2
    have zf3 := HQ2.out.frozen 3
    obtain ⟨pk, pp, pn, ps⟩ := p
    rcases hev with ⟨q, _, rfl⟩ | ⟨x, q, _, rfl⟩
    all_goals
      go_wp2_with fail
      refine bodyPost_ret (results_part (p := 4) (u := 5) rfl _ _ W.heap.size _ rfl (HQ2.out.put4 _ _ _ _) rfl) rfl ?_
      exact ⟨⟨pk, pp, pn, ps⟩, _, rfl, HV2.out.put HQ2.out hlb hlsb (Nat.le_refl _) _ _ _ _⟩
  · rw [text_at s k hk, show (some s[k] == some (91 : UInt8)) = false by simpa using h91] at HH
    have HDO : Hid (∀ w, Stp W b sb s k w → Calls Tryz.prog 90 #[.pointer (some ⟨b, 0, none⟩)] w fun e w' => e = .returned (.bool (dolB (s.data.toList.drop k))) ∧ Dr w w') := fun w hw => dollarHere_any hw.at_ hs (by omega)
    have HP : Hid (partL s.size e (s.data.toList.drop k) = if dolB (s.data.toList.drop k) then dollar s.size (s.data.toList.drop k) else .ok (⟨1, k, 0, (plainL e (s.size - k) (s.data.toList.drop k)).1⟩, (plainL e (s.size - k) (s.data.toList.drop k)).2)) := by
      unfold Hid partL
      rw [if_neg, len_drop, show s.size - (s.size - k) = k by omega]
      rw [drop_cons s k hk, List.head?_cons]
      simpa using h91
    rw [HP.out]
    clear h91 HP
    cases hd : dolB (s.data.toList.drop k) with
    | true =>
      rw [hd] at HDO
      rw [if_pos rfl]
      have HDL : Hid (∀ w, Stp W b sb s k w → Env w ea → Calls Tryz.prog 91 #[.pointer (some ⟨b, 0, none⟩)] w fun e' w' => ∃ p ev, e' = .returned (.tuple #[.agg (ptC p).toArray, ev]) ∧ PartV w b sb s ea (dollar s.size (s.data.toList.drop k)) p ev w') := fun w hw he => dollar_any hw.at_ he hs hd hb64
      generalize dollar s.size (s.data.toList.drop k) = R at HDL ⊢
      clear hd
      go_enter Tryz.func82, Tryz.ntmps82
      go_wp2_with fail
      rw [HW0.out]
      go_quiet (first | (go_at_call 47; exact Calls.quiet_of_same (HH.out _)))
      obtain ⟨W1, hW1⟩ : ∃ W1, W1 = W0.drewN nq := ⟨_, rfl⟩
      have HS1 : Hid (Stp W b sb s k W1) := by rw [hW1]; exact HS0.out.drewN nq
      have HQ1 : Hid (Cel W1 W.heap.size 59 zC) := by rw [hW1]; exact HQ0.out
      have HE1 : Hid (Env W1 ea) := by rw [hW1]; exact HE0.out.drewN nq
      rw [← hW1]
      clear hW1 c0 c1 HH HS0 HQ0 HE0
      go_wp2_with fail
      refine Calls.mono (HDO.out _ HS1.out) ?_
      rintro e' w3 ⟨rfl, m3, hw3⟩
      have HS3 : Hid (Stp W b sb s k w3) := by rw [hw3]; exact HS1.out.drewN m3
      have HQ3 : Hid (Cel w3 W.heap.size 59 zC) := by rw [hw3]; exact HQ1.out
      have HE3 : Hid (Env w3 ea) := by rw [hw3]; exact HE1.out.drewN m3
      clear hw3 HS1 HQ1 HE1 HDO
      go_wp2_with fail
      refine Calls.mono (HDL.out _ HS3.out HE3.out) ?_
      rintro e' w2 ⟨p, ev, rfl, hv⟩
      obtain ⟨j, hst⟩ := hv.stp
      have HQ2 : Hid (Cel w2 W.heap.size 59 zC) := HQ3.out.turn hst.turn (by omega)
      have HV2 : Hid (PartV W b sb s ea R p ev w2) := hv.lift HS3.out
      have hev := hv.ev
      clear hv hst HS3 HQ3 HE3 HDL
      have z0 : w2.cell? ⟨W.heap.size, 0, none⟩ = some (.int .i64 0) := HQ2.out.cell 0
      have z1 : w2.cell? ⟨W.heap.size, 1, none⟩ = some (.int .i64 0) := HQ2.out.cell 1
      have z2 : w2.cell? ⟨W.heap.size, 2, none⟩ = some (.int .i64 0) := HQ2.out.cell 2
      have z3 : w2.cell? ⟨W.heap.size, 3, none⟩ = some (.string ⟨#[]⟩) := HQ2.out.cell 3
      have zf0 := HQ2.out.frozen 0
      have zf1 := HQ2.out.frozen 1
      have zf2 := HQ2.out.frozen 2
      have zf3 := HQ2.out.frozen 3
      obtain ⟨pk, pp, pn, ps⟩ := p
      rcases hev with ⟨q, _, rfl⟩ | ⟨x, q, _, rfl⟩
      all_goals
        go_wp2_with fail
        refine bodyPost_ret (results_part (p := 4) (u := 5) rfl _ _ W.heap.size _ rfl (HQ2.out.put4 _ _ _ _) rfl) rfl ?_
        exact ⟨⟨pk, pp, pn, ps⟩, _, rfl, HV2.out.put HQ2.out hlb hlsb (Nat.le_refl _) _ _ _ _⟩
    | false =>
      rw [hd] at HDO
      rw [if_neg (by simp)]
      have HPL : Hid (∀ w, Stp W b sb s k w → Calls Tryz.prog 92 #[.pointer (some ⟨b, 0, none⟩), .string ⟨e.toArray⟩] w fun e' w' => e' = .returned (.agg (ptC ⟨1, k, 0, (plainL e (s.size - k) (s.data.toList.drop k)).1⟩).toArray) ∧ ∃ j, Stp w b sb s j w' ∧ k ≤ j ∧ j ≤ s.size ∧ (plainL e (s.size - k) (s.data.toList.drop k)).2 = s.data.toList.drop j) := fun w hw => plain_any e hw.at_ hs (by omega) (Nat.le_refl _)
      generalize plainL e (s.size - k) (s.data.toList.drop k) = R at HPL ⊢
      clear hd
      go_enter Tryz.func82, Tryz.ntmps82
      go_wp2_with fail
      rw [HW0.out]
      go_quiet (first | (go_at_call 47; exact Calls.quiet_of_same (HH.out _)))
      obtain ⟨W1, hW1⟩ : ∃ W1, W1 = W0.drewN nq := ⟨_, rfl⟩
      have HS1 : Hid (Stp W b sb s k W1) := by rw [hW1]; exact HS0.out.drewN nq
      have HQ1 : Hid (Cel W1 W.heap.size 59 zC) := by rw [hW1]; exact HQ0.out
      rw [← hW1]
      clear hW1 c0 c1 HH HS0 HQ0 HE0
      go_wp2_with fail
      refine Calls.mono (HDO.out _ HS1.out) ?_
      rintro e' w3 ⟨rfl, m3, hw3⟩
      have HS3 : Hid (Stp W b sb s k w3) := by rw [hw3]; exact HS1.out.drewN m3
      have HQ3 : Hid (Cel w3 W.heap.size 59 zC) := by rw [hw3]; exact HQ1.out
      clear hw3 HS1 HQ1 HDO
      go_wp2_with fail
      refine Calls.mono (HPL.out _ HS3.out) ?_
      rintro e' w2 ⟨rfl, j, hst, hj1, hj2, hj3⟩
      have HQ2 : Hid (Cel w2 W.heap.size 59 zC) := HQ3.out.turn hst.turn (by omega)
      have HS2 : Hid (Stp W b sb s j w2) := HS3.out.trans hst
      have HJ : Hid (R.2 = s.data.toList.drop j) := hj3
      clear hst hj3 HS3 HQ3 HPL
      have z0 : w2.cell? ⟨W.heap.size, 0, none⟩ = some (.int .i64 0) := HQ2.out.cell 0
      have z1 : w2.cell? ⟨W.heap.size, 1, none⟩ = some (.int .i64 0) := HQ2.out.cell 1
      have z2 : w2.cell? ⟨W.heap.size, 2, none⟩ = some (.int .i64 0) := HQ2.out.cell 2
      have z3 : w2.cell? ⟨W.heap.size, 3, none⟩ = some (.string ⟨#[]⟩) := HQ2.out.cell 3
      have zf0 := HQ2.out.frozen 0
      have zf1 := HQ2.out.frozen 1
      have zf2 := HQ2.out.frozen 2
      have zf3 := HQ2.out.frozen 3
      go_wp2_with fail
      refine bodyPost_ret (results_part (p := 4) (u := 5) rfl _ _ W.heap.size _ rfl (HQ2.out.put4 _ _ _ _) rfl) rfl ?_
      exact ⟨⟨1, k, 0, R.1⟩, _, rfl, PartV.put (R := .ok (⟨1, k, 0, R.1⟩, R.2)) ⟨rfl, rfl, j, HS2.out, hj2, HJ.out⟩ HQ2.out hlb hlsb (Nat.le_refl _) _ _ _ _⟩
end Go.Proofs.YtlihkblllakhmaaGreatDoor
/-! Parts in memory; the parts up to what ends them. -/
namespace Go.Proofs.YtlihkblllakhmaaGreatDoor
open Go.RowKit
attribute [local go_sem] Oper.semAt_some

/-! ### parts -/
def ptCs (X : List Pt) : List Value := X.flatMap ptC
theorem ptCs_append (X Y : List Pt) : ptCs (X ++ Y) = ptCs X ++ ptCs Y := by simp [ptCs]
theorem ptCs_one (p : Pt) : ptCs [p] = ptC p := by simp [ptCs]
theorem ptCs_length (X : List Pt) : (ptCs X).length = X.length * 4 := by
  induction X with
  | nil => rfl
  | cons x X ih => simp [ptCs] at ih ⊢; omega
/-- Parts of one's own. -/
def PtOwn (W : World) (B : Nat) (v : Value) (X : List Pt) : Prop := W.ownsRow B 59 4 v X.length (ptCs X)
theorem PtOwn.nil (W : World) (B : Nat) : PtOwn W B (.slice none 0 0) [] := World.ownsRow_nil W B _ _
theorem PtOwn.turn {W W' : World} {B : Nat} {v : Value} {X : List Pt} {S : Nat → Prop} (h : PtOwn W B v X) (hT : Turn S W W') (hS : ∀ i, S i → i < B) : PtOwn W' B v X := by
  refine owns_turn h hT fun g hg hs => ?_
  have := (World.ownsRow.lt h g hg).1
  have := hS g hs
  omega
theorem PtOwn.below {W W' : World} {B : Nat} {v : Value} {X : List Pt} (h : PtOwn W B v X) (hb : Below W.heap.size W W') : PtOwn W' B v X := h.turn (Turn.ofBelow (S := fun _ => False) hb) (fun _ e => e.elim)
theorem PtOwn.lower {W : World} {B B' : Nat} {v : Value} {X : List Pt} (h : PtOwn W B v X) (hB : B' ≤ B) : PtOwn W B' v X := owns_lower h hB
theorem PtOwn.form {W : World} {B : Nat} {v : Value} {X : List Pt} (h : PtOwn W B v X) : ∃ ad cap, v = .slice ad X.length cap := owns_slice h
/-- One part, laid anew. -/
theorem PtOwn.one (W : World) (B : Nat) (p : Pt) (hB : B ≤ W.heap.size) : PtOwn (W.alloc (.cells (ptC p).toArray 59)) B (.slice (some ⟨W.heap.size, 0, none⟩) 1 1) [p] := by
  have := World.ownsRow_lit (base := B) (e := 59) (size := 4) W (ptC p).toArray 1 hB (by decide) rfl
  unfold PtOwn
  rw [ptCs_one]
  exact this
theorem cells_new2 (w : World) (o : Obj) (cs : List Value) (t : TypeId) : ∀ j u, cs[j]? = some u → ((w.alloc o).alloc (.cells cs.toArray t)).cell? ((⟨w.heap.size + 1, 0, none⟩ : Addr).add j) = some u := by
  have := cells_new (w.alloc o) cs t
  rw [show (w.alloc o).heap.size = w.heap.size + 1 by simp] at this
  exact this
theorem infoP : (Tryz.prog.info? 59).map (fun i => (i.zero, i.size, i.bytes)) = some (some (.agg zC), 4, 40) := by kernel_rfl
/-- Parts, or an error; where the reader stands behind them. -/
def PartsV (W : World) (b sb : Nat) (s : ByteArray) (ea : Nat → Addr) (R : Except Er (List Pt × List UInt8)) (v ev : Value) (w' : World) : Prop := match R with
  | .ok q => ev = .nilIface ∧ PtOwn w' W.heap.size v q.1 ∧ ∃ j, Stp W b sb s j w' ∧ j ≤ s.size ∧ q.2 = s.data.toList.drop j
  | .error x => v = .slice none 0 0 ∧ AtEr w' ea ev x ∧ ∃ j, Stp W b sb s j w'
/-- Parts ahead of others. -/
def preR (acc : List Pt) (R : Except Er (List Pt × List UInt8)) : Except Er (List Pt × List UInt8) := match R with
  | .error e => .error e
  | .ok q => .ok (acc ++ q.1, q.2)
theorem preR_pre (a b : List Pt) (R : Except Er (List Pt × List UInt8)) : preR a (preR b R) = preR (a ++ b) R := by
  cases R with
  | error e => rfl
  | ok q => simp [preR]
theorem preR_nil (R : Except Er (List Pt × List UInt8)) : preR [] R = R := by cases R <;> rfl
theorem parts_nil (N : Nat) (e : List UInt8) (f : Nat) : partsL N e f [] = .ok ([], []) := by cases f <;> rfl
theorem parts_stop (N : Nat) (e : List UInt8) (f : Nat) (c : UInt8) (t : List UInt8) (h : e.contains c = true) : partsL N e f (c :: t) = .ok ([], c :: t) := by
  cases f with
  | zero => rfl
  | succ f => rw [partsL, if_pos h]
theorem parts_err (N : Nat) (e : List UInt8) (f : Nat) (c : UInt8) (t : List UInt8) (h : e.contains c = false) (x : Er) (hp : partL N e (c :: t) = .error x) : partsL N e (f + 1) (c :: t) = .error x := by
  rw [partsL, if_neg (by rw [h]; simp), hp]
theorem parts_ok (N : Nat) (e : List UInt8) (f : Nat) (c : UInt8) (t : List UInt8) (h : e.contains c = false) (p : Pt) (u : List UInt8) (hp : partL N e (c :: t) = .ok (p, u)) : partsL N e (f + 1) (c :: t) = preR [p] (partsL N e f u) := by
  rw [partsL, if_neg (by rw [h]; simp), hp]
  simp only
  cases partsL N e f u <;> rfl
theorem dollar_lt {N : Nat} {l : List UInt8} {p : Pt} {u : List UInt8} (h : dollar N l = .ok (p, u)) : u.length < l.length := by
  match l, h with
  | [], h => cases h
  | [_], h => cases h
  | a :: c :: t, h =>
    rw [dollar] at h
    split at h
    · cases h; simp; omega
    · split at h
      · cases h; simp; omega
      · split at h
        · cases h
        · cases h
          rw [List.length_drop]
          simp only [List.length_cons]
          omega
theorem partL_lt {N : Nat} {e : List UInt8} {c : UInt8} {t : List UInt8} {p : Pt} {u : List UInt8} (he : e.contains c = false) (h : partL N e (c :: t) = .ok (p, u)) : u.length < (c :: t).length := by
  unfold partL at h
  by_cases h91 : c = 91
  · subst h91
    rw [if_pos (show (91 :: t).head? = some 91 from rfl)] at h
    cases hp : passK 0 0 t with
    | none =>
      rw [show (91 :: t).tail = t from rfl, hp] at h
      cases h
    | some w =>
      rw [show (91 :: t).tail = t from rfl, hp] at h
      obtain ⟨_, rfl⟩ := Prod.mk.inj (Except.ok.inj h)
      have := passK_lt _ _ _ _ _ (Nat.le_refl _) hp
      rw [List.length_cons]
      omega
  · rw [if_neg (by simpa using h91)] at h
    cases hd : dolB (c :: t) with
    | true =>
      rw [hd, if_pos rfl] at h
      exact dollar_lt h
    | false =>
      rw [hd, if_neg (by simp)] at h
      obtain ⟨_, rfl⟩ := Prod.mk.inj (Except.ok.inj h)
      refine plain_lt e _ _ ?_
      show (e.contains c || c == 91 || dolB (c :: t)) = false
      rw [he, hd]
      simpa using h91
set_option maxRecDepth 100000 in
set_option maxHeartbeats 8000000 in
theorem parts_any {W : World} {b sb k f : Nat} {s : ByteArray} {ea : Nat → Addr} (e : List UInt8) (h : Rd W b sb s k) (hE : Env W ea) (hs : s.size ≤ 8192) (hk : k ≤ s.size) (hf : s.size - k ≤ f) (hb64 : (ea 64).block ≤ b) :
    Calls Tryz.prog 68 #[.pointer (some ⟨b, 0, none⟩), .string ⟨e.toArray⟩] W fun e' w' => ∃ v ev, e' = .returned (.tuple #[v, ev]) ∧ PartsV W b sb s ea (partsL s.size e f (s.data.toList.drop k)) v ev w' := by
  obtain ⟨i0, hi, hz0, hz1, hz2⟩ := info_parts infoP
  have hlb := h.rd.lt
  have hlsb := h.src.lt
  have HR0 : Hid (Rd W b sb s k) := h
  have HE0 : Hid (Env W ea) := hE
  have HEV : Hid (∀ w j, Stp W b sb s j w → Env w ea) := fun w j hw => hE.stp hw hb64
  obtain ⟨R, HR⟩ : ∃ R, Hid (partsL s.size e f (s.data.toList.drop k) = R) := ⟨_, rfl⟩
  rw [HR.out]
  clear h hE
  go_enter Tryz.func68, Tryz.ntmps68
  go_wp2_with fail
  go_loopw [4, 5, 6] (fun v4 v5 v6 wr => ∃ (p g : Nat) (acc : List Pt) (a6 : Option Addr) (c6 : Nat), v4 = .slice none 0 0 ∧ v5 = .nilIface ∧ v6 = .slice a6 acc.length c6 ∧ k ≤ p ∧ p ≤ s.size ∧ s.size - p ≤ g ∧ acc.length ≤ p ∧ Hid (R = preR acc (partsL s.size e g (s.data.toList.drop p))) ∧ Hid (Stp W b sb s p wr) ∧ Hid (PtOwn wr W.heap.size (.slice a6 acc.length c6) acc)) (fun _ _ _ wr => s.size + 2 - posOf wr b)
  case atStart => exact ⟨k, f, [], none, 0, rfl, rfl, rfl, Nat.le_refl _, hk, hf, by simp, by unfold Hid; rw [← HR.out, preR_nil], Stp.refl HR0.out, PtOwn.nil _ _⟩
  case round =>
    obtain ⟨p, g, acc, a6, c6, rfl, rfl, rfl, hkp, hp, hg, hacc, HE, HS, HO⟩ := hrel
    clear HR0 HE0 HR
    have HPO : Hid (posOf wr b = p) := HS.out.at_.pos
    have HEA : Hid _ := endsAt_any HS.out.at_ e
    cases hq : endQ e s.data.toList[p]? with
    | true =>
      rw [hq] at HEA
      have HEQ : Hid (R = .ok (acc, s.data.toList.drop p)) := by
        unfold Hid
        rw [HE.out]
        by_cases hlt : p < s.size
        · rw [text_at s p hlt] at hq
          rw [drop_cons s p hlt, parts_stop _ _ _ _ _ hq]
          simp [preR]
        · rw [drop_none s p hlt, parts_nil]
          simp [preR]
      clear HE hq HPO
      go_wp2_with fail
      refine Calls.mono HEA.out ?_
      rintro e' w1 ⟨rfl, m1, hw1⟩
      have HS1 : Hid (Stp W b sb s p w1) := by rw [hw1]; exact HS.out.drewN m1
      have HO1 : Hid (PtOwn w1 W.heap.size (.slice a6 acc.length c6) acc) := by rw [hw1]; exact HO.out.below ⟨rfl, rfl, rfl, Nat.le_refl _, fun _ _ => rfl⟩
      clear hw1 HS HO HEA
      go_wp2_with fail
      go_ret2
      refine ⟨_, _, rfl, ?_⟩
      rw [HEQ.out]
      exact ⟨rfl, HO1.out, p, HS1.out, hp, rfl⟩
    | false =>
      rw [hq] at HEA
      have hlt : p < s.size := by
        by_cases h : p < s.size
        · exact h
        · rw [at_none s p h] at hq
          cases hq
      rw [text_at s p hlt] at hq
      have hec : e.contains s[p] = false := hq
      obtain ⟨g', rfl⟩ : ∃ g', g = g' + 1 := ⟨g - 1, by omega⟩
      have HPA : Hid (∀ w, Stp W b sb s p w → Env w ea → Calls Tryz.prog 82 #[.pointer (some ⟨b, 0, none⟩), .string ⟨e.toArray⟩] w fun e' w' => ∃ q ev, e' = .returned (.tuple #[.agg (ptC q).toArray, ev]) ∧ PartV w b sb s ea (partL s.size e (s.data.toList.drop p)) q ev w') := fun w hw he => part_any e hw.at_ he (by omega) hlt hb64
      have HC : Hid _ := drop_cons s p hlt
      clear hq
      cases hpl : partL s.size e (s.data.toList.drop p) with
      | error x =>
        have HEQ : Hid (R = .error x) := by
          unfold Hid
          rw [HE.out, HC.out]
          rw [HC.out] at hpl
          rw [parts_err _ _ _ _ _ hec x hpl]
          rfl
        rw [hpl] at HPA
        clear HE hpl HC hec HPO
        go_wp2_with fail
        refine Calls.mono HEA.out ?_
        rintro e' w1 ⟨rfl, m1, hw1⟩
        have HS1 : Hid (Stp W b sb s p w1) := by rw [hw1]; exact HS.out.drewN m1
        have HE1 : Hid (Env w1 ea) := HEV.out _ _ HS1.out
        clear hw1 HS HO HEA
        go_wp2_with fail
        refine Calls.mono (HPA.out _ HS1.out HE1.out) ?_
        rintro e' w2 ⟨q, ev, rfl, ⟨qe, rfl, hqe⟩, j, hst⟩
        have HS2 : Hid (Stp W b sb s j w2) := HS1.out.trans hst
        have HX2 : Hid (AtEr w2 ea (.iface 119 (.pointer (some ⟨qe, 0, none⟩))) x) := ⟨qe, rfl, hqe⟩
        obtain ⟨qk, qp, qn, qs⟩ := q
        clear hqe hst HS1 HE1 HPA
        go_wp2_with fail
        go_ret2
        refine ⟨_, _, rfl, ?_⟩
        rw [HEQ.out]
        exact ⟨rfl, HX2.out.below (below_new _ _), j, HS2.out.alloc _⟩
      | ok r =>
        obtain ⟨q0, u⟩ := r
        have hul : u.length < s.size - p := by
          have := hpl
          rw [HC.out] at this
          have h9 := partL_lt hec this
          rw [← HC.out, len_drop] at h9
          exact h9
        have HEQ : Hid (R = preR (acc ++ [q0]) (partsL s.size e g' u)) := by
          unfold Hid
          rw [HE.out, HC.out]
          rw [HC.out] at hpl
          rw [parts_ok _ _ _ _ _ hec q0 u hpl, preR_pre]
        rw [hpl] at HPA
        clear HE hpl HC hec
        go_wp2_with fail
        refine Calls.mono HEA.out ?_
        rintro e' w1 ⟨rfl, m1, hw1⟩
        have HS1 : Hid (Stp W b sb s p w1) := by rw [hw1]; exact HS.out.drewN m1
        have HE1 : Hid (Env w1 ea) := HEV.out _ _ HS1.out
        have HO1 : Hid (PtOwn w1 W.heap.size (.slice a6 acc.length c6) acc) := by rw [hw1]; exact HO.out.below ⟨rfl, rfl, rfl, Nat.le_refl _, fun _ _ => rfl⟩
        clear hw1 HS HO HEA
        go_wp2_with fail
        refine Calls.mono (HPA.out _ HS1.out HE1.out) ?_
        rintro e' w2 ⟨q, ev, rfl, rfl, rfl, j, hst, hj1, hj2⟩
        have HS2 : Hid (Stp W b sb s j w2) := HS1.out.trans hst
        have HO2 : Hid (w2.ownsRow W.heap.size 59 4 (.slice a6 acc.length c6) acc.length (ptCs acc)) := HO1.out.turn hst.turn (fun i ei => by omega)
        have HU : Hid (u = s.data.toList.drop j) := hj2
        have hpj : p < j := by
          have h9 : (s.data.toList.drop j).length < s.size - p := by rw [← HU.out]; exact hul
          rw [len_drop] at h9
          omega
        have hz2' : W.heap.size ≤ w2.heap.size := HS2.out.turn.size
        clear hst hj2 HS1 HE1 HO1 HPA hul
        obtain ⟨qk, qp, qn, qs⟩ := q
        go_wp2_with (at_builtin; refine wpList_append_own_at _ rfl _ _ 42 rfl W.heap.size 59 i0 _ 4 40 Tryz.underlying42 hi hz0 hz1 hz2 rfl (by decide) _ _ _ rfl (World.ownsRow.alloc (World.ownsRow.alloc HO2.out _) _) ⟨w2.heap.size + 1, 0, none⟩ 1 1 (ptC (⟨qk, qp, qn, qs⟩ : Pt)) rfl rfl (cells_new2 _ _ _ _) (by simp [Value.oneCell']) (by have := maxLen_big; omega) (by omega) (by simp; omega) ?_; intro v6 w6 hown hgrow _ _)
        have hbel : Below W.heap.size w2 w6 := grown_own (by simp; omega) (((Below.refl _ w2).alloc hz2' _).alloc (by simp; omega) _) (World.ownsRow.alloc (World.ownsRow.alloc HO2.out _) _) hgrow
        have HS6 : Hid (Stp W b sb s j w6) := HS2.out.under hlb hlsb hbel
        obtain ⟨a7, c7, rfl⟩ := owns_slice hown
        have HO6 : Hid (PtOwn w6 W.heap.size (.slice a7 (acc ++ [(⟨qk, qp, qn, qs⟩ : Pt)]).length c7) (acc ++ [⟨qk, qp, qn, qs⟩])) := by
          unfold Hid PtOwn
          rw [ptCs_append, ptCs_one, List.length_append]
          exact hown
        have HLN : Hid ((acc ++ [(⟨qk, qp, qn, qs⟩ : Pt)]).length = acc.length + 1) := by unfold Hid; simp
        clear hown hgrow hbel HS2 HO2
        go_wp2_with fail
        refine ⟨⟨j, g', acc ++ [(⟨qk, qp, qn, qs⟩ : Pt)], a7, c7, rfl, rfl, by rw [HLN.out], by omega, hj1, by omega, by rw [HLN.out]; omega, by rw [← HU.out]; exact HEQ.out, HS6.out, HO6.out⟩, ?_⟩
        rw [HS6.out.at_.pos, HPO.out]
        omega
end Go.Proofs.YtlihkblllakhmaaGreatDoor
namespace Go.Proofs.YtlihkblllakhmaaGreatDoor
open Go.RowKit
attribute [local go_sem] Oper.semAt_some

theorem sizeW : (Tryz.prog.info? 44).map (·.size) = some 3 := by kernel_rfl
theorem results_word {fn : Func} {p u : Tmp} (h : fn.results = #[.cell p 44, .tmp u]) (tmps : Array Value) (w : World) (g : Nat) (cs : Array Value) (hp : tmps.getD p undef = .pointer (some ⟨g, 0, none⟩)) (hc : Cel w g 44 cs) (hz : cs.size = 3) :
    (results fn tmps).run Tryz.prog w = .ok (.tuple #[.agg cs, tmps.getD u undef]) w := by
  rw [results_cell_tmp h, hp]
  simp only [asAddr, Sem.run_pure, Result.andThen]
  rw [run_loadVar_row w g 44 44 cs (0, 0) _ hc Tryz.underlying44 rfl (by rw [hz]; exact sizeW)]
abbrev zW : Array Value := #[.int .i64 0, .bool false, .slice none 0 0]
def putW (X : World) (g : Nat) (v0 v1 v2 : Value) : World := ((X.setCell ⟨g, 0, none⟩ v0).setCell ⟨g, 1, none⟩ v1).setCell ⟨g, 2, none⟩ v2
theorem Cel.put3 {X : World} {g : Nat} {t : TypeId} {u0 u1 u2 : Value} (h : Cel X g t #[u0, u1, u2]) (v0 v1 v2 : Value) : Cel (putW X g v0 v1 v2) g t #[v0, v1, v2] :=
  ((h.set (j := 0) v0).set (j := 1) v1).set (j := 2) v2
theorem Cel.away3 {X : World} {g c : Nat} {t : TypeId} {cs : Array Value} (h : Cel X c t cs) (hne : c ≠ g) (v0 v1 v2 : Value) : Cel (putW X g v0 v1 v2) c t cs :=
  ((h.other hne v0).other hne v1).other hne v2
theorem Stp.put3 {W X : World} {b sb k g : Nat} {s : ByteArray} (h : Stp W b sb s k X) (hb : b < W.heap.size) (hsb : sb < W.heap.size) (hg : W.heap.size ≤ g) (v0 v1 v2 : Value) : Stp W b sb s k (putW X g v0 v1 v2) :=
  ((h.other hb hsb hg 0 v0).other hb hsb hg 1 v1).other hb hsb hg 2 v2
theorem Turn.putW (X : World) (g : Nat) (v0 v1 v2 : Value) : Turn (fun i => i = g) X (putW X g v0 v1 v2) :=
  ((Turn.setCell (S := fun i => i = g) (p := ⟨g, 0, none⟩) (Turn.refl _ X) (fun _ => rfl) v0).setCell (p := ⟨g, 1, none⟩) (fun _ => rfl) v1).setCell (p := ⟨g, 2, none⟩) (fun _ => rfl) v2
theorem AtEr.putW {w : World} {g : Nat} {cs : Array Value} {ea : Nat → Addr} {v : Value} {x : Er} (h : AtEr w ea v x) (hc : Cel w g 44 cs) (v0 v1 v2 : Value) : AtEr (putW w g v0 v1 v2) ea v x := by
  refine h.turn (Turn.putW w g v0 v1 v2) (fun i e cs' hc' => ?_)
  subst e
  have := (show w.heap[i]? = _ from hc').symm.trans hc
  simp at this
/-- A word, or an error; where the reader stands behind it. -/
def WordV (W : World) (b sb : Nat) (s : ByteArray) (ea : Nat → Addr) (R : Except Er (Wd × List UInt8)) (v : Array Value) (ev : Value) (w' : World) : Prop := match R with
  | .ok q => ev = .nilIface ∧ (∃ pv, v = #[.int .i64 (q.1.pos : Nat), .bool q.1.braced, pv] ∧ PtOwn w' W.heap.size pv q.1.parts) ∧ ∃ j, Stp W b sb s j w' ∧ j ≤ s.size ∧ q.2 = s.data.toList.drop j
  | .error x => v = zW ∧ AtEr w' ea ev x ∧ ∃ j, Stp W b sb s j w'
set_option maxRecDepth 100000 in
set_option maxHeartbeats 2000000 in
theorem closed_yes {W : World} {b sb k : Nat} {s : ByteArray} (h : Rd W b sb s k) (hq : endQ endS s.data.toList[k]? = true) (ps : Nat) (br : Bool) (pa : Option Addr) (pl pc : Nat) :
    Calls Tryz.prog 67 #[.pointer (some ⟨b, 0, none⟩), .agg #[.int .i64 (ps : Nat), .bool br, .slice pa pl pc]] W fun e' w' => e' = .returned (.tuple #[.agg #[.int .i64 (ps : Nat), .bool br, .slice pa pl pc], .nilIface]) ∧ Stp W b sb s k w' := by
  have hlb := h.rd.lt
  have hlsb := h.src.lt
  obtain ⟨W0, hW0⟩ : ∃ W0, W0 = (W.alloc (.cells #[.int .i64 (ps : Nat), .bool br, .slice pa pl pc] 44)).alloc (.cells zW 44) := ⟨_, rfl⟩
  have HS0 : Hid (Stp W b sb s k W0) := by rw [hW0]; exact ((Stp.refl h).alloc _).alloc _
  have HP0 : Hid (Cel W0 W.heap.size 44 #[.int .i64 (ps : Nat), .bool br, .slice pa pl pc]) := by rw [hW0]; exact (Cel.new W _ _).below (below_new _ _) (by simp)
  have HQ0 : Hid (Cel W0 (W.heap.size + 1) 44 zW) := by rw [hW0]; exact Cel.new2 W _ _ _
  have HW0 : Hid ((W.alloc (.cells #[.int .i64 (ps : Nat), .bool br, .slice pa pl pc] 44)).alloc (.cells zW 44) = W0) := hW0.symm
  have HEA : Hid (Calls Tryz.prog 36 #[.pointer (some ⟨b, 0, none⟩), .string ⟨#[32, 9, 10, 59]⟩] W0 fun e w' => e = .returned (.bool true) ∧ ∃ m, w' = W0.drewN m) := by
    have := endsAt_any HS0.out.at_ endS
    rw [hq] at this
    exact this
  clear h hW0 hq
  go_enter Tryz.func67, Tryz.ntmps67
  go_wp2_with fail
  rw [HW0.out]
  refine Calls.mono HEA.out ?_
  rintro e' w1 ⟨rfl, m1, hw1⟩
  have HS1 : Hid (Stp W b sb s k w1) := by rw [hw1]; exact HS0.out.drewN m1
  have HP1 : Hid (Cel w1 W.heap.size 44 #[.int .i64 (ps : Nat), .bool br, .slice pa pl pc]) := by rw [hw1]; exact HP0.out
  have HQ1 : Hid (Cel w1 (W.heap.size + 1) 44 zW) := by rw [hw1]; exact HQ0.out
  clear hw1 HS0 HP0 HQ0 HEA HW0
  have z0 : w1.cell? ⟨W.heap.size + 1, 0, none⟩ = some (.int .i64 0) := HQ1.out.cell 0
  have z1 : w1.cell? ⟨W.heap.size + 1, 1, none⟩ = some (.bool false) := HQ1.out.cell 1
  have z2 : w1.cell? ⟨W.heap.size + 1, 2, none⟩ = some (.slice none 0 0) := HQ1.out.cell 2
  have zf0 := HQ1.out.frozen 0
  have zf1 := HQ1.out.frozen 1
  have zf2 := HQ1.out.frozen 2
  have p0 : w1.cell? ⟨W.heap.size, 0, none⟩ = some (.int .i64 (ps : Nat)) := HP1.out.cell 0
  have p1 : w1.cell? ⟨W.heap.size, 1, none⟩ = some (.bool br) := HP1.out.cell 1
  have p2 : w1.cell? ⟨W.heap.size, 2, none⟩ = some (.slice pa pl pc) := HP1.out.cell 2
  go_wp2_with fail
  refine bodyPost_ret (results_word (p := 4) (u := 5) rfl _ _ (W.heap.size + 1) _ rfl (HQ1.out.put3 _ _ _) rfl) rfl ?_
  exact ⟨rfl, HS1.out.put3 hlb hlsb (by omega) _ _ _⟩
set_option maxRecDepth 100000 in
set_option maxHeartbeats 2000000 in
theorem closed_no {W : World} {b sb k : Nat} {s : ByteArray} {ea : Nat → Addr} (h : Rd W b sb s k) (hE : Env W ea) (hb64 : (ea 64).block ≤ b) (hq : endQ endS s.data.toList[k]? = false) (ps : Nat) (br : Bool) (pa : Option Addr) (pl pc : Nat) :
    Calls Tryz.prog 67 #[.pointer (some ⟨b, 0, none⟩), .agg #[.int .i64 (ps : Nat), .bool br, .slice pa pl pc]] W fun e' w' => ∃ q, e' = .returned (.tuple #[.agg zW, .iface 119 (.pointer (some ⟨q, 0, none⟩))]) ∧ AtEr w' ea (.iface 119 (.pointer (some ⟨q, 0, none⟩))) ⟨3, k⟩ ∧ Stp W b sb s k w' := by
  have hlb := h.rd.lt
  have hlsb := h.src.lt
  obtain ⟨W0, hW0⟩ : ∃ W0, W0 = (W.alloc (.cells #[.int .i64 (ps : Nat), .bool br, .slice pa pl pc] 44)).alloc (.cells zW 44) := ⟨_, rfl⟩
  have HS0 : Hid (Stp W b sb s k W0) := by rw [hW0]; exact ((Stp.refl h).alloc _).alloc _
  have HQ0 : Hid (Cel W0 (W.heap.size + 1) 44 zW) := by rw [hW0]; exact Cel.new2 W _ _ _
  have HE0 : Hid (Env W0 ea) := by rw [hW0]; exact hE.below ((below_new W _).alloc (by simp) _)
  have HW0 : Hid ((W.alloc (.cells #[.int .i64 (ps : Nat), .bool br, .slice pa pl pc] 44)).alloc (.cells zW 44) = W0) := hW0.symm
  have HEA : Hid (Calls Tryz.prog 36 #[.pointer (some ⟨b, 0, none⟩), .string ⟨#[32, 9, 10, 59]⟩] W0 fun e w' => e = .returned (.bool false) ∧ ∃ m, w' = W0.drewN m) := by
    have := endsAt_any HS0.out.at_ endS
    rw [hq] at this
    exact this
  clear h hE hW0 hq
  go_enter Tryz.func67, Tryz.ntmps67
  go_wp2_with fail
  rw [HW0.out]
  refine Calls.mono HEA.out ?_
  rintro e' w1 ⟨rfl, m1, hw1⟩
  have HS1 : Hid (Stp W b sb s k w1) := by rw [hw1]; exact HS0.out.drewN m1
  have HQ1 : Hid (Cel w1 (W.heap.size + 1) 44 zW) := by rw [hw1]; exact HQ0.out
  have HE1 : Hid (Env w1 ea) := by rw [hw1]; exact HE0.out.drewN m1
  clear hw1 HS0 HQ0 HE0 HEA HW0
  have d1 := HS1.out.at_.c1
  have g0 := HE1.out.cell 3 (by omega)
  have HFA : Hid (∀ w, Stp W b sb s k w → Cel w (W.heap.size + 1) 44 zW → Env w ea → Calls Tryz.prog 65 #[.int .i64 (k : Nat), errV (ea 3)] w fun e w' => ∃ q, e = .returned (.iface 119 (.pointer (some ⟨q, 0, none⟩))) ∧ (w'.cell? ⟨b, 1, none⟩ = some (.int .i64 (k : Nat)) ∧ w'.cell? ⟨3, 0, none⟩ = some (errV (ea 3))) ∧ Hid (Stp W b sb s k w') ∧ Hid (Cel w' (W.heap.size + 1) 44 zW) ∧ Hid (AtEr w' ea (.iface 119 (.pointer (some ⟨q, 0, none⟩))) ⟨3, k⟩)) := fun w h1 h2 h3 => by
    refine (fails_any k (ea 3) w).mono ?_
    rintro e w' ⟨rfl, hq, hb⟩
    exact ⟨_, rfl, ⟨(h1.below hb).at_.c1, (h3.below hb).cell 3 (by omega)⟩, h1.below hb, h2.below hb h2.lt, ⟨_, rfl, hq⟩⟩
  have hnb : ¬ W.heap.size + 1 = b := by omega
  have hnb2 : ¬ b = W.heap.size + 1 := by omega
  have hng : ¬ 3 = W.heap.size + 1 := by have := HE1.out.glob; omega
  have hng2 : ¬ W.heap.size + 1 = 3 := by have := HE1.out.glob; omega
  have hng3 : ¬ W.heap.size = 3 - 1 := by have := HE1.out.glob; omega
  have hng4 : ¬ W.heap.size = 2 := by have := HE1.out.glob; omega
  have hng5 : ¬ 2 = W.heap.size := by have := HE1.out.glob; omega
  go_wp2_with fail
  go_region_held3 (fun w' => w'.cell? ⟨b, 1, none⟩ = some (.int .i64 (k : Nat)) ∧ w'.cell? ⟨3, 0, none⟩ = some (errV (ea 3))) (go_keep) (first | (go_at_call 65; refine Calls.mono (HFA.out _ HS1.out.drew HQ1.out (HE1.out.drewN 1)) ?_; rintro e' w2 ⟨q2, rfl, ⟨m0, m1⟩, HS2, HQ2, HX2⟩; have z0 : w2.cell? ⟨W.heap.size + 1, 0, none⟩ = some (.int .i64 0) := HQ2.out.cell 0; have z1 : w2.cell? ⟨W.heap.size + 1, 1, none⟩ = some (.bool false) := HQ2.out.cell 1; have z2 : w2.cell? ⟨W.heap.size + 1, 2, none⟩ = some (.slice none 0 0) := HQ2.out.cell 2; have zf0 := HQ2.out.frozen 0; have zf1 := HQ2.out.frozen 1; have zf2 := HQ2.out.frozen 2))
  obtain ⟨W3, hW3⟩ : ∃ W3, W3 = (((w2.setCell ⟨W.heap.size + 1, 0, none⟩ (.int .i64 0)).setCell ⟨W.heap.size + 1, 1, none⟩ (.bool false)).setCell ⟨W.heap.size + 1, 2, none⟩ (.slice none 0 0)) := ⟨_, rfl⟩
  have HQ3 : Hid (Cel W3 (W.heap.size + 1) 44 zW) := by rw [hW3]; exact HQ2.out.put3 (.int .i64 0) (.bool false) (.slice none 0 0)
  have HS3 : Hid (Stp W b sb s k W3) := by rw [hW3]; exact HS2.out.put3 hlb hlsb (by omega) (.int .i64 0) (.bool false) (.slice none 0 0)
  have HX3 : Hid (AtEr W3 ea (.iface 119 (.pointer (some ⟨q2, 0, none⟩))) ⟨3, k⟩) := by rw [hW3]; exact HX2.out.putW HQ2.out (.int .i64 0) (.bool false) (.slice none 0 0)
  rw [← hW3]
  clear hW3 HS1 HQ1 HE1 HS2 HQ2 HX2 HFA m0 m1 z0 z1 z2 zf0 zf1 zf2
  go_wp2_with fail
  refine bodyPost_ret (results_word (p := 4) (u := 5) rfl _ _ (W.heap.size + 1) _ rfl HQ3.out rfl) rfl ?_
  exact ⟨q2, rfl, HX3.out, HS3.out⟩
/-- A bare word. -/
def bareR (N k : Nat) (l : List UInt8) : Except Er (Wd × List UInt8) := match partsL N endS l.length l with
  | .error x => .error x
  | .ok (ps, u) => .ok (⟨k, false, ps⟩, u)
set_option maxRecDepth 100000 in
set_option maxHeartbeats 2000000 in
theorem bare_any {W : World} {b sb k : Nat} {s : ByteArray} {ea : Nat → Addr} (h : Rd W b sb s k) (hE : Env W ea) (hs : s.size ≤ 8192) (hk : k ≤ s.size) (hb64 : (ea 64).block ≤ b) :
    Calls Tryz.prog 52 #[.pointer (some ⟨b, 0, none⟩)] W fun e' w' => ∃ v ev, e' = .returned (.tuple #[.agg v, ev]) ∧ WordV W b sb s ea (bareR s.size k (s.data.toList.drop k)) v ev w' := by
  have hlb := h.rd.lt
  have hlsb := h.src.lt
  obtain ⟨W0, hW0⟩ : ∃ W0, W0 = W.alloc (.cells zW 44) := ⟨_, rfl⟩
  have HS0 : Hid (Stp W b sb s k W0) := by rw [hW0]; exact (Stp.refl h).alloc _
  have HQ0 : Hid (Cel W0 W.heap.size 44 zW) := by rw [hW0]; exact Cel.new W _ _
  have HE0 : Hid (Env W0 ea) := by rw [hW0]; exact hE.below (below_new W _)
  have hz0 : W0.heap.size = W.heap.size + 1 := by rw [hW0]; simp
  have HW0 : Hid (W.alloc (.cells zW 44) = W0) := hW0.symm
  have cW := h.c1
  have c1 := HS0.out.at_.c1
  have HPA : Hid (Calls Tryz.prog 68 #[.pointer (some ⟨b, 0, none⟩), .string ⟨#[32, 9, 10, 59]⟩] W0 fun e' w' => ∃ v ev, e' = .returned (.tuple #[v, ev]) ∧ PartsV W0 b sb s ea (partsL s.size endS (s.data.toList.drop k).length (s.data.toList.drop k)) v ev w') := parts_any endS HS0.out.at_ HE0.out hs hk (by rw [len_drop]; omega) hb64
  have hnb : ¬ W.heap.size = b := by omega
  unfold bareR
  clear h hE hW0
  generalize partsL s.size endS (s.data.toList.drop k).length (s.data.toList.drop k) = R at HPA ⊢
  go_enter Tryz.func52, Tryz.ntmps52
  go_wp2_with fail
  rw [HW0.out]
  refine Calls.mono HPA.out ?_
  rintro e' w2 ⟨v, ev, rfl, hv⟩
  cases R with
  | error x =>
    obtain ⟨rfl, ⟨q, rfl, hq⟩, j, hst⟩ := hv
    have HS2 : Hid (Stp W b sb s j w2) := HS0.out.trans hst
    have HQ2 : Hid (Cel w2 W.heap.size 44 zW) := HQ0.out.turn hst.turn (by omega)
    have HX2 : Hid (AtEr w2 ea (.iface 119 (.pointer (some ⟨q, 0, none⟩))) x) := ⟨q, rfl, hq⟩
    clear hq hst HS0 HQ0 HE0 HPA HW0 cW c1
    have z0 : w2.cell? ⟨W.heap.size, 0, none⟩ = some (.int .i64 0) := HQ2.out.cell 0
    have z1 : w2.cell? ⟨W.heap.size, 1, none⟩ = some (.bool false) := HQ2.out.cell 1
    have z2 : w2.cell? ⟨W.heap.size, 2, none⟩ = some (.slice none 0 0) := HQ2.out.cell 2
    have zf0 := HQ2.out.frozen 0
    have zf1 := HQ2.out.frozen 1
    have zf2 := HQ2.out.frozen 2
    go_wp2_with fail
    refine bodyPost_ret (results_word (p := 2) (u := 3) rfl _ _ W.heap.size _ rfl (HQ2.out.put3 _ _ _) rfl) rfl ?_
    exact ⟨_, _, rfl, rfl, HX2.out.putW HQ2.out _ _ _, j, HS2.out.put3 hlb hlsb (Nat.le_refl _) _ _ _⟩
  | ok r =>
    obtain ⟨ps, u⟩ := r
    obtain ⟨rfl, ho, j, hst, hj1, hj2⟩ := hv
    obtain ⟨pa, pc, rfl⟩ := ho.form
    have HS2 : Hid (Stp W b sb s j w2) := HS0.out.trans hst
    have HQ2 : Hid (Cel w2 W.heap.size 44 zW) := HQ0.out.turn hst.turn (by omega)
    have HO2 : Hid (PtOwn w2 W0.heap.size (.slice pa ps.length pc) ps) := ho
    have HJ : Hid (u = s.data.toList.drop j) := hj2
    clear ho hst hj2 HS0 HQ0 HE0 HPA HW0 cW c1
    have z0 : w2.cell? ⟨W.heap.size, 0, none⟩ = some (.int .i64 0) := HQ2.out.cell 0
    have z1 : w2.cell? ⟨W.heap.size, 1, none⟩ = some (.bool false) := HQ2.out.cell 1
    have z2 : w2.cell? ⟨W.heap.size, 2, none⟩ = some (.slice none 0 0) := HQ2.out.cell 2
    have zf0 := HQ2.out.frozen 0
    have zf1 := HQ2.out.frozen 1
    have zf2 := HQ2.out.frozen 2
    go_wp2_with fail
    refine bodyPost_ret (results_word (p := 2) (u := 3) rfl _ _ W.heap.size _ rfl (HQ2.out.put3 _ _ _) rfl) rfl ?_
    exact ⟨_, _, rfl, rfl, ⟨_, rfl, (HO2.out.turn (Turn.putW _ _ _ _ _) (fun i e => by omega)).lower (by omega)⟩, j, HS2.out.put3 hlb hlsb (Nat.le_refl _) _ _ _, hj1, HJ.out⟩
end Go.Proofs.YtlihkblllakhmaaGreatDoor

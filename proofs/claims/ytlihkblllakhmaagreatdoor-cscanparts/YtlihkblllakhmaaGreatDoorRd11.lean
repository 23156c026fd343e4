/- Parts in memory; the parts up to what ends them. -/
import Derived.Test.YtlihkblllakhmaaGreatDoorRd10
import Derived.Laws.OwnMore
namespace Go.Proofs.YtlihkblllakhmaaGreatDoor
open Go.RowKit
attribute [local go_sem] Oper.semAt_some

/-! ### parts -/
def ptCs (X : List Pt) : List Value := X.flatMap ptC
theorem ptCs_append (X Y : List Pt) : ptCs (X ++ Y) = ptCs X ++ ptCs Y := by simp [ptCs]
theorem ptCs_one (p : Pt) : ptCs [p] = ptC p := by simp [ptCs]
theorem ptCs_length (X : List Pt) : (ptCs X).length = X.length * 4 := by
  induction X with
  | nil => rfl
  | cons x X ih => simp [ptCs] at ih ⊢; omega
/-- Parts of one's own. -/
def PtOwn (W : World) (B : Nat) (v : Value) (X : List Pt) : Prop := W.ownsRow B 59 4 v X.length (ptCs X)
theorem PtOwn.nil (W : World) (B : Nat) : PtOwn W B (.slice none 0 0) [] := World.ownsRow_nil W B _ _
theorem PtOwn.turn {W W' : World} {B : Nat} {v : Value} {X : List Pt} {S : Nat → Prop} (h : PtOwn W B v X) (hT : Turn S W W') (hS : ∀ i, S i → i < B) : PtOwn W' B v X := by
  refine owns_turn h hT fun g hg hs => ?_
  have := (World.ownsRow.lt h g hg).1
  have := hS g hs
  omega
theorem PtOwn.below {W W' : World} {B : Nat} {v : Value} {X : List Pt} (h : PtOwn W B v X) (hb : Below W.heap.size W W') : PtOwn W' B v X := h.turn (Turn.ofBelow (S := fun _ => False) hb) (fun _ e => e.elim)
theorem PtOwn.lower {W : World} {B B' : Nat} {v : Value} {X : List Pt} (h : PtOwn W B v X) (hB : B' ≤ B) : PtOwn W B' v X := owns_lower h hB
theorem PtOwn.form {W : World} {B : Nat} {v : Value} {X : List Pt} (h : PtOwn W B v X) : ∃ ad cap, v = .slice ad X.length cap := owns_slice h
/-- One part, laid anew. -/
theorem PtOwn.one (W : World) (B : Nat) (p : Pt) (hB : B ≤ W.heap.size) : PtOwn (W.alloc (.cells (ptC p).toArray 59)) B (.slice (some ⟨W.heap.size, 0, none⟩) 1 1) [p] := by
  have := World.ownsRow_lit (base := B) (e := 59) (size := 4) W (ptC p).toArray 1 hB (by decide) rfl
  unfold PtOwn
  rw [ptCs_one]
  exact this
theorem cells_new2 (w : World) (o : Obj) (cs : List Value) (t : TypeId) : ∀ j u, cs[j]? = some u → ((w.alloc o).alloc (.cells cs.toArray t)).cell? ((⟨w.heap.size + 1, 0, none⟩ : Addr).add j) = some u := by
  have := cells_new (w.alloc o) cs t
  rw [show (w.alloc o).heap.size = w.heap.size + 1 by simp] at this
  exact this
theorem infoP : (Tryz.prog.info? 59).map (fun i => (i.zero, i.size, i.bytes)) = some (some (.agg zC), 4, 40) := by kernel_rfl
/-- Parts, or an error; where the reader stands behind them. -/
def PartsV (W : World) (b sb : Nat) (s : ByteArray) (ea : Nat → Addr) (R : Except Er (List Pt × List UInt8)) (v ev : Value) (w' : World) : Prop := match R with
  | .ok q => ev = .nilIface ∧ PtOwn w' W.heap.size v q.1 ∧ ∃ j, Stp W b sb s j w' ∧ j ≤ s.size ∧ q.2 = s.data.toList.drop j
  | .error x => v = .slice none 0 0 ∧ AtEr w' ea ev x ∧ ∃ j, Stp W b sb s j w'
/-- Parts ahead of others. -/
def preR (acc : List Pt) (R : Except Er (List Pt × List UInt8)) : Except Er (List Pt × List UInt8) := match R with
  | .error e => .error e
  | .ok q => .ok (acc ++ q.1, q.2)
theorem preR_pre (a b : List Pt) (R : Except Er (List Pt × List UInt8)) : preR a (preR b R) = preR (a ++ b) R := by
  cases R with
  | error e => rfl
  | ok q => simp [preR]
theorem preR_nil (R : Except Er (List Pt × List UInt8)) : preR [] R = R := by cases R <;> rfl
theorem parts_nil (N : Nat) (e : List UInt8) (f : Nat) : partsL N e f [] = .ok ([], []) := by cases f <;> rfl
theorem parts_stop (N : Nat) (e : List UInt8) (f : Nat) (c : UInt8) (t : List UInt8) (h : e.contains c = true) : partsL N e f (c :: t) = .ok ([], c :: t) := by
  cases f with
  | zero => rfl
  | succ f => rw [partsL, if_pos h]
theorem parts_err (N : Nat) (e : List UInt8) (f : Nat) (c : UInt8) (t : List UInt8) (h : e.contains c = false) (x : Er) (hp : partL N e (c :: t) = .error x) : partsL N e (f + 1) (c :: t) = .error x := by
  rw [partsL, if_neg (by rw [h]; simp), hp]
theorem parts_ok (N : Nat) (e : List UInt8) (f : Nat) (c : UInt8) (t : List UInt8) (h : e.contains c = false) (p : Pt) (u : List UInt8) (hp : partL N e (c :: t) = .ok (p, u)) : partsL N e (f + 1) (c :: t) = preR [p] (partsL N e f u) := by
  rw [partsL, if_neg (by rw [h]; simp), hp]
  simp only
  cases partsL N e f u <;> rfl
theorem dollar_lt {N : Nat} {l : List UInt8} {p : Pt} {u : List UInt8} (h : dollar N l = .ok (p, u)) : u.length < l.length := by
  match l, h with
  | [], h => cases h
  | [_], h => cases h
  | a :: c :: t, h =>
    rw [dollar] at h
    split at h
    · cases h; simp; omega
    · split at h
      · cases h; simp; omega
      · split at h
        · cases h
        · cases h
          rw [List.length_drop]
          simp only [List.length_cons]
          omega
theorem partL_lt {N : Nat} {e : List UInt8} {c : UInt8} {t : List UInt8} {p : Pt} {u : List UInt8} (he : e.contains c = false) (h : partL N e (c :: t) = .ok (p, u)) : u.length < (c :: t).length := by
  unfold partL at h
  by_cases h91 : c = 91
  · subst h91
    rw [if_pos (show (91 :: t).head? = some 91 from rfl)] at h
    cases hp : passK 0 0 t with
    | none =>
      rw [show (91 :: t).tail = t from rfl, hp] at h
      cases h
    | some w =>
      rw [show (91 :: t).tail = t from rfl, hp] at h
      obtain ⟨_, rfl⟩ := Prod.mk.inj (Except.ok.inj h)
      have := passK_lt _ _ _ _ _ (Nat.le_refl _) hp
      rw [List.length_cons]
      omega
  · rw [if_neg (by simpa using h91)] at h
    cases hd : dolB (c :: t) with
    | true =>
      rw [hd, if_pos rfl] at h
      exact dollar_lt h
    | false =>
      rw [hd, if_neg (by simp)] at h
      obtain ⟨_, rfl⟩ := Prod.mk.inj (Except.ok.inj h)
      refine plain_lt e _ _ ?_
      show (e.contains c || c == 91 || dolB (c :: t)) = false
      rw [he, hd]
      simpa using h91
set_option maxRecDepth 100000 in
set_option maxHeartbeats 8000000 in
theorem parts_any {W : World} {b sb k f : Nat} {s : ByteArray} {ea : Nat → Addr} (e : List UInt8) (h : Rd W b sb s k) (hE : Env W ea) (hs : s.size ≤ 8192) (hk : k ≤ s.size) (hf : s.size - k ≤ f) (hb64 : (ea 64).block ≤ b) :
    Calls Tryz.prog 68 #[.pointer (some ⟨b, 0, none⟩), .string ⟨e.toArray⟩] W fun e' w' => ∃ v ev, e' = .returned (.tuple #[v, ev]) ∧ PartsV W b sb s ea (partsL s.size e f (s.data.toList.drop k)) v ev w' := by
  obtain ⟨i0, hi, hz0, hz1, hz2⟩ := info_parts infoP
  have hlb := h.rd.lt
  have hlsb := h.src.lt
  have HR0 : Hid (Rd W b sb s k) := h
  have HE0 : Hid (Env W ea) := hE
  have HEV : Hid (∀ w j, Stp W b sb s j w → Env w ea) := fun w j hw => hE.stp hw hb64
  obtain ⟨R, HR⟩ : ∃ R, Hid (partsL s.size e f (s.data.toList.drop k) = R) := ⟨_, rfl⟩
  rw [HR.out]
  clear h hE
  go_enter Tryz.func68, Tryz.ntmps68
  go_wp2_with fail
  go_loopw [4, 5, 6] (fun v4 v5 v6 wr => ∃ (p g : Nat) (acc : List Pt) (a6 : Option Addr) (c6 : Nat), v4 = .slice none 0 0 ∧ v5 = .nilIface ∧ v6 = .slice a6 acc.length c6 ∧ k ≤ p ∧ p ≤ s.size ∧ s.size - p ≤ g ∧ acc.length ≤ p ∧ Hid (R = preR acc (partsL s.size e g (s.data.toList.drop p))) ∧ Hid (Stp W b sb s p wr) ∧ Hid (PtOwn wr W.heap.size (.slice a6 acc.length c6) acc)) (fun _ _ _ wr => s.size + 2 - posOf wr b)
  case atStart => exact ⟨k, f, [], none, 0, rfl, rfl, rfl, Nat.le_refl _, hk, hf, by simp, by unfold Hid; rw [← HR.out, preR_nil], Stp.refl HR0.out, PtOwn.nil _ _⟩
  case round =>
    obtain ⟨p, g, acc, a6, c6, rfl, rfl, rfl, hkp, hp, hg, hacc, HE, HS, HO⟩ := hrel
    clear HR0 HE0 HR
    have HPO : Hid (posOf wr b = p) := HS.out.at_.pos
    have HEA : Hid _ := endsAt_any HS.out.at_ e
    cases hq : endQ e s.data.toList[p]? with
    | true =>
      rw [hq] at HEA
      have HEQ : Hid (R = .ok (acc, s.data.toList.drop p)) := by
        unfold Hid
        rw [HE.out]
        by_cases hlt : p < s.size
        · rw [text_at s p hlt] at hq
          rw [drop_cons s p hlt, parts_stop _ _ _ _ _ hq]
          simp [preR]
        · rw [drop_none s p hlt, parts_nil]
          simp [preR]
      clear HE hq HPO
      go_wp2_with fail
      refine Calls.mono HEA.out ?_
      rintro e' w1 ⟨rfl, m1, hw1⟩
      have HS1 : Hid (Stp W b sb s p w1) := by rw [hw1]; exact HS.out.drewN m1
      have HO1 : Hid (PtOwn w1 W.heap.size (.slice a6 acc.length c6) acc) := by rw [hw1]; exact HO.out.below ⟨rfl, rfl, rfl, Nat.le_refl _, fun _ _ => rfl⟩
      clear hw1 HS HO HEA
      go_wp2_with fail
      go_ret2
      refine ⟨_, _, rfl, ?_⟩
      rw [HEQ.out]
      exact ⟨rfl, HO1.out, p, HS1.out, hp, rfl⟩
    | false =>
      rw [hq] at HEA
      have hlt : p < s.size := by
        by_cases h : p < s.size
        · exact h
        · rw [at_none s p h] at hq
          cases hq
      rw [text_at s p hlt] at hq
      have hec : e.contains s[p] = false := hq
      obtain ⟨g', rfl⟩ : ∃ g', g = g' + 1 := ⟨g - 1, by omega⟩
      have HPA : Hid (∀ w, Stp W b sb s p w → Env w ea → Calls Tryz.prog 82 #[.pointer (some ⟨b, 0, none⟩), .string ⟨e.toArray⟩] w fun e' w' => ∃ q ev, e' = .returned (.tuple #[.agg (ptC q).toArray, ev]) ∧ PartV w b sb s ea (partL s.size e (s.data.toList.drop p)) q ev w') := fun w hw he => part_any e hw.at_ he (by omega) hlt hb64
      have HC : Hid _ := drop_cons s p hlt
      clear hq
      cases hpl : partL s.size e (s.data.toList.drop p) with
      | error x =>
        have HEQ : Hid (R = .error x) := by
          unfold Hid
          rw [HE.out, HC.out]
          rw [HC.out] at hpl
          rw [parts_err _ _ _ _ _ hec x hpl]
          rfl
        rw [hpl] at HPA
        clear HE hpl HC hec HPO
        go_wp2_with fail
        refine Calls.mono HEA.out ?_
        rintro e' w1 ⟨rfl, m1, hw1⟩
        have HS1 : Hid (Stp W b sb s p w1) := by rw [hw1]; exact HS.out.drewN m1
        have HE1 : Hid (Env w1 ea) := HEV.out _ _ HS1.out
        clear hw1 HS HO HEA
        go_wp2_with fail
        refine Calls.mono (HPA.out _ HS1.out HE1.out) ?_
        rintro e' w2 ⟨q, ev, rfl, ⟨qe, rfl, hqe⟩, j, hst⟩
        have HS2 : Hid (Stp W b sb s j w2) := HS1.out.trans hst
        have HX2 : Hid (AtEr w2 ea (.iface 119 (.pointer (some ⟨qe, 0, none⟩))) x) := ⟨qe, rfl, hqe⟩
        obtain ⟨qk, qp, qn, qs⟩ := q
        clear hqe hst HS1 HE1 HPA
        go_wp2_with fail
        go_ret2
        refine ⟨_, _, rfl, ?_⟩
        rw [HEQ.out]
        exact ⟨rfl, HX2.out.below (below_new _ _), j, HS2.out.alloc _⟩
      | ok r =>
        obtain ⟨q0, u⟩ := r
        have hul : u.length < s.size - p := by
          have := hpl
          rw [HC.out] at this
          have h9 := partL_lt hec this
          rw [← HC.out, len_drop] at h9
          exact h9
        have HEQ : Hid (R = preR (acc ++ [q0]) (partsL s.size e g' u)) := by
          unfold Hid
          rw [HE.out, HC.out]
          rw [HC.out] at hpl
          rw [parts_ok _ _ _ _ _ hec q0 u hpl, preR_pre]
        rw [hpl] at HPA
        clear HE hpl HC hec
        go_wp2_with fail
        refine Calls.mono HEA.out ?_
        rintro e' w1 ⟨rfl, m1, hw1⟩
        have HS1 : Hid (Stp W b sb s p w1) := by rw [hw1]; exact HS.out.drewN m1
        have HE1 : Hid (Env w1 ea) := HEV.out _ _ HS1.out
        have HO1 : Hid (PtOwn w1 W.heap.size (.slice a6 acc.length c6) acc) := by rw [hw1]; exact HO.out.below ⟨rfl, rfl, rfl, Nat.le_refl _, fun _ _ => rfl⟩
        clear hw1 HS HO HEA
        go_wp2_with fail
        refine Calls.mono (HPA.out _ HS1.out HE1.out) ?_
        rintro e' w2 ⟨q, ev, rfl, rfl, rfl, j, hst, hj1, hj2⟩
        have HS2 : Hid (Stp W b sb s j w2) := HS1.out.trans hst
        have HO2 : Hid (w2.ownsRow W.heap.size 59 4 (.slice a6 acc.length c6) acc.length (ptCs acc)) := HO1.out.turn hst.turn (fun i ei => by omega)
        have HU : Hid (u = s.data.toList.drop j) := hj2
        have hpj : p < j := by
          have h9 : (s.data.toList.drop j).length < s.size - p := by rw [← HU.out]; exact hul
          rw [len_drop] at h9
          omega
        have hz2' : W.heap.size ≤ w2.heap.size := HS2.out.turn.size
        clear hst hj2 HS1 HE1 HO1 HPA hul
        obtain ⟨qk, qp, qn, qs⟩ := q
        go_wp2_with (at_builtin; refine wpList_append_own_at _ rfl _ _ 42 rfl W.heap.size 59 i0 _ 4 40 Tryz.underlying42 hi hz0 hz1 hz2 rfl (by decide) _ _ _ rfl (World.ownsRow.alloc (World.ownsRow.alloc HO2.out _) _) ⟨w2.heap.size + 1, 0, none⟩ 1 1 (ptC (⟨qk, qp, qn, qs⟩ : Pt)) rfl rfl (cells_new2 _ _ _ _) (by simp [Value.oneCell']) (by have := maxLen_big; omega) (by omega) (by simp; omega) ?_; intro v6 w6 hown hgrow _ _)
        have hbel : Below W.heap.size w2 w6 := grown_own (by simp; omega) (((Below.refl _ w2).alloc hz2' _).alloc (by simp; omega) _) (World.ownsRow.alloc (World.ownsRow.alloc HO2.out _) _) hgrow
        have HS6 : Hid (Stp W b sb s j w6) := HS2.out.under hlb hlsb hbel
        obtain ⟨a7, c7, rfl⟩ := owns_slice hown
        have HO6 : Hid (PtOwn w6 W.heap.size (.slice a7 (acc ++ [(⟨qk, qp, qn, qs⟩ : Pt)]).length c7) (acc ++ [⟨qk, qp, qn, qs⟩])) := by
          unfold Hid PtOwn
          rw [ptCs_append, ptCs_one, List.length_append]
          exact hown
        have HLN : Hid ((acc ++ [(⟨qk, qp, qn, qs⟩ : Pt)]).length = acc.length + 1) := by unfold Hid; simp
        clear hown hgrow hbel HS2 HO2
        go_wp2_with fail
        refine ⟨⟨j, g', acc ++ [(⟨qk, qp, qn, qs⟩ : Pt)], a7, c7, rfl, rfl, by rw [HLN.out], by omega, hj1, by omega, by rw [HLN.out]; omega, by rw [← HU.out]; exact HEQ.out, HS6.out, HO6.out⟩, ?_⟩
        rw [HS6.out.at_.pos, HPO.out]
        omega
end Go.Proofs.YtlihkblllakhmaaGreatDoor

/- The children of a node, as pieces of it. -/
import Derived.Test.YtfafhjglcaikoaaGreatDoorH14
import Derived.BigQuiet
import Derived.Deep.RegionHeld3
/-! Steps, and what is said. -/
namespace Go.Proofs.YtfafhjglcaikoaaGreatDoor
open Go.RowKit
attribute [local go_sem] Oper.semAt_some

variable {W W' : World} {K : Nat → Prop} {rb cb sb kb : Nat} {s : Sh} {ea : Nat → Addr}
theorem Rn.drewN (h : Rn W K rb cb sb kb s) (n : Nat) : Rn (W.drewN n) K rb cb sb kb s := h.below (below_drewN W n)
theorem stp_drewN (K : Nat → Prop) (W : World) (n : Nat) : Stp W K (W.drewN n) K := Stp.ofBelow (below_drewN W n)
theorem begins_any (k : Int) (W : World) : Calls Tryz.prog 64 #[.int .i64 k] W fun e w' => e = .returned (.bool (stepsB k)) ∧ w' = W := by
  unfold stepsB
  go_enter Tryz.func64, Tryz.ntmps64
  by_cases h0 : k = 20
  · subst h0; go_wp2_with fail; go_ret; exact ⟨rfl, rfl⟩
  by_cases h1 : k = 23
  · subst h1; go_wp2_with fail; go_ret; exact ⟨rfl, rfl⟩
  by_cases h2 : k = 24
  · subst h2; go_wp2_with fail; go_ret; exact ⟨rfl, rfl⟩
  by_cases h3 : k = 25
  · subst h3; go_wp2_with fail; go_ret; exact ⟨rfl, rfl⟩
  by_cases h4 : k = 26
  · subst h4; go_wp2_with fail; go_ret; exact ⟨rfl, rfl⟩
  by_cases h5 : k = 27
  · subst h5; go_wp2_with fail; go_ret; exact ⟨rfl, rfl⟩
  by_cases h6 : k = 28
  · subst h6; go_wp2_with fail; go_ret; exact ⟨rfl, rfl⟩
  by_cases h7 : k = 29
  · subst h7; go_wp2_with fail; go_ret; exact ⟨rfl, rfl⟩
  go_wp2_with fail
  go_ret
  exact ⟨by simp [h0, h1, h2, h3, h4, h5, h6, h7], rfl⟩
theorem step_any (h : Rn W K rb cb sb kb s) (hE : Ers W ea) (hs : s.st ≤ 1000000) :
    Calls Tryz.prog 65 #[rP rb] W fun e w' => e = .returned (xrV ea (stepP s).2) ∧ Rn w' K rb cb sb kb (stepP s).1 ∧ Stp W K w' K := by
  have c3 : W.cell? ⟨rb, 3, none⟩ = some (.int .i64 (s.st : Nat)) := h.rc.cell 3
  have c4 : W.cell? ⟨rb, 4, none⟩ = some (.int .i64 (s.ms : Nat)) := h.rc.cell 4
  have f3 := h.rc.frozen 3
  have c2 := (hE 2 (by omega)).1
  by_cases hq : s.st = s.ms
  · have e1 : stepP s = (s, .fuel) := by simp [stepP, hq]
    rw [e1]
    have hq' : ((s.st : Int) == (s.ms : Int)) = true := by simp [hq]
    have HR : Hid (∀ n, Rn (W.drewN n) K rb cb sb kb s ∧ Stp W K (W.drewN n) K) := fun n => ⟨h.drewN n, stp_drewN K W n⟩
    clear h hE e1 hq
    go_enter Tryz.func65, Tryz.ntmps65
    go_wp2_with fail
    go_quiet (fail)
    go_wp2_with fail
    go_ret
    exact ⟨rfl, HR.out _⟩
  · have e1 : stepP s = ({ s with st := s.st + 1 }, .ok) := by simp [stepP, hq]
    rw [e1]
    have hq' : ((s.st : Int) == (s.ms : Int)) = false := by simp; omega
    have HR : Hid (∀ n, Rn ((W.drewN n).setCell ⟨rb, 3, none⟩ (.int .i64 ((s.st : Int) + 1))) K rb cb sb kb { s with st := s.st + 1 } ∧ Stp W K ((W.drewN n).setCell ⟨rb, 3, none⟩ (.int .i64 ((s.st : Int) + 1))) K) := fun n => by
      obtain ⟨h1, h2⟩ := (h.drewN n).set 3 (.int .i64 ((s.st : Int) + 1)) { s with st := s.st + 1 } (by simp [rnC]) rfl rfl rfl rfl rfl rfl
      exact ⟨h1, (stp_drewN K W n).trans h2⟩
    clear h hE e1 hq
    go_enter Tryz.func65, Tryz.ntmps65
    go_wp2_with fail
    go_quiet (fail)
    go_wp2_with fail
    go_ret
    exact ⟨rfl, HR.out _⟩
/-- Nothing in it is too great. -/
structure Okk (s : Sh) : Prop where
  F : s.F.length < 100000
  H : s.H.length < 100000
  D : s.D.length < 100000
  R : s.R.length < 100000
  E : s.E.length < 1000000
  Dn : ∀ p ∈ s.D, p.1.length < 100000 ∧ p.2.length < 100000
  Rn : ∀ r ∈ s.R, r.args.length < 100000 ∧ r.out.length < 100000
  hd : s.hd.length < 100000
  fl : s.fl.length < 100000
  st : s.st ≤ 1000000
  ms : s.ms ≤ 1000000
  dp : s.dp ≤ 1000000
  md : s.md ≤ 1000000
  ct : ∀ t, s.ct = some t → t.length ≤ 2000
theorem okk (h : okB s = true) : Okk s := by
  simp only [okB, Bool.and_eq_true, decide_eq_true_eq, List.all_eq_true] at h
  obtain ⟨⟨⟨⟨⟨⟨⟨⟨⟨⟨⟨⟨⟨a1, a2⟩, a3⟩, a4⟩, a5⟩, a6⟩, a7⟩, a8⟩, a9⟩, b1⟩, b2⟩, b3⟩, b4⟩, b5⟩ := h
  exact ⟨a1, a2, a3, a4, a5, a6, a7, a8, a9, b1, b2, b3, b4, fun t ht => by rw [ht] at b5; simpa using b5⟩
theorem datF_small (h : Okk s) (f : Txt) : (datF s.D f).length < 4294967296 := by
  unfold datF
  cases hf : s.D.find? (fun p => p.1 == f) with
  | none => exact Nat.zero_lt_succ _
  | some p => have := (h.Dn p (List.mem_of_find?_eq_some hf)).2; show p.2.length < _; omega
/-- What is asked where it writes. -/
structure Okw (s : Sh) : Prop where
  D : s.D.length < 4294967296
  E : s.E.length < 4294967296
  dat : ∀ f, (datF s.D f).length < 4294967296
  fl : s.fl.length < 4294967296
  ct : ∀ t, s.ct = some t → t.length ≤ 2000
theorem Okk.w (h : Okk s) : Okw s := ⟨by have := h.D; omega, by have := h.E; omega, datF_small h, by have := h.fl; omega, h.ct⟩
theorem write_rn (d : Txt) (hE : Ers W ea) (h : Rn W K rb cb sb kb s) (hk : Okw s) (hd : d.length < 4294967296) :
    Calls Tryz.prog 207 #[kP kb, str s.fl, str d] W fun e w' => e = .returned (errR (writeB s.D s.fl d) (ea 1)) ∧ ∃ K', Rn w' K' rb cb sb kb { s with D := writeF s.D s.fl d, E := s.E ++ writeE s.D s.fl d } ∧ Stp W K w' K' := by
  refine h.onKern (P := fun e => e = .returned (errR (writeB s.D s.fl d) (ea 1))) fun KK mb ev rv Y X k1 k2 k3 => ?_
  have hl : X.length = s.E.length := by rw [← k3, List.length_map]
  have := hk.E
  have := hk.D
  have := hk.fl
  exact write_any s.fl d (ea 1) k1 (by omega) (by omega) (by omega) hd (hk.dat _) (hE 1 (by omega))
theorem say_any (d : Txt) (hE : Ers W ea) (h : Rn W K rb cb sb kb s) (hk : Okw s) (hd : d.length < 4294967296) :
    Calls Tryz.prog 159 #[rP rb, str d] W fun e w' => e = .returned (xrV ea (sayP s d).2) ∧ ∃ K', Rn w' K' rb cb sb kb (sayP s d).1 ∧ Stp W K w' K' := by
  have hdl : (⟨d.toArray⟩ : ByteArray).size = d.length := by show d.toArray.size = _; simp
  have c1 : W.cell? ⟨rb, 1, none⟩ = some (kP kb) := h.rc.cell 1
  have c9 : W.cell? ⟨rb, 9, none⟩ = some (str s.fl) := h.rc.cell 9
  cases hc : s.ct with
  | none =>
    have c8 : W.cell? ⟨rb, 8, none⟩ = some (.pointer none) := (h.rc.cell 8).trans (by simp [rnC, hc, ctP])
    have e1 : sayP s d = ({ s with D := writeF s.D s.fl d, E := s.E ++ writeE s.D s.fl d }, if writeB s.D s.fl d then .ok else .big) := by simp [sayP, hc]
    rw [e1]
    have HW : Hid (Calls Tryz.prog 207 #[kP kb, str s.fl, str d] W.drew fun e w' => e = .returned (errR (writeB s.D s.fl d) (ea 1)) ∧ (w'.cell? ⟨rb, 1, none⟩ = some (kP kb) ∧ w'.cell? ⟨rb, 9, none⟩ = some (str s.fl)) ∧ ∃ K', Rn w' K' rb cb sb kb { s with D := writeF s.D s.fl d, E := s.E ++ writeE s.D s.fl d } ∧ Stp W K w' K') := by
      refine Calls.mono (write_rn (ea := ea) d (fun i hi => (hE i hi).below (Below.refl _ W).drew (hE i hi).2) (h.below (Below.refl _ W).drew) hk hd) ?_
      rintro e w' ⟨h1, K', h2, h3⟩
      exact ⟨h1, ⟨h2.rc.cell 1, h2.rc.cell 9⟩, K', h2, (Stp.ofBelow (Below.refl _ W).drew).trans h3⟩
    have HX : Hid (errR (writeB s.D s.fl d) (ea 1) = xrV ea (if writeB s.D s.fl d then .ok else .big)) := by unfold Hid errR; split <;> rfl
    obtain ⟨B, hB⟩ : ∃ B, errR (writeB s.D s.fl d) (ea 1) = B := ⟨_, rfl⟩
    rw [hB] at HW HX
    obtain ⟨x, hx⟩ : ∃ x, (if writeB s.D s.fl d then Xr.ok else .big) = x := ⟨_, rfl⟩
    simp only [hx] at HX ⊢
    clear h hE hk e1 hB hc hx
    go_enter Tryz.func159, Tryz.ntmps159
    go_wp2_with fail
    go_region_held3 (fun w' => w'.cell? ⟨rb, 1, none⟩ = some (kP kb) ∧ w'.cell? ⟨rb, 9, none⟩ = some (str s.fl)) (go_keep) (first | (go_at_call 207; refine Calls.mono HW.out ?_; rintro e w1 ⟨rfl, ⟨d1, d9⟩, K1, HR, HS⟩))
    go_wp2_with fail
    go_ret
    exact ⟨congrArg Ending.returned HX.out, K1, HR, HS⟩
  | some t =>
    have c8 : W.cell? ⟨rb, 8, none⟩ = some (.pointer (some ⟨cb, 0, none⟩)) := (h.rc.cell 8).trans (by simp [rnC, hc, ctP])
    have hcb : W.cell? ⟨cb, 0, none⟩ = some (str t) := (h.cc t hc).cell 0
    have hfz := (h.cc t hc).frozen 0
    have htl : (⟨t.toArray⟩ : ByteArray).size = t.length := by show t.toArray.size = _; simp
    have htb := hk.ct t hc
    have c0 := (hE 1 (by omega)).1
    by_cases hb : (2000 : Int) - t.length < d.length
    · have e1 : sayP s d = (s, .big) := by simp [sayP, hc, hb]
      rw [e1]
      have hb' : decide ((2000 : Int) - (t.length : Nat) < (d.length : Nat)) = true := by simpa using hb
      have HR : Hid (Rn W K rb cb sb kb s ∧ Stp W K W K) := ⟨h, Stp.refl W K⟩
      clear h hE hk e1 hb hc
      go_enter Tryz.func159, Tryz.ntmps159
      go_wp2_with fail
      go_ret
      exact ⟨rfl, K, HR.out⟩
    · have e1 : sayP s d = ({ s with ct := some (t ++ d) }, .ok) := by simp [sayP, hc, hb]
      rw [e1]
      have hb' : decide ((2000 : Int) - (t.length : Nat) < (d.length : Nat)) = false := by simpa using hb
      have HR : Hid (Rn (W.setCell ⟨cb, 0, none⟩ (str (t ++ d))) K rb cb sb kb { s with ct := some (t ++ d) } ∧ Stp W K (W.setCell ⟨cb, 0, none⟩ (str (t ++ d))) K) := h.said hc (t ++ d)
      have hap : (⟨t.toArray⟩ : ByteArray) ++ ⟨d.toArray⟩ = ⟨(t ++ d).toArray⟩ := by
        apply ByteArray.ext
        simp
      clear h hE hk e1 hb hc
      go_enter Tryz.func159, Tryz.ntmps159
      go_wp2_with fail
      go_ret
      exact ⟨rfl, K, HR.out⟩
end Go.Proofs.YtfafhjglcaikoaaGreatDoor
namespace Go.Proofs.YtfafhjglcaikoaaGreatDoor
open Go.RowKit
attribute [local go_sem] Oper.semAt_some

theorem NdAt.sub {W : World} {g o cap : Nat} {X : List Nd} (h : NdAt W (.slice (some ⟨g, o, none⟩) X.length cap) X) (p m : Nat) (h1 : 1 ≤ m) (h2 : p + m ≤ X.length) : NdAt W (.slice (some ⟨g, o + p * 5, none⟩) m (cap - p)) ((X.drop p).take m) := by
  have hlen : ((X.drop p).take m).length = m := by rw [List.length_take, List.length_drop]; omega
  rcases h with ⟨h0, _⟩ | ⟨g', o', cap', hv, hc, hg, hcs⟩
  · have : X = [] := by simpa using h0
    subst this
    simp at h2
    omega
  · rw [List.length_map] at hv hc
    cases hv
    refine .inr ⟨g, o + p * 5, cap - p, by rw [List.length_map, hlen], by rw [List.length_map, hlen]; omega, hg, fun j cs hj i u hu => ?_⟩
    have hjm : j < m := by
      have := (List.getElem?_eq_some_iff.1 hj).1
      rw [List.length_map, hlen] at this
      exact this
    rw [List.getElem?_map, List.getElem?_take_of_lt hjm, List.getElem?_drop] at hj
    have := hcs (p + j) cs (by rw [List.getElem?_map]; exact hj) i u hu
    rw [show o + p * 5 + j * 5 + i = o + (p + j) * 5 + i by omega]
    exact this
/-- Pieces of the value v, in a row of one's own. -/
def Kds (W : World) (B : Nat) (v kv : Value) (ks : List (List Nd)) : Prop :=
  ∃ L : List (Value × List Nd), L.map Prod.snd = ks ∧ W.ownsRow B 22 1 kv L.length (L.map Prod.fst) ∧ ∀ p ∈ L, NdAt W p.1 p.2 ∧ ∀ b, p.1.ownBlock = some b → v.ownBlock = some b
theorem Kds.below {W W' : World} {B : Nat} {v kv : Value} {ks : List (List Nd)} (h : Kds W B v kv ks) (hb : Below W.heap.size W W') : Kds W' B v kv ks := by
  obtain ⟨L, h1, h2, h3⟩ := h
  exact ⟨L, h1, owns_turn h2 (Turn.ofBelow (S := fun _ => False) hb) (fun _ _ h => h), fun p hp => ⟨(h3 p hp).1.turn' hb, (h3 p hp).2⟩⟩
theorem Kds.turn {W W' : World} {B : Nat} {v kv : Value} {ks : List (List Nd)} {S : Nat → Prop} (h : Kds W B v kv ks) (hT : Turn S W W') (hv : ∀ b, v.ownBlock = some b → ¬ S b) (hk : ∀ b, kv.ownBlock = some b → ¬ S b) : Kds W' B v kv ks := by
  obtain ⟨L, h1, h2, h3⟩ := h
  exact ⟨L, h1, owns_turn h2 hT hk, fun p hp => ⟨(h3 p hp).1.turn hT (fun b hb => hv b ((h3 p hp).2 b hb)), (h3 p hp).2⟩⟩
theorem Kds.form {W : World} {B : Nat} {v kv : Value} {ks : List (List Nd)} (h : Kds W B v kv ks) : ∃ ad cap, kv = .slice ad ks.length cap := by
  obtain ⟨L, h1, h2, h3⟩ := h
  obtain ⟨ad, cap, h4⟩ := owns_slice h2
  exact ⟨ad, cap, by rw [h4, ← h1, List.length_map]⟩
/-- One of them. -/
theorem Kds.at {W : World} {B : Nat} {v kv : Value} {ks : List (List Nd)} (h : Kds W B v kv ks) {j : Nat} {k : List Nd} (hj : ks[j]? = some k) :
    ∃ g cap pv, kv = .slice (some ⟨g, 0, none⟩) ks.length cap ∧ g < W.heap.size ∧ W.cell? ⟨g, j, none⟩ = some pv ∧ NdAt W pv k ∧ ∀ b, pv.ownBlock = some b → v.ownBlock = some b := by
  obtain ⟨L, h1, h2, h3⟩ := h
  subst h1
  rw [List.getElem?_map] at hj
  obtain ⟨p, hp, rfl⟩ := Option.map_eq_some_iff.1 hj
  have hl := (List.getElem?_eq_some_iff.1 hp).1
  rcases h2.2 with ⟨_, h0⟩ | ⟨g, cap, cur, hv, hb, hc, hn, _, _, h4⟩
  · omega
  · refine ⟨g, cap, p.1, by rw [hv, List.length_map], (Array.getElem?_eq_some_iff.1 hc).1, ?_, h3 p (List.mem_of_getElem? hp)⟩
    have e1 : W.cell? ⟨g, j, none⟩ = cur[j]? := by simp [World.cell?, hc]
    rw [e1, ← Array.getElem?_toList, ← List.getElem?_take_of_lt (show j < L.length * 1 by omega), h4, List.getElem?_map, hp]
    rfl
theorem kidsF_len : ∀ (n : Nat) (l : List Nd) (ks : List (List Nd)), kidsF n l = some ks → ks.length ≤ n
  | 0, [], ks, h => by simp [kidsF] at h; subst h; simp
  | 0, _ :: _, ks, h => by simp [kidsF] at h
  | n + 1, [], ks, h => by simp [kidsF] at h; subst h; simp
  | n + 1, x :: r, ks, h => by
    unfold kidsF at h
    split at h
    · obtain ⟨t, ht, rfl⟩ := Option.map_eq_some_iff.1 h
      have := kidsF_len n _ t ht
      simp
      omega
    · cases h
theorem kidsF_step {X : List Nd} {m p len : Nat} {rest : List (List Nd)} (hF : kidsF m (X.drop p) = some rest) (hl : X.length = len) (hp : p < len) :
    ∃ (y : Nd) (sz m' : Nat) (t : List (List Nd)), X[p]? = some y ∧ y.size = sz ∧ 1 ≤ sz ∧ p + sz ≤ len ∧ kidsF m' (X.drop (p + sz)) = some t ∧ rest = (X.drop p).take sz :: t := by
  obtain ⟨y, hy⟩ : ∃ y, X[p]? = some y := ⟨_, List.getElem?_eq_getElem (by rw [hl]; exact hp)⟩
  have hdr : X.drop p = y :: X.drop (p + 1) := by
    obtain ⟨h1, h2⟩ := List.getElem?_eq_some_iff.1 hy
    rw [List.drop_eq_getElem_cons h1, h2]
  rw [hdr] at hF
  cases m with
  | zero => simp [kidsF] at hF
  | succ m' =>
    unfold kidsF at hF
    by_cases hc : 1 ≤ y.size ∧ y.size ≤ ((X.drop (p + 1)).length : Int) + 1
    case neg => rw [if_neg hc] at hF; cases hF
    rw [if_pos hc, ← hdr] at hF
    obtain ⟨t, ht, rfl⟩ := Option.map_eq_some_iff.1 hF
    rw [List.length_drop, hl] at hc
    obtain ⟨sz, hsz⟩ : ∃ sz : Nat, y.size = sz := ⟨y.size.toNat, by omega⟩
    rw [hsz, Int.toNat_natCast, List.drop_drop] at ht
    refine ⟨y, sz, m', t, hy, hsz, by omega, by omega, ht, by rw [hsz, Int.toNat_natCast]⟩
theorem kidsF_end {X : List Nd} {m p len : Nat} {rest : List (List Nd)} (hF : kidsF m (X.drop p) = some rest) (hl : X.length = len) (hp : len ≤ p) : rest = [] := by
  rw [List.drop_eq_nil_of_le (by omega)] at hF
  cases m <;> simpa [kidsF] using hF.symm
set_option maxRecDepth 100000 in
set_option maxHeartbeats 4000000 in
theorem kids_any (v : Value) (X : List Nd) (ks : List (List Nd)) (w : World) (h : NdAt w v X) (hk : kidsP X = some ks) :
    Calls Tryz.prog 66 #[v] w fun e w' => ∃ kv, e = .returned kv ∧ Kds w' w.heap.size v kv ks ∧ Below w.heap.size w w' := by
  obtain ⟨i0, hi0, hz0, hz1, hz2⟩ := info_parts info25
  obtain ⟨x, r, rfl⟩ : ∃ x r, X = x :: r := by
    cases X with
    | nil => simp [kidsP] at hk
    | cons x r => exact ⟨x, r, rfl⟩
  have hk' : kidsP (x :: r) = if 0 ≤ x.k ∧ x.k ≤ 100000 ∧ r.length ≤ 100000 then kidsF r.length r else none := rfl
  rw [hk'] at hk
  by_cases hc : 0 ≤ x.k ∧ x.k ≤ 100000 ∧ r.length ≤ 100000
  case neg => rw [if_neg hc] at hk; cases hk
  rw [if_pos hc] at hk
  obtain ⟨hx1, hx2, hx3⟩ := hc
  obtain ⟨K0, hK0⟩ : ∃ K0 : Nat, x.k = K0 := ⟨x.k.toNat, by omega⟩
  have HKS : Hid (kidsF r.length r = some ks) := hk
  obtain ⟨X, hX⟩ : ∃ X, x :: r = X := ⟨_, rfl⟩
  have HD : Hid (X.drop 1 = r) := by rw [← hX]; rfl
  have hlen : X.length = r.length + 1 := by rw [← hX]; rfl
  have hx0 : X[0]? = some x := by rw [← hX]; rfl
  rw [hX] at h
  obtain ⟨g, o, cap, rfl, hg, hcs⟩ := h.at hx0
  have hcl : X.length ≤ cap := by
    rcases h with ⟨h0, _⟩ | ⟨g', o', cap', hv, hcc, _⟩
    · have : X = [] := by simpa using h0
      rw [this] at hlen
      simp at hlen
    · rw [List.length_map] at hv hcc
      cases hv
      exact hcc
  have c2 := hcs.2.2.1
  rw [hK0, Nat.zero_mul, Nat.add_zero] at c2
  have HH : Hid (NdAt w (.slice (some ⟨g, o, none⟩) X.length cap) X) := h
  obtain ⟨len, hl⟩ : ∃ len, X.length = len := ⟨_, rfl⟩
  rw [hl] at HH hlen hcl ⊢
  have HL : Hid (X.length = len) := hl
  clear h hcs hX hx0 hk hk' hl
  go_enter Tryz.func66, Tryz.ntmps66
  go_wp2_with (at_make; refine wpList_make_own _ rfl _ _ 46 rfl w.heap.size 22 i0 _ 1 Tryz.underlying46 hi0 hz0 hz1 .i64 .i64 _ K0 rfl rfl rfl (by rw [hz2]; omega) (by have := maxLen_big; omega) (Nat.le_refl _) ?_; intro w0 hown0 hgrow0)
  have hb0 : Below w.heap.size w w0 := (Below.refl _ w).grown hgrow0 (Nat.le_refl _) fun q e => by cases e
  have HO0 : Hid (w0.ownsRow w.heap.size 22 1 (.slice (some ⟨w.heap.size, 0, none⟩) 0 K0) 0 []) := hown0
  clear hown0 hgrow0
  go_loopw [3, 4] (fun v3 v4 wr => ∃ (L : List (Value × List Nd)) (p m : Nat) (rest : List (List Nd)), v4 = .int .i64 p ∧ 1 ≤ p ∧ p ≤ len ∧ L.length ≤ p ∧ Hid (kidsF m (X.drop p) = some rest) ∧ Hid (L.map Prod.snd ++ rest = ks) ∧ Hid (wr.ownsRow w.heap.size 22 1 v3 L.length (L.map Prod.fst)) ∧ Hid (∀ q ∈ L, NdAt w q.1 q.2 ∧ ∀ b, q.1.ownBlock = some b → b = g) ∧ Below w.heap.size w wr) (fun _ v4 _ => len - (intOf v4).toNat)
  case atStart => exact ⟨[], 1, r.length, ks, rfl, by omega, by omega, by simp, by rw [HD.out]; exact HKS, rfl, HO0.out, fun q hq => by simp at hq, hb0⟩
  case round =>
    obtain ⟨L, p, m, rest, rfl, hp1, hp2, hLp, HF, HR, HO, HQ, hbr⟩ := hrel
    by_cases hpl : p < len
    · obtain ⟨y, sz, m', t, hy, hsz, h1, h2, ht, rfl⟩ := kidsF_step HF.out HL.out hpl
      have HT : Hid (kidsF m' (X.drop (p + sz)) = some t) := ht
      have hnd := HH.out
      have hl := HL.out
      rw [← hl] at hnd
      obtain ⟨g', o', cap', hv, _, hcs⟩ := hnd.at hy
      cases hv
      have hc3 := hcs.2.2.2.1
      rw [hsz] at hc3
      have HC3 : Hid (w.cell? ⟨g, o + p * 5 + 3, none⟩ = some (.int .i64 (sz : Nat))) := hc3
      have c3 := (hbr.cell (p := ⟨g, o + p * 5 + 3, none⟩) hg).trans hc3
      have HN : Hid (NdAt w (.slice (some ⟨g, o + p * 5, none⟩) sz (cap - p)) ((X.drop p).take sz)) := hnd.sub p sz h1 (by omega)
      have ho := HO.out
      have hws := hbr.size
      clear hcs hy ht hnd hl hsz hc3
      have hal := ho.alloc (.cells #[.slice (some ⟨g, o + p * 5, none⟩) sz (cap - p)] 22)
      go_wp2_with (at_builtin; refine wpList_append_own _ rfl _ _ 46 rfl w.heap.size 22 i0 _ 1 24 Tryz.underlying46 hi0 hz0 hz1 hz2 rfl (by decide) _ _ _ rfl hal ⟨wr.heap.size, 0, none⟩ 1 1 [.slice (some ⟨g, o + p * 5, none⟩) sz (cap - p)] rfl rfl (cells_new _ [.slice (some ⟨g, o + p * 5, none⟩) sz (cap - p)] _) (by simp [Value.oneCell']) (by have := maxLen_big; omega) (by omega) (by simp; omega) ?_; intro v2 w2 hown2 hgrow2 _; have hb2 : Below w.heap.size w w2 := grown_own (by simp; omega) (hbr.alloc hws _) hal hgrow2; have c4 := (hb2.cell (p := ⟨g, o + p * 5 + 3, none⟩) hg).trans HC3.out)
      refine ⟨⟨L ++ [(.slice (some ⟨g, o + p * 5, none⟩) sz (cap - p), (X.drop p).take sz)], p + sz, m', t, by simp, by omega, by omega, by simp; omega, HT, ?_, ?_, ?_, hb2⟩, by simp [intOf]; omega⟩
      · have := HR.out
        unfold Hid
        rw [← this]
        simp
      · unfold Hid
        rw [List.map_append, List.length_append]
        exact hown2
      · intro q hq
        rcases List.mem_append.1 hq with hq | hq
        · exact HQ.out q hq
        · simp only [List.mem_singleton] at hq
          subst hq
          exact ⟨HN.out, fun b hb => by simpa [Value.ownBlock] using hb.symm⟩
    · have hpz : p = len := by omega
      subst hpz
      have hr := kidsF_end HF.out HL.out (Nat.le_refl _)
      subst hr
      go_wp2_with fail
      go_ret
      refine ⟨_, rfl, ⟨L, ?_, HO.out, fun q hq => ⟨(HQ.out q hq).1.turn' hbr, fun b hb => ?_⟩⟩, hbr⟩
      · have := HR.out
        rwa [List.append_nil] at this
      · rw [(HQ.out q hq).2 b hb]
        rfl
end Go.Proofs.YtfafhjglcaikoaaGreatDoor

/- What a run asks of its store and its kernel; a command of the world; what a builtin says is done. -/
import Derived.Test.YtfafhjglcaikoaaGreatDoorH15
import Derived.Test.YtfafhjglcaikoaaGreatDoorH4
import Derived.Test.YtfafhjglcaikoaaGreatDoorH8
import Derived.Deep.RegionHeld3
namespace Go.Proofs.YtfafhjglcaikoaaGreatDoor
open Go.RowKit
attribute [local go_sem] Oper.semAt_some

variable {W W' : World} {K : Nat → Prop} {rb cb sb kb : Nat} {s : Sh} {ea : Nat → Addr}
/-- How a part of a run comes back. -/
def Rb (W : World) (K : Nat → Prop) (rb cb sb kb : Nat) (s1 : Sh) (x : Xr) (w' : World) : Prop :=
  ∃ K' cb', Rn w' K' rb cb' sb kb s1 ∧ Stp W K w' K' ∧ (x = .ok → cb' = cb)
/-- How a command comes back. -/
def Done (ea : Nat → Addr) (W : World) (K : Nat → Prop) (rb cb sb kb : Nat) (r : Cr) (e : Ending) (w' : World) : Prop :=
  e = .returned (.tuple #[.int .i64 r.2.1, xrV ea r.2.2]) ∧ Rb W K rb cb sb kb r.1 r.2.2 w'
theorem Rb.of {s1 : Sh} {x : Xr} {w' : World} {K' : Nat → Prop} (h : Rn w' K' rb cb sb kb s1) (hs : Stp W K w' K') : Rb W K rb cb sb kb s1 x w' := ⟨K', cb, h, hs, fun _ => rfl⟩
theorem Rb.pre {s1 : Sh} {x : Xr} {w1 w' : World} {K1 : Nat → Prop} (hs : Stp W K w1 K1) (h : Rb w1 K1 rb cb sb kb s1 x w') : Rb W K rb cb sb kb s1 x w' := by
  obtain ⟨K', cb', h1, h2, h3⟩ := h
  exact ⟨K', cb', h1, hs.trans h2, h3⟩
theorem Rb.post {s1 : Sh} {x : Xr} {w1 w' : World} (h : Rb W K rb cb sb kb s1 x w1) (hb : Below w1.heap.size w1 w') : Rb W K rb cb sb kb s1 x w' := by
  obtain ⟨K', cb', h1, h2, h3⟩ := h
  exact ⟨K', cb', h1.below hb, h2.trans (Stp.ofBelow hb), h3⟩
theorem Rn.drew (h : Rn W K rb cb sb kb s) : Rn W.drew K rb cb sb kb s := h.below (Below.refl _ W).drew
theorem stp_drew (K : Nat → Prop) (W : World) : Stp W K W.drew K := Stp.ofBelow (Below.refl _ W).drew
theorem Off.below {v : Value} (h : Off W K v) (hb : Below W.heap.size W W') : Off W' K v := h.stp (Stp.ofBelow hb)
theorem Rn.store (h : Rn W K rb cb sb kb s) : ∃ KS vb fb V G, Sto W KS sb vb fb V G ∧ cont V = s.F ∧ cont G = s.H := by
  obtain ⟨KS, KK, ⟨vb, fb, mb, V, G, ev, rv, Y, X, a1, a2, a3, _⟩, _⟩ := h.ex
  exact ⟨KS, vb, fb, V, G, a1, a2, a3⟩
theorem exec_rn (nm : Txt) (l : List Txt) (va : Value) (h : Rn W K rb cb sb kb s) (hk : Okk s) (ht : Tx W va l) (hl : l.length < 4294967296) :
    Calls Tryz.prog 160 #[kP kb, str nm, str s.hd, va] W fun e w' => e = .returned (.tuple #[str (outOf (rowOf s.R nm l) s.hd), .int .i64 (statOf (rowOf s.R nm l)), .bool (rowOf s.R nm l).isSome]) ∧
      ∃ K', Rn w' K' rb cb sb kb { s with E := s.E ++ [⟨1, statOf (rowOf s.R nm l), nm, heardOf (rowOf s.R nm l) s.hd, l⟩] } ∧ Stp W K w' K' := by
  refine h.onKern (P := fun e => e = .returned (.tuple #[str (outOf (rowOf s.R nm l) s.hd), .int .i64 (statOf (rowOf s.R nm l)), .bool (rowOf s.R nm l).isSome])) (D' := s.D) (E' := [⟨1, statOf (rowOf s.R nm l), nm, heardOf (rowOf s.R nm l) s.hd, l⟩]) fun KK mb ev rv Y X k1 k2 k3 => ?_
  have hlE : X.length = s.E.length := by rw [← k3, List.length_map]
  have hlR : Y.length = s.R.length := by rw [← k2, List.length_map]
  have h1 := hk.E
  have h2 := hk.R
  have h3 := hk.hd
  have h4 : ∀ p ∈ Y, p.1.args.length < 100000 ∧ p.1.out.length < 100000 := fun p hp => hk.Rn p.1 (by rw [← k2]; exact List.mem_map_of_mem hp)
  refine (exec_any nm s.hd l va k1 (by omega) (by omega) ht hl (fun p hp => by have := (h4 p hp).1; omega) (by omega) (fun p hp => by have := (h4 p hp).2; omega) (rowOf s.R nm l) (by rw [k2])).mono ?_
  rintro e w' ⟨rfl, ev', lv', K', b1, b2⟩
  exact ⟨rfl, ev', [(⟨1, statOf (rowOf s.R nm l), nm, heardOf (rowOf s.R nm l) s.hd, l⟩, lv')], K', b1, rfl, b2⟩
theorem reads_rn (nm : Txt) (l : List Txt) (va : Value) (h : Rn W K rb cb sb kb s) (hR : s.R.length < 100000) (hRn : ∀ r ∈ s.R, r.args.length < 100000) (ht : Tx W va l) (hl : l.length < 4294967296) :
    Calls Tryz.prog 161 #[kP kb, str nm, va] W fun e w' => e = .returned (.bool (readsB (rowOf s.R nm l))) ∧ Below W.heap.size W w' := by
  obtain ⟨KS, KK, ⟨vb, fb, mb, V, G, ev, rv, Y, X, a1, a2, a3, a4, a5, a6⟩, _⟩ := h.ex
  have hlR : Y.length = s.R.length := by rw [← a5, List.length_map]
  exact reads_any nm l va a4 (by omega) ht hl (fun p hp => by have := hRn p.1 (by rw [← a5]; exact List.mem_map_of_mem hp); omega) (rowOf s.R nm l) (by rw [a5])
theorem putV_rn (k : Txt) (l : List Txt) (v : Value) (h : Rn W K rb cb sb kb s) (hF : s.F.length < 4294967296) (hk : k.length ≤ maxLen) (ht : Tx W v l) (hl : l.length * 16 ≤ big) :
    Calls Tryz.prog 106 #[sP sb, str k, v] W fun e w' => e = .returned (.tuple #[]) ∧ ∃ K', Rn w' K' rb cb sb kb { s with F := putM s.F k l } ∧ Stp W K w' K' := by
  refine h.onSto (P := fun e _ => e = .returned (.tuple #[])) (F' := putM s.F k l) (H' := s.H) fun KS vb fb V G k1 k2 k3 => ?_
  have hlV : V.length = s.F.length := by rw [← k2, cont_length]
  refine (set_any k1 k hk v l ht hl (by omega)).mono ?_
  rintro e w' ⟨rfl, u, K', b1, b2⟩
  exact ⟨rfl, K', _, _, b1, by rw [cont_put, k2], k3, b2⟩
theorem putF_rn (k : Txt) (l : List Nd) (v : Value) (h : Rn W K rb cb sb kb s) (hF : s.H.length < 4294967296) (hk : k.length ≤ maxLen) (ht : NdAt W v l) (hl : l.length < 4294967296) :
    Calls Tryz.prog 74 #[fP sb, str k, v] W fun e w' => e = .returned (.tuple #[]) ∧ ∃ K', Rn w' K' rb cb sb kb { s with H := putM s.H k l } ∧ Stp W K w' K' := by
  refine h.onSto (P := fun e _ => e = .returned (.tuple #[])) (F' := s.F) (H' := putM s.H k l) fun KS vb fb V G k1 k2 k3 => ?_
  have hlV : G.length = s.H.length := by rw [← k3, cont_length]
  refine (setFun_any k1 k hk v l ht hl (by omega)).mono ?_
  rintro e w' ⟨rfl, u, K', b1, b2⟩
  exact ⟨rfl, K', _, _, b1, k2, by rw [cont_put, k3], b2⟩
theorem get_rn (k : Txt) (h : Rn W K rb cb sb kb s) (hk : k.length ≤ maxLen) :
    Calls Tryz.prog 147 #[sP sb, str k] W fun e w' => ∃ v', e = .returned (.tuple #[v', .bool (hasM s.F k)]) ∧ w'.ownsRow W.heap.size 9 1 v' (getM s.F k []).length (txV (getM s.F k [])) ∧ Below W.heap.size W w' := by
  obtain ⟨KS, vb, fb, V, G, a1, a2, a3⟩ := h.store
  rw [← a2, cont_has, cont_get V k (.slice none 0 0) []]
  exact get_any a1 k hk
theorem fun_rn (k : Txt) (h : Rn W K rb cb sb kb s) (hk : k.length ≤ maxLen) :
    Calls Tryz.prog 109 #[fP sb, str k] W fun e w' => ∃ v', e = .returned (.tuple #[v', .bool (hasM s.H k)]) ∧ NdOwn w' W.heap.size v' (getM s.H k []) ∧ Below W.heap.size W w' := by
  obtain ⟨KS, vb, fb, V, G, a1, a2, a3⟩ := h.store
  rw [← a3, cont_has, cont_get G k (.slice none 0 0) []]
  exact fun_any a1 k hk
theorem xr_cases (ea : Nat → Addr) (x : Xr) : (x = .ok ∧ xrV ea x = .nilIface) ∨ (x ≠ .ok ∧ ∃ a, xrV ea x = errV a) := by
  cases x
  · exact .inl ⟨rfl, rfl⟩
  all_goals exact .inr ⟨by simp, _, rfl⟩
theorem execP_eq (s : Sh) (nm : Txt) (l : List Txt) (o : Option Rw) (ho : rowOf s.R nm l = o) (r : Sh × Xr)
    (hr : sayP { s with E := s.E ++ [⟨1, statOf o, nm, heardOf o s.hd, l⟩], hd := if readsB o then [] else s.hd } (outOf o s.hd) = r) : execP s nm l = (r.1, if r.2 = .ok then statOf o else 0, r.2) := by
  unfold execP
  simp only [ho, hr]
  obtain ⟨s1, x⟩ := r
  cases x <;> rfl
theorem outOf_small (hk : Okk s) (nm : Txt) (l : List Txt) : (outOf (rowOf s.R nm l) s.hd).length < 4294967296 := by
  have h3 := hk.hd
  cases ho : rowOf s.R nm l with
  | none => exact Nat.zero_lt_succ _
  | some r =>
    have h4 := (hk.Rn r (List.mem_of_find?_eq_some ho)).2
    unfold outOf
    split
    · rename_i e
      cases e
      split
      · rw [List.length_append]; omega
      · omega
    · exact Nat.zero_lt_succ _
set_option maxRecDepth 100000 in
set_option maxHeartbeats 4000000 in
theorem execS_any (nm : Txt) (l : List Txt) (va : Value) (hE : Ers W ea) (h : Rn W K rb cb sb kb s) (hk : Okk s) (ht : Tx W va l) (ho : Off W K va) (hl : l.length < 100000) :
    Calls Tryz.prog 113 #[rP rb, str nm, va] W (Done ea W K rb cb sb kb (execP s nm l)) := by
  have hsm := outOf_small hk nm l
  obtain ⟨o, hoo⟩ : ∃ o, rowOf s.R nm l = o := ⟨_, rfl⟩
  rw [hoo] at hsm
  obtain ⟨s1, hs1⟩ : ∃ s1 : Sh, { s with E := s.E ++ [⟨1, statOf o, nm, heardOf o s.hd, l⟩] } = s1 := ⟨_, rfl⟩
  obtain ⟨s2, hs2⟩ : ∃ s2 : Sh, { s with E := s.E ++ [⟨1, statOf o, nm, heardOf o s.hd, l⟩], hd := if readsB o then [] else s.hd } = s2 := ⟨_, rfl⟩
  have HX : Hid (Calls Tryz.prog 160 #[kP kb, str nm, str s.hd, va] W.drew fun e w' => e = .returned (.tuple #[str (outOf o s.hd), .int .i64 (statOf o), .bool o.isSome]) ∧ ∃ K', Rn w' K' rb cb sb kb s1 ∧ Stp W K w' K') := by
    rw [← hs1, ← hoo]
    refine Calls.mono (exec_rn nm l va h.drew hk (ht.below (Below.refl _ W).drew (Nat.le_refl _)) (by omega)) ?_
    rintro e w' ⟨h1, K', h2, h3⟩
    exact ⟨h1, K', h2, (stp_drew K W).trans h3⟩
  have HRD : Hid (∀ w1 K1, Rn w1 K1 rb cb sb kb s1 → Stp W K w1 K1 → Calls Tryz.prog 161 #[kP kb, str nm, va] w1 fun e w' => e = .returned (.bool (readsB o)) ∧ Below w1.heap.size w1 w') := fun w1 K1 h1 h2 => by
    have := reads_rn nm l va h1 (by rw [← hs1]; exact hk.R) (by rw [← hs1]; exact fun r hr => (hk.Rn r hr).1) (ho.tx ht h2) (by omega)
    rw [show s1.R = s.R by rw [← hs1], hoo] at this
    exact this
  have hw2 : Okw s2 := by
    rw [← hs2]
    have := hk.w
    exact ⟨this.D, by have := hk.E; show (s.E ++ _).length < _; rw [List.length_append]; simp; omega, this.dat, this.fl, this.ct⟩
  have HSY : Hid (∀ w1 K1, Rn w1 K1 rb cb sb kb s2 → Stp W K w1 K1 → Calls Tryz.prog 159 #[rP rb, str (outOf o s.hd)] w1 fun e w' => e = .returned (xrV ea (sayP s2 (outOf o s.hd)).2) ∧ ∃ K', Rn w' K' rb cb sb kb (sayP s2 (outOf o s.hd)).1 ∧ Stp W K w' K') := fun w1 K1 h1 h2 => by
    refine Calls.mono (say_any (outOf o s.hd) (hE.stp h h2) h1 hw2 hsm) ?_
    rintro e w' ⟨h3, K', h4, h5⟩
    exact ⟨h3, K', h4, h2.trans h5⟩
  have HSET : Hid (∀ w1 K1, Rn w1 K1 rb cb sb kb s1 → Stp W K w1 K1 → readsB o = true → Rn (w1.setCell ⟨rb, 7, none⟩ (.string ⟨#[]⟩)) K1 rb cb sb kb s2 ∧ Stp W K (w1.setCell ⟨rb, 7, none⟩ (.string ⟨#[]⟩)) K1) := fun w1 K1 h1 h2 h3 => by
    have h4 := h1.set 7 (str []) s2 (by rw [← hs1, ← hs2]; simp [rnC, h3]) (by rw [← hs1, ← hs2]) (by rw [← hs1, ← hs2]) (by rw [← hs1, ← hs2]) (by rw [← hs1, ← hs2]) (by rw [← hs1, ← hs2]) (by rw [← hs1, ← hs2])
    exact ⟨h4.1, h2.trans h4.2⟩
  have HSN : Hid (readsB o = false → s1 = s2) := fun h3 => by rw [← hs1, ← hs2, h3]; simp
  have HEQ : Hid (execP s nm l = ((sayP s2 (outOf o s.hd)).1, if (sayP s2 (outOf o s.hd)).2 = .ok then statOf o else 0, (sayP s2 (outOf o s.hd)).2)) := execP_eq s nm l o hoo _ (by rw [hs2])
  have HC1 : Hid (∀ w1 K1, Rn w1 K1 rb cb sb kb s1 → w1.cell? ⟨rb, 1, none⟩ = some (kP kb) ∧ w1.cell? ⟨rb, 7, none⟩ = some (str s.hd) ∧ w1.frozen? ⟨rb, 7, none⟩ = false) := fun w1 K1 h1 => ⟨h1.rc.cell 1, by have := h1.rc.cell 7; rw [← hs1] at this; exact this, h1.rc.frozen 7⟩
  have HCB : Hid (∀ w1 w2 K1, Rn w1 K1 rb cb sb kb s1 → Below w1.heap.size w1 w2 → Rn w2 K1 rb cb sb kb s1) := fun w1 w2 K1 h1 h2 => h1.below h2
  have c1 : W.cell? ⟨rb, 1, none⟩ = some (kP kb) := h.rc.cell 1
  have c7 : W.cell? ⟨rb, 7, none⟩ = some (str s.hd) := h.rc.cell 7
  rw [HEQ.out]
  obtain ⟨y, hy⟩ : ∃ y, sayP s2 (outOf o s.hd) = y := ⟨_, rfl⟩
  rw [hy] at HSY ⊢
  obtain ⟨adv, capv, rfl⟩ := ht.form
  obtain ⟨out, hout⟩ : ∃ out, outOf o s.hd = out := ⟨_, rfl⟩
  rw [hout] at HX HSY
  obtain ⟨sg, hsg⟩ : ∃ sg, o.isSome = sg := ⟨_, rfl⟩
  rw [hsg] at HX
  obtain ⟨rd, hrd⟩ : ∃ rd, readsB o = rd := ⟨_, rfl⟩
  rw [hrd] at HRD HSET HSN
  obtain ⟨stt, hstt⟩ : ∃ stt, statOf o = stt := ⟨_, rfl⟩
  rw [hstt] at HX ⊢
  obtain ⟨st', hst'⟩ : ∃ st', (if y.2 = .ok then stt else 0) = st' := ⟨_, rfl⟩
  rw [hst']
  have HIF : Hid ((y.2 = .ok → st' = stt) ∧ (y.2 ≠ .ok → st' = 0)) := ⟨fun h => by rw [← hst', if_pos h], fun h => by rw [← hst', if_neg h]⟩
  clear hst'
  obtain ⟨hdv, hhd⟩ : ∃ hdv, s.hd = hdv := ⟨_, rfl⟩
  rw [hhd] at HX HC1 c7
  clear h hE hk ht ho hoo hs1 hs2 hw2 HEQ hy hout hsg hrd hstt hhd hsm
  go_enter Tryz.func113, Tryz.ntmps113
  go_wp2_with fail
  go_region_held3 (fun w' => w'.cell? ⟨rb, 1, none⟩ = some (kP kb) ∧ w'.cell? ⟨rb, 7, none⟩ = some (str hdv)) (go_keep)
    (first | (go_at_call 160; refine Calls.mono HX.out ?_; rintro e w1 ⟨rfl, K1, HR1, HS1⟩; obtain ⟨d1, d7, f7⟩ := HC1.out _ _ HR1))
  go_wp2_with fail
  refine Calls.mono (HRD.out _ _ HR1 HS1) ?_
  rintro e w2 ⟨rfl, hb2⟩
  have HR2 : Hid _ := HCB.out _ _ _ HR1 hb2
  have HS2 : Hid (Stp W K w2 K1) := HS1.trans (Stp.ofBelow hb2)
  obtain ⟨g1, g7, gf7⟩ := HC1.out _ _ HR2.out
  clear HR1 HS1 hb2
  cases rd with
  | true =>
    obtain ⟨hr3, hs3⟩ := HSET.out _ _ HR2.out HS2.out rfl
    have HR3 : Hid _ := hr3
    have HS3 : Hid _ := hs3
    clear hr3 hs3
    go_wp2_with fail
    refine Calls.mono (HSY.out _ _ HR3.out HS3.out) ?_
    rintro e w4 ⟨rfl, K4, HR4, HS4⟩
    rcases xr_cases ea y.2 with ⟨hy1, hy2⟩ | ⟨hy1, a, hy2⟩
    · rw [hy2]
      go_wp2_with fail
      go_ret2
      refine ⟨?_, Rb.of HR4 HS4⟩
      rw [hy2, HIF.out.1 hy1]
      rfl
    · rw [hy2]
      go_wp2_with fail
      go_ret2
      refine ⟨?_, Rb.of HR4 HS4⟩
      rw [hy2, HIF.out.2 hy1]
      rfl
  | false =>
    have e12 := HSN.out rfl
    have HR3 : Hid _ := HR2
    rw [e12] at HR3
    go_wp2_with fail
    refine Calls.mono (HSY.out _ _ HR3.out HS2.out) ?_
    rintro e w4 ⟨rfl, K4, HR4, HS4⟩
    rcases xr_cases ea y.2 with ⟨hy1, hy2⟩ | ⟨hy1, a, hy2⟩
    · rw [hy2]
      go_wp2_with fail
      go_ret2
      refine ⟨?_, Rb.of HR4 HS4⟩
      rw [hy2, HIF.out.1 hy1]
      rfl
    · rw [hy2]
      go_wp2_with fail
      go_ret2
      refine ⟨?_, Rb.of HR4 HS4⟩
      rw [hy2, HIF.out.2 hy1]
      rfl
end Go.Proofs.YtfafhjglcaikoaaGreatDoor

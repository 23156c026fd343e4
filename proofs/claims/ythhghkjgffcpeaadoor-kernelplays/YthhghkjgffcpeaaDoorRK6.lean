/- The document's kernel: Open. -/
import Derived.Test.YthhghkjgffcpeaaDoorRK5
namespace Go.Proofs.YthhghkjgffcpeaaDoor
open Go.RowKit

variable {W W' : World} {K K' S : Nat → Prop} {xb : Nat} {fv rv tv : Value} {F : Fls} {X : List (Ev × Value)} {Y : List (Rw × Value)}
/-- A block says this. -/
def ToldE (eb : Nat) (cs : Array Value) (W : World) : Prop := Hid (Cel W eb 70 cs)
/-- What a noted event leaves. -/
structure After (W0 : World) (K0 : Nat → Prop) (xb : Nat) (fv rv : Value) (F : Fls) (X : List (Ev × Value)) (e : Ev) (lv : Value) (K : Nat → Prop) (W w5 : World) (tv' tv : Value) : Prop where
  fin : Fin W0 K0 xb rv F X [e] (w5.setCell ⟨xb, 2, none⟩ tv')
  k5 : ∀ {b t : Nat} {cs : Array Value}, Cel W b t cs → ¬ K b → Cel w5 b t cs
  k6 : ∀ {b t : Nat} {cs : Array Value}, Cel W b t cs → ¬ K b → Cel (w5.setCell ⟨xb, 2, none⟩ tv') b t cs
  c5 : w5.cell? ⟨xb, 2, none⟩ = some tv
  f5 : w5.frozen? ⟨xb, 2, none⟩ = false
theorem note_after {W0 : World} {K0 Kl : Nat → Prop} (h : Rk W K xb fv rv tv F X) (hs : Stp W0 K0 W K) (e : Ev) (lv : Value) (hl : Ot W Kl lv e.l) (hlb : ∀ i, lv.ownBlock = some i → W0.heap.size ≤ i) {cs : Array Value} (_hcs : cs = (evC e lv).toArray) {w5 : World} {tv' : Value}
    (ho : w5.ownsRow 0 70 5 tv' (X.length + 1) (evCs X ++ evC e lv)) (hg : (W.drew.alloc (.cells cs 70)).grownBy w5 tv.ownBlock) (hat : tv'.ownBlock = tv.ownBlock ∨ tv'.ownBlock = some (W.drew.alloc (.cells cs 70)).heap.size) :
    After W0 K0 xb fv rv F X e lv K W w5 tv' tv := by
  have hb1 : Below W.heap.size W (W.drew.alloc (.cells cs 70)) := ((Below.refl _ W).drew).alloc (Nat.le_refl _) _
  have hl1 : Ot (W.drew.alloc (.cells cs 70)) Kl lv e.l := hl.turn (Turn.ofBelow (S := fun _ => False) hb1) (fun _ _ h => h)
  obtain ⟨K5, N1, N2, N3, c5, f5⟩ := (h.below hb1).noted hl1 ho hg hat
  have hT6 : Turn K W (w5.setCell ⟨xb, 2, none⟩ tv') := (Turn.ofBelow hb1).trans N2 (fun _ h _ => h)
  have hT5 : Turn K W w5 := (Turn.ofBelow hb1).trans ((Turn.ofGrown hg).mono fun i e' => h.Kt i e') (fun _ h _ => h)
  refine ⟨⟨_, _, [(e, lv)], K5, N1, rfl, hs.1.trans hT6 (fun i hi hlt => (hs.2 i hi).elim id (fun h2 => absurd hlt (by omega))), fun i hi => ?_⟩, fun hc hn => hc.turn hT5 hn, fun hc hn => hc.turn hT6 hn, c5, f5⟩
  rcases N3 i hi with h1 | h1 | h1
  · exact hs.2 i h1
  · exact .inr (hlb i h1)
  · exact .inr (Nat.le_trans hs.1.size (Nat.le_trans hb1.size h1))
theorem Fin.drewN {w6 : World} {E : List Ev} (h : Fin W K xb rv F X E w6) (m : Nat) : Fin W K xb rv F X E (w6.drewN m) := by
  obtain ⟨fv', tv', X', K', h1, h2, h3⟩ := h
  have hb : Below w6.heap.size w6 (w6.drewN m) := ⟨rfl, rfl, rfl, Nat.le_refl _, fun _ _ => rfl⟩
  exact ⟨fv', tv', X', K', h1.below hb, h2, h3.trans (Stp.ofBelow hb)⟩
theorem put_same (F : Fls) (f : Txt) (i : Nat) (p : Txt × Txt) (hR : Ris F) (hp : F[i]? = some p) (hk : p.1 = f) : putF F f p.2 = F := by
  rw [put_set f p.2 F i p hR hp hk]
  have hil := (List.getElem?_eq_some_iff.1 hp).1
  rw [← hk, show (p.1, p.2) = p from rfl, ← (List.getElem?_eq_some_iff.1 hp).2, List.set_getElem_self]

set_option maxRecDepth 100000 in
set_option maxHeartbeats 4000000 in
theorem ropen_any (h : Rk W K xb fv rv tv F X) (f : Txt) (m : Int) (hF : F.length < 60000) (hX : X.length < 60000) (hR : Ris F) :
    Calls Tryd.prog 21 #[xP xb, str f, .int .i64 m] W fun r w' => r = .returned (.tuple #[str (openD F f m), .bool (openB F f m)]) ∧ Fin W K xb rv (openF F f m) X (openE F f m) w' := by
  obtain ⟨i0, hi0, hz0, hz1, hz2⟩ := info_parts info70
  have HH : Hid (Rk W K xb fv rv tv F X) := h
  have HRI : Hid (Ris F) := hR
  have HLT : Hid (∀ i, K i → i < W.heap.size) := h.lt
  obtain ⟨adt, capt, rfl⟩ := owns_slice h.er
  clear h hR
  have hm : m = 1 ∨ m = 2 ∨ m = 3 ∨ (m < 1 ∨ 3 < m) := by omega
  rcases hm with rfl | rfl | rfl | hm
  · have hb1 : Below W.heap.size W (W.alloc (.cells #[.int .i64 2, .int .i64 1, str f, .string ⟨#[]⟩, .slice none 0 0] 70)) := below_new W _
    have HR1 : Hid (Rk (W.alloc (.cells #[.int .i64 2, .int .i64 1, str f, .string ⟨#[]⟩, .slice none 0 0] 70)) K xb fv rv (.slice adt X.length capt) F X) := HH.out.below hb1
    have HFI : Hid (Calls Tryd.prog 52 #[xP xb, str f] (W.alloc (.cells #[.int .i64 2, .int .i64 1, str f, .string ⟨#[]⟩, .slice none 0 0] 70)) fun e w' => e = .returned (.int .i64 (idxV (idxF F f))) ∧ w' = W.alloc (.cells #[.int .i64 2, .int .i64 1, str f, .string ⟨#[]⟩, .slice none 0 0] 70)) := rfind_any HR1.out f hF
    have HPU : Hid (Calls Tryd.prog 48 #[xP xb, .agg #[str f, str []]] (W.alloc (.cells #[.int .i64 2, .int .i64 1, str f, .string ⟨#[]⟩, .slice none 0 0] 70)) fun e w' => e = .returned (.tuple #[]) ∧ ∃ fv' K', Rk w' K' xb fv' rv (.slice adt X.length capt) (putF F f []) X ∧ Stp (W.alloc (.cells #[.int .i64 2, .int .i64 1, str f, .string ⟨#[]⟩, .slice none 0 0] 70)) K w' K') := rput_any HR1.out f [] hF HRI.out
    have CE : Hid (Cel (W.alloc (.cells #[.int .i64 2, .int .i64 1, str f, .string ⟨#[]⟩, .slice none 0 0] 70)) W.heap.size 70 #[.int .i64 2, .int .i64 1, str f, .string ⟨#[]⟩, .slice none 0 0]) := Cel.new W 70 _
    have HNK : Hid (¬ K W.heap.size) := fun hk => Nat.lt_irrefl _ (HLT.out _ hk)
    have hcase : (idxF F f = none ∧ datF F f = [] ∧ hasF F f = false) ∨ ∃ i p, idxF F f = some i ∧ F[i]? = some p ∧ p.1 = f ∧ datF F f = p.2 ∧ hasF F f = true := by
      cases hix : idxF F f with
      | none => exact .inl ⟨rfl, (idxF_none hix).1, (idxF_none hix).2⟩
      | some i =>
        obtain ⟨p, h1, h2, h3, h4⟩ := idxF_some hix
        exact .inr ⟨i, p, rfl, h1, h2, h3, h4⟩
    rcases hcase with ⟨hix, hd, hh⟩ | ⟨i, p, hix, hp, hpk, hd, hh⟩
    · have e1 : openD F f 1 = [] := by simp [openD, hd]
      have e2 : openB F f 1 = false := by simp [openB, hh]
      have e3 : openF F f 1 = F := rfl
      have e4 : openE F f 1 = [⟨2, 4, f, [], []⟩] := by simp [openE, hh]
      rw [e1, e2, e3, e4]
      rw [hix] at HFI
      clear e1 e2 e3 e4 hix hd hh
      go_enter Tryd.func21, Tryd.ntmps21
      go_wp2_with fail
      refine HFI.out.mono ?_
      rintro e w2 ⟨rfl, hw2⟩
      obtain rfl := hw2.symm
      clear hw2 HFI
      simp only [idxV]
      go_upto_region 12 with fail
      obtain ⟨w4, hw4⟩ : ∃ w4, w4 = W.alloc (.cells #[.int .i64 2, .int .i64 4, str f, .string ⟨#[]⟩, .slice none 0 0] 70) := ⟨_, rfl⟩
      have HR4 : Hid (Rk w4 K xb fv rv (.slice adt X.length capt) F X) := by rw [hw4]; exact HH.out.below (below_new W _)
      have HS4 : Hid (Stp W K w4 K) := by rw [hw4]; exact Stp.ofBelow (below_new W _)
      have HEB : Hid (Cel w4 W.heap.size 70 #[.int .i64 2, .int .i64 4, str f, .string ⟨#[]⟩, .slice none 0 0]) := by rw [hw4]; exact Cel.new W 70 _
      have HNE : Hid (¬ K W.heap.size) := HNK.out
      have HLV : Hid (Ot w4 (fun _ => False) (.slice none 0 0) []) := Ot.none _
      have HLB : Hid (∀ i, (Value.slice none 0 0).ownBlock = some i → W.heap.size ≤ i) := fun i hi => by simp [Value.ownBlock] at hi
      rw [← hw4]
      clear hw4 hb1 HR1 HPU CE
      have HCB : Hid (∀ W', Below w4.heap.size w4 W' → Cel W' W.heap.size 70 #[.int .i64 2, .int .i64 4, str f, .string ⟨#[]⟩, .slice none 0 0]) := fun W' hb => HEB.out.below hb HEB.out.lt
      have HRB : Hid (∀ W', Below w4.heap.size w4 W' → W'.cell? ⟨xb, 2, none⟩ = some (.slice adt X.length capt) ∧ W'.ownsRow 0 70 5 (.slice adt X.length capt) X.length (evCs X)) := fun W' hb => ⟨(HR4.out.below hb).xc.cell 2, (HR4.out.below hb).er⟩
      have HFN : Hid (∀ (ad5 : Option Addr) (n5 cap5 : Nat) (w5 : World), w5.ownsRow 0 70 5 (.slice ad5 n5 cap5) (X.length + 1) (evCs X ++ evC ⟨2, 4, f, [], []⟩ (.slice none 0 0)) → (w4.drew.alloc (.cells #[.int .i64 2, .int .i64 4, str f, .string ⟨#[]⟩, .slice none 0 0] 70)).grownBy w5 (Value.slice adt X.length capt).ownBlock → ((Value.slice ad5 n5 cap5).ownBlock = (Value.slice adt X.length capt).ownBlock ∨ (Value.slice ad5 n5 cap5).ownBlock = some (w4.drew.alloc (.cells #[.int .i64 2, .int .i64 4, str f, .string ⟨#[]⟩, .slice none 0 0] 70)).heap.size) → After W K xb fv rv F X ⟨2, 4, f, [], []⟩ (.slice none 0 0) K w4 w5 (.slice ad5 n5 cap5) (.slice adt X.length capt)) := fun ad5 n5 cap5 w5 q1 q2 q3 => note_after HR4.out HS4.out ⟨2, 4, f, [], []⟩ (.slice none 0 0) HLV.out HLB.out rfl q1 q2 q3
      have hS0 : ToldE W.heap.size #[.int .i64 2, .int .i64 4, str f, .string ⟨#[]⟩, .slice none 0 0] (World.drew w4) := HCB.out _ (Below.refl _ _).drew
      refine wp_region_held (S := ToldE W.heap.size #[.int .i64 2, .int .i64 4, str f, .string ⟨#[]⟩, .slice none 0 0]) (by kernel_rfl) ?_
      change wpAnyH _ _ _ _ _ _ _ _ (World.drew _)
      refine wpAnyH_take (i := 0) (v := xP xb) rfl (by kernel_rfl) (by kernel_rfl) (by kernel_rfl) (fun _ _ _ h => h) (Yields.yieldsIf (Or.inl ⟨by rfl, by intro wz; go_simp⟩)) hS0 ?_
      try simp only [Act.put, List.getElem_toArray, List.getElem_cons_zero, List.setIfInBounds_toArray, List.set_cons_zero, List.set_cons_succ]
      refine wpAnyH_take (i := 1) (v := xP xb) rfl (by kernel_rfl) (by kernel_rfl) (by kernel_rfl) (fun _ _ _ h => h) (Yields.yieldsIf (Or.inl ⟨by rfl, by intro wz; go_simp⟩)) hS0 ?_
      try simp only [Act.put, List.getElem_toArray, List.getElem_cons_succ, List.getElem_cons_zero, List.setIfInBounds_toArray, List.set_cons_zero, List.set_cons_succ]
      refine wpAnyH_take (i := 2) (v := xP xb) rfl (by kernel_rfl) (by kernel_rfl) (by kernel_rfl) (fun _ _ _ h => h) (Yields.yieldsIf (Or.inl ⟨by rfl, by intro wz; go_simp⟩)) hS0 ?_
      try simp only [Act.put, List.getElem_toArray, List.getElem_cons_succ, List.getElem_cons_zero, List.setIfInBounds_toArray, List.set_cons_zero, List.set_cons_succ]
      refine wpAnyH_take (i := 3) (v := .pointer (some ⟨xb, 2, none⟩)) rfl (by kernel_rfl) (by kernel_rfl) (by kernel_rfl) (fun _ _ _ h => h) (Yields.yieldsIf (Or.inl ⟨by rfl, by intro wz; go_simp⟩)) hS0 ?_
      try simp only [Act.put, List.getElem_toArray, List.getElem_cons_succ, List.getElem_cons_zero, List.setIfInBounds_toArray, List.set_cons_zero, List.set_cons_succ]
      refine wpAnyH_take (i := 5) (v := .agg #[.int .i64 2, .int .i64 4, str f, .string ⟨#[]⟩, .slice none 0 0]) rfl (by kernel_rfl) (by kernel_rfl) (by kernel_rfl) (fun _ _ _ h => h) (Or.inl ⟨by rfl, fun wz hS => by have s0 := hS.out.cell 0; have s1 := hS.out.cell 1; have s2 := hS.out.cell 2; have s3 := hS.out.cell 3; have s4 := hS.out.cell 4; go_simp⟩) hS0 ?_
      try simp only [Act.put, List.getElem_toArray, List.getElem_cons_succ, List.getElem_cons_zero, List.setIfInBounds_toArray, List.set_cons_zero, List.set_cons_succ]
      refine wpAnyH_ready (rs := [4, 6]) (by kernel_rfl) (by simp) ?_
      refine AllReadyH.cons rfl (fun K' hK => ?_) ?_
      · have c2 := (HRB.out _ (Below.refl _ w4).drew).1
        go_simp
        refine hK.out _ _ hS0 (fun _ => ?_)
        clear hK K' c2
        try simp only [Act.put, List.getElem_toArray, List.getElem_cons_succ, List.getElem_cons_zero, List.setIfInBounds_toArray, List.set_cons_zero, List.set_cons_succ]
        refine wpAnyH_ready (rs := [6]) (by kernel_rfl) (by simp) ?_
        refine AllReadyH.cons rfl (fun K' hK => ?_) AllReadyH.nil
        go_simp
        refine hK.out _ _ (HCB.out _ (((Below.refl _ w4).drew).alloc (Nat.le_refl _) _)) (fun _ => ?_)
        clear hK K'
        try simp only [Act.put, List.getElem_toArray, List.getElem_cons_succ, List.getElem_cons_zero, List.setIfInBounds_toArray, List.set_cons_zero, List.set_cons_succ]
        have hbA : Below w4.heap.size w4 (w4.drew.alloc (.cells #[.int .i64 2, .int .i64 4, str f, .string ⟨#[]⟩, .slice none 0 0] 70)) := ((Below.refl _ w4).drew).alloc (Nat.le_refl _) _
        refine wpAnyH_ready (rs := [7]) (by kernel_rfl) (by simp) ?_
        refine AllReadyH.cons rfl (fun K' hK => ?_) AllReadyH.nil
        refine step_append _ _ 52 rfl 0 70 i0 _ 5 72 Tryd.underlying52 hi0 hz0 hz1 hz2 rfl (by decide) (.slice adt X.length capt) X.length (evCs X) rfl (HRB.out _ hbA).2 ⟨w4.heap.size, 0, none⟩ 1 1 (evC ⟨2, 4, f, [], []⟩ (.slice none 0 0)) rfl rfl (cells_new w4.drew _ 70) (evC_one _ _ _) (by have := maxLen_big; omega) (by omega) (Nat.zero_le _) ?_
        intro v5 w5 hown5 hgrow5 _ hat5
        obtain ⟨ad5, n5, cap5, rfl⟩ := owns_form hown5
        have HNT : Hid _ := HFN.out ad5 n5 cap5 w5 hown5 hgrow5 hat5
        clear hown5 hgrow5 hat5
        have c5 := HNT.out.c5
        have f5 := HNT.out.f5
        have hS5 : ToldE W.heap.size #[.int .i64 2, .int .i64 4, str f, .string ⟨#[]⟩, .slice none 0 0] w5 := HNT.out.k5 HEB.out HNE.out
        refine hK.out _ _ hS5 (fun _ => ?_)
        clear hK K'
        try simp only [Act.put, List.getElem_toArray, List.getElem_cons_succ, List.getElem_cons_zero, List.setIfInBounds_toArray, List.set_cons_zero, List.set_cons_succ]
        clear hS0
        have hS0 := hS5
        refine wpAnyH_take (i := 8) (v := xP xb) rfl (by kernel_rfl) (by kernel_rfl) (by kernel_rfl) (fun _ _ _ h => h) (Yields.yieldsIf (Or.inl ⟨by rfl, by intro wz; go_simp⟩)) hS0 ?_
        try simp only [Act.put, List.getElem_toArray, List.getElem_cons_succ, List.getElem_cons_zero, List.setIfInBounds_toArray, List.set_cons_zero, List.set_cons_succ]
        refine wpAnyH_take (i := 9) (v := .pointer (some ⟨xb, 2, none⟩)) rfl (by kernel_rfl) (by kernel_rfl) (by kernel_rfl) (fun _ _ _ h => h) (Yields.yieldsIf (Or.inl ⟨by rfl, by intro wz; go_simp⟩)) hS0 ?_
        try simp only [Act.put, List.getElem_toArray, List.getElem_cons_succ, List.getElem_cons_zero, List.setIfInBounds_toArray, List.set_cons_zero, List.set_cons_succ]
        refine wpAnyH_ready (rs := [10]) (by kernel_rfl) (by simp) ?_
        refine AllReadyH.cons rfl (fun K' hK => ?_) AllReadyH.nil
        go_simp
        refine hK.out _ _ (HNT.out.k6 HEB.out HNE.out) (fun _ => ?_)
        clear hK K'
        try simp only [Act.put, List.getElem_toArray, List.getElem_cons_succ, List.getElem_cons_zero, List.setIfInBounds_toArray, List.set_cons_zero, List.set_cons_succ]
        refine wpAnyH_done (by kernel_rfl) ?_ _
        clear hS0 hS5 c5 f5
        obtain ⟨w6, hw6⟩ : ∃ w6, w6 = w5.setCell ⟨xb, 2, none⟩ (.slice ad5 n5 cap5) := ⟨_, rfl⟩
        have HE6 : Hid (∀ {b t : Nat} {cs' : Array Value}, Cel w4 b t cs' → ¬ K b → Cel w6 b t cs') := fun h1 h2 => by rw [hw6]; exact HNT.out.k6 h1 h2
        have HF6 : Hid (Fin W K xb rv F X [⟨2, 4, f, [], []⟩] w6) := by rw [hw6]; exact HNT.out.fin
        rw [← hw6]
        clear hw6 HNT HFN HRB HCB
        have z1 := (HE6.out HEB.out HNE.out).cell 1
        go_wp2_with fail
        go_quiet (fail)
        go_wp2_with fail
        go_ret2
        exact ⟨rfl, HF6.out.drewN _⟩
      refine AllReadyH.cons rfl (fun K' hK => ?_) AllReadyH.nil
      go_simp
      refine hK.out _ _ (HCB.out _ (((Below.refl _ w4).drew).alloc (Nat.le_refl _) _)) (fun _ => ?_)
      clear hK K'
      try simp only [Act.put, List.getElem_toArray, List.getElem_cons_succ, List.getElem_cons_zero, List.setIfInBounds_toArray, List.set_cons_zero, List.set_cons_succ]
      have c2 := (HRB.out (w4.alloc (.cells #[.int .i64 2, .int .i64 4, str f, .string ⟨#[]⟩, .slice none 0 0] 70)) (below_new w4 _)).1
      refine wpAnyH_ready (rs := [4]) (by kernel_rfl) (by simp) ?_
      refine AllReadyH.cons rfl (fun K' hK => ?_) AllReadyH.nil
      go_simp
      refine hK.out _ _ (HCB.out _ (((Below.refl _ w4).drew).alloc (Nat.le_refl _) _)) (fun _ => ?_)
      clear hK K' c2
      try simp only [Act.put, List.getElem_toArray, List.getElem_cons_succ, List.getElem_cons_zero, List.setIfInBounds_toArray, List.set_cons_zero, List.set_cons_succ]
      have hbA : Below w4.heap.size w4 (w4.drew.alloc (.cells #[.int .i64 2, .int .i64 4, str f, .string ⟨#[]⟩, .slice none 0 0] 70)) := ((Below.refl _ w4).drew).alloc (Nat.le_refl _) _
      refine wpAnyH_ready (rs := [7]) (by kernel_rfl) (by simp) ?_
      refine AllReadyH.cons rfl (fun K' hK => ?_) AllReadyH.nil
      refine step_append _ _ 52 rfl 0 70 i0 _ 5 72 Tryd.underlying52 hi0 hz0 hz1 hz2 rfl (by decide) (.slice adt X.length capt) X.length (evCs X) rfl (HRB.out _ hbA).2 ⟨w4.heap.size, 0, none⟩ 1 1 (evC ⟨2, 4, f, [], []⟩ (.slice none 0 0)) rfl rfl (cells_new w4.drew _ 70) (evC_one _ _ _) (by have := maxLen_big; omega) (by omega) (Nat.zero_le _) ?_
      intro v5 w5 hown5 hgrow5 _ hat5
      obtain ⟨ad5, n5, cap5, rfl⟩ := owns_form hown5
      have HNT : Hid _ := HFN.out ad5 n5 cap5 w5 hown5 hgrow5 hat5
      clear hown5 hgrow5 hat5
      have c5 := HNT.out.c5
      have f5 := HNT.out.f5
      have hS5 : ToldE W.heap.size #[.int .i64 2, .int .i64 4, str f, .string ⟨#[]⟩, .slice none 0 0] w5 := HNT.out.k5 HEB.out HNE.out
      refine hK.out _ _ hS5 (fun _ => ?_)
      clear hK K'
      try simp only [Act.put, List.getElem_toArray, List.getElem_cons_succ, List.getElem_cons_zero, List.setIfInBounds_toArray, List.set_cons_zero, List.set_cons_succ]
      clear hS0
      have hS0 := hS5
      refine wpAnyH_take (i := 8) (v := xP xb) rfl (by kernel_rfl) (by kernel_rfl) (by kernel_rfl) (fun _ _ _ h => h) (Yields.yieldsIf (Or.inl ⟨by rfl, by intro wz; go_simp⟩)) hS0 ?_
      try simp only [Act.put, List.getElem_toArray, List.getElem_cons_succ, List.getElem_cons_zero, List.setIfInBounds_toArray, List.set_cons_zero, List.set_cons_succ]
      refine wpAnyH_take (i := 9) (v := .pointer (some ⟨xb, 2, none⟩)) rfl (by kernel_rfl) (by kernel_rfl) (by kernel_rfl) (fun _ _ _ h => h) (Yields.yieldsIf (Or.inl ⟨by rfl, by intro wz; go_simp⟩)) hS0 ?_
      try simp only [Act.put, List.getElem_toArray, List.getElem_cons_succ, List.getElem_cons_zero, List.setIfInBounds_toArray, List.set_cons_zero, List.set_cons_succ]
      refine wpAnyH_ready (rs := [10]) (by kernel_rfl) (by simp) ?_
      refine AllReadyH.cons rfl (fun K' hK => ?_) AllReadyH.nil
      go_simp
      refine hK.out _ _ (HNT.out.k6 HEB.out HNE.out) (fun _ => ?_)
      clear hK K'
      try simp only [Act.put, List.getElem_toArray, List.getElem_cons_succ, List.getElem_cons_zero, List.setIfInBounds_toArray, List.set_cons_zero, List.set_cons_succ]
      refine wpAnyH_done (by kernel_rfl) ?_ _
      clear hS0 hS5 c5 f5
      obtain ⟨w6, hw6⟩ : ∃ w6, w6 = w5.setCell ⟨xb, 2, none⟩ (.slice ad5 n5 cap5) := ⟨_, rfl⟩
      have HE6 : Hid (∀ {b t : Nat} {cs' : Array Value}, Cel w4 b t cs' → ¬ K b → Cel w6 b t cs') := fun h1 h2 => by rw [hw6]; exact HNT.out.k6 h1 h2
      have HF6 : Hid (Fin W K xb rv F X [⟨2, 4, f, [], []⟩] w6) := by rw [hw6]; exact HNT.out.fin
      rw [← hw6]
      clear hw6 HNT HFN HRB HCB
      have z1 := (HE6.out HEB.out HNE.out).cell 1
      go_wp2_with fail
      go_quiet (fail)
      go_wp2_with fail
      go_ret2
      exact ⟨rfl, HF6.out.drewN _⟩
    · have e1 : openD F f 1 = p.2 := by simp [openD, hd]
      have e2 : openB F f 1 = true := by simp [openB, hh]
      have e3 : openF F f 1 = F := rfl
      have e4 : openE F f 1 = [⟨2, 1, f, [], []⟩] := by simp [openE, hh]
      rw [e1, e2, e3, e4]
      rw [hix] at HFI
      have hil := (List.getElem?_eq_some_iff.1 hp).1
      have c0 := HR1.out.xc.cell 0
      obtain ⟨g, cap, hv, hcap, d0, d1⟩ := fl_at HR1.out.fr hp
      subst hv
      clear e1 e2 e3 e4 hix hd hh hp hpk d0
      go_enter Tryd.func21, Tryd.ntmps21
      go_wp2_with fail
      refine HFI.out.mono ?_
      rintro e w2 ⟨rfl, hw2⟩
      obtain rfl := hw2.symm
      clear hw2 HFI
      simp only [idxV]
      go_upto_region 12 with fail
      obtain ⟨w4, hw4⟩ : ∃ w4, w4 = W.alloc (.cells #[.int .i64 2, .int .i64 1, str f, .string ⟨#[]⟩, .slice none 0 0] 70) := ⟨_, rfl⟩
      have HR4 : Hid (Rk w4 K xb (.slice (some ⟨g, 0, none⟩) F.length cap) rv (.slice adt X.length capt) F X) := by rw [hw4]; exact HH.out.below (below_new W _)
      have HS4 : Hid (Stp W K w4 K) := by rw [hw4]; exact Stp.ofBelow (below_new W _)
      have HEB : Hid (Cel w4 W.heap.size 70 #[.int .i64 2, .int .i64 1, str f, .string ⟨#[]⟩, .slice none 0 0]) := by rw [hw4]; exact Cel.new W 70 _
      have HNE : Hid (¬ K W.heap.size) := HNK.out
      have HLV : Hid (Ot w4 (fun _ => False) (.slice none 0 0) []) := Ot.none _
      have HLB : Hid (∀ i, (Value.slice none 0 0).ownBlock = some i → W.heap.size ≤ i) := fun i hi => by simp [Value.ownBlock] at hi
      rw [← hw4]
      clear hw4 hb1 HR1 HPU CE
      clear c0 d1
      have HCB : Hid (∀ W', Below w4.heap.size w4 W' → Cel W' W.heap.size 70 #[.int .i64 2, .int .i64 1, str f, .string ⟨#[]⟩, .slice none 0 0]) := fun W' hb => HEB.out.below hb HEB.out.lt
      have HRB : Hid (∀ W', Below w4.heap.size w4 W' → W'.cell? ⟨xb, 2, none⟩ = some (.slice adt X.length capt) ∧ W'.ownsRow 0 70 5 (.slice adt X.length capt) X.length (evCs X)) := fun W' hb => ⟨(HR4.out.below hb).xc.cell 2, (HR4.out.below hb).er⟩
      have HFN : Hid (∀ (ad5 : Option Addr) (n5 cap5 : Nat) (w5 : World), w5.ownsRow 0 70 5 (.slice ad5 n5 cap5) (X.length + 1) (evCs X ++ evC ⟨2, 1, f, [], []⟩ (.slice none 0 0)) → (w4.drew.alloc (.cells #[.int .i64 2, .int .i64 1, str f, .string ⟨#[]⟩, .slice none 0 0] 70)).grownBy w5 (Value.slice adt X.length capt).ownBlock → ((Value.slice ad5 n5 cap5).ownBlock = (Value.slice adt X.length capt).ownBlock ∨ (Value.slice ad5 n5 cap5).ownBlock = some (w4.drew.alloc (.cells #[.int .i64 2, .int .i64 1, str f, .string ⟨#[]⟩, .slice none 0 0] 70)).heap.size) → After W K xb (.slice (some ⟨g, 0, none⟩) F.length cap) rv F X ⟨2, 1, f, [], []⟩ (.slice none 0 0) K w4 w5 (.slice ad5 n5 cap5) (.slice adt X.length capt)) := fun ad5 n5 cap5 w5 q1 q2 q3 => note_after HR4.out HS4.out ⟨2, 1, f, [], []⟩ (.slice none 0 0) HLV.out HLB.out rfl q1 q2 q3
      have hS0 : ToldE W.heap.size #[.int .i64 2, .int .i64 1, str f, .string ⟨#[]⟩, .slice none 0 0] (World.drew w4) := HCB.out _ (Below.refl _ _).drew
      refine wp_region_held (S := ToldE W.heap.size #[.int .i64 2, .int .i64 1, str f, .string ⟨#[]⟩, .slice none 0 0]) (by kernel_rfl) ?_
      change wpAnyH _ _ _ _ _ _ _ _ (World.drew _)
      refine wpAnyH_take (i := 0) (v := xP xb) rfl (by kernel_rfl) (by kernel_rfl) (by kernel_rfl) (fun _ _ _ h => h) (Yields.yieldsIf (Or.inl ⟨by rfl, by intro wz; go_simp⟩)) hS0 ?_
      try simp only [Act.put, List.getElem_toArray, List.getElem_cons_zero, List.setIfInBounds_toArray, List.set_cons_zero, List.set_cons_succ]
      refine wpAnyH_take (i := 1) (v := xP xb) rfl (by kernel_rfl) (by kernel_rfl) (by kernel_rfl) (fun _ _ _ h => h) (Yields.yieldsIf (Or.inl ⟨by rfl, by intro wz; go_simp⟩)) hS0 ?_
      try simp only [Act.put, List.getElem_toArray, List.getElem_cons_succ, List.getElem_cons_zero, List.setIfInBounds_toArray, List.set_cons_zero, List.set_cons_succ]
      refine wpAnyH_take (i := 2) (v := xP xb) rfl (by kernel_rfl) (by kernel_rfl) (by kernel_rfl) (fun _ _ _ h => h) (Yields.yieldsIf (Or.inl ⟨by rfl, by intro wz; go_simp⟩)) hS0 ?_
      try simp only [Act.put, List.getElem_toArray, List.getElem_cons_succ, List.getElem_cons_zero, List.setIfInBounds_toArray, List.set_cons_zero, List.set_cons_succ]
      refine wpAnyH_take (i := 3) (v := .pointer (some ⟨xb, 2, none⟩)) rfl (by kernel_rfl) (by kernel_rfl) (by kernel_rfl) (fun _ _ _ h => h) (Yields.yieldsIf (Or.inl ⟨by rfl, by intro wz; go_simp⟩)) hS0 ?_
      try simp only [Act.put, List.getElem_toArray, List.getElem_cons_succ, List.getElem_cons_zero, List.setIfInBounds_toArray, List.set_cons_zero, List.set_cons_succ]
      refine wpAnyH_take (i := 5) (v := .agg #[.int .i64 2, .int .i64 1, str f, .string ⟨#[]⟩, .slice none 0 0]) rfl (by kernel_rfl) (by kernel_rfl) (by kernel_rfl) (fun _ _ _ h => h) (Or.inl ⟨by rfl, fun wz hS => by have s0 := hS.out.cell 0; have s1 := hS.out.cell 1; have s2 := hS.out.cell 2; have s3 := hS.out.cell 3; have s4 := hS.out.cell 4; go_simp⟩) hS0 ?_
      try simp only [Act.put, List.getElem_toArray, List.getElem_cons_succ, List.getElem_cons_zero, List.setIfInBounds_toArray, List.set_cons_zero, List.set_cons_succ]
      refine wpAnyH_ready (rs := [4, 6]) (by kernel_rfl) (by simp) ?_
      refine AllReadyH.cons rfl (fun K' hK => ?_) ?_
      · have c2 := (HRB.out _ (Below.refl _ w4).drew).1
        go_simp
        refine hK.out _ _ hS0 (fun _ => ?_)
        clear hK K' c2
        try simp only [Act.put, List.getElem_toArray, List.getElem_cons_succ, List.getElem_cons_zero, List.setIfInBounds_toArray, List.set_cons_zero, List.set_cons_succ]
        refine wpAnyH_ready (rs := [6]) (by kernel_rfl) (by simp) ?_
        refine AllReadyH.cons rfl (fun K' hK => ?_) AllReadyH.nil
        go_simp
        refine hK.out _ _ (HCB.out _ (((Below.refl _ w4).drew).alloc (Nat.le_refl _) _)) (fun _ => ?_)
        clear hK K'
        try simp only [Act.put, List.getElem_toArray, List.getElem_cons_succ, List.getElem_cons_zero, List.setIfInBounds_toArray, List.set_cons_zero, List.set_cons_succ]
        have hbA : Below w4.heap.size w4 (w4.drew.alloc (.cells #[.int .i64 2, .int .i64 1, str f, .string ⟨#[]⟩, .slice none 0 0] 70)) := ((Below.refl _ w4).drew).alloc (Nat.le_refl _) _
        refine wpAnyH_ready (rs := [7]) (by kernel_rfl) (by simp) ?_
        refine AllReadyH.cons rfl (fun K' hK => ?_) AllReadyH.nil
        refine step_append _ _ 52 rfl 0 70 i0 _ 5 72 Tryd.underlying52 hi0 hz0 hz1 hz2 rfl (by decide) (.slice adt X.length capt) X.length (evCs X) rfl (HRB.out _ hbA).2 ⟨w4.heap.size, 0, none⟩ 1 1 (evC ⟨2, 1, f, [], []⟩ (.slice none 0 0)) rfl rfl (cells_new w4.drew _ 70) (evC_one _ _ _) (by have := maxLen_big; omega) (by omega) (Nat.zero_le _) ?_
        intro v5 w5 hown5 hgrow5 _ hat5
        obtain ⟨ad5, n5, cap5, rfl⟩ := owns_form hown5
        have HNT : Hid _ := HFN.out ad5 n5 cap5 w5 hown5 hgrow5 hat5
        clear hown5 hgrow5 hat5
        have c5 := HNT.out.c5
        have f5 := HNT.out.f5
        have hS5 : ToldE W.heap.size #[.int .i64 2, .int .i64 1, str f, .string ⟨#[]⟩, .slice none 0 0] w5 := HNT.out.k5 HEB.out HNE.out
        refine hK.out _ _ hS5 (fun _ => ?_)
        clear hK K'
        try simp only [Act.put, List.getElem_toArray, List.getElem_cons_succ, List.getElem_cons_zero, List.setIfInBounds_toArray, List.set_cons_zero, List.set_cons_succ]
        clear hS0
        have hS0 := hS5
        refine wpAnyH_take (i := 8) (v := xP xb) rfl (by kernel_rfl) (by kernel_rfl) (by kernel_rfl) (fun _ _ _ h => h) (Yields.yieldsIf (Or.inl ⟨by rfl, by intro wz; go_simp⟩)) hS0 ?_
        try simp only [Act.put, List.getElem_toArray, List.getElem_cons_succ, List.getElem_cons_zero, List.setIfInBounds_toArray, List.set_cons_zero, List.set_cons_succ]
        refine wpAnyH_take (i := 9) (v := .pointer (some ⟨xb, 2, none⟩)) rfl (by kernel_rfl) (by kernel_rfl) (by kernel_rfl) (fun _ _ _ h => h) (Yields.yieldsIf (Or.inl ⟨by rfl, by intro wz; go_simp⟩)) hS0 ?_
        try simp only [Act.put, List.getElem_toArray, List.getElem_cons_succ, List.getElem_cons_zero, List.setIfInBounds_toArray, List.set_cons_zero, List.set_cons_succ]
        refine wpAnyH_ready (rs := [10]) (by kernel_rfl) (by simp) ?_
        refine AllReadyH.cons rfl (fun K' hK => ?_) AllReadyH.nil
        go_simp
        refine hK.out _ _ (HNT.out.k6 HEB.out HNE.out) (fun _ => ?_)
        clear hK K'
        try simp only [Act.put, List.getElem_toArray, List.getElem_cons_succ, List.getElem_cons_zero, List.setIfInBounds_toArray, List.set_cons_zero, List.set_cons_succ]
        refine wpAnyH_done (by kernel_rfl) ?_ _
        clear hS0 hS5 c5 f5
        obtain ⟨w6, hw6⟩ : ∃ w6, w6 = w5.setCell ⟨xb, 2, none⟩ (.slice ad5 n5 cap5) := ⟨_, rfl⟩
        have HE6 : Hid (∀ {b t : Nat} {cs' : Array Value}, Cel w4 b t cs' → ¬ K b → Cel w6 b t cs') := fun h1 h2 => by rw [hw6]; exact HNT.out.k6 h1 h2
        have HF6 : Hid (Fin W K xb rv F X [⟨2, 1, f, [], []⟩] w6) := by rw [hw6]; exact HNT.out.fin
        rw [← hw6]
        clear hw6 HNT HFN HRB HCB
        have z1 := (HE6.out HEB.out HNE.out).cell 1
        go_wp2_with fail
        go_quiet (fail)
        go_wp2_with fail
        go_ret2
        exact ⟨rfl, HF6.out.drewN _⟩
      refine AllReadyH.cons rfl (fun K' hK => ?_) AllReadyH.nil
      go_simp
      refine hK.out _ _ (HCB.out _ (((Below.refl _ w4).drew).alloc (Nat.le_refl _) _)) (fun _ => ?_)
      clear hK K'
      try simp only [Act.put, List.getElem_toArray, List.getElem_cons_succ, List.getElem_cons_zero, List.setIfInBounds_toArray, List.set_cons_zero, List.set_cons_succ]
      have c2 := (HRB.out (w4.alloc (.cells #[.int .i64 2, .int .i64 1, str f, .string ⟨#[]⟩, .slice none 0 0] 70)) (below_new w4 _)).1
      refine wpAnyH_ready (rs := [4]) (by kernel_rfl) (by simp) ?_
      refine AllReadyH.cons rfl (fun K' hK => ?_) AllReadyH.nil
      go_simp
      refine hK.out _ _ (HCB.out _ (((Below.refl _ w4).drew).alloc (Nat.le_refl _) _)) (fun _ => ?_)
      clear hK K' c2
      try simp only [Act.put, List.getElem_toArray, List.getElem_cons_succ, List.getElem_cons_zero, List.setIfInBounds_toArray, List.set_cons_zero, List.set_cons_succ]
      have hbA : Below w4.heap.size w4 (w4.drew.alloc (.cells #[.int .i64 2, .int .i64 1, str f, .string ⟨#[]⟩, .slice none 0 0] 70)) := ((Below.refl _ w4).drew).alloc (Nat.le_refl _) _
      refine wpAnyH_ready (rs := [7]) (by kernel_rfl) (by simp) ?_
      refine AllReadyH.cons rfl (fun K' hK => ?_) AllReadyH.nil
      refine step_append _ _ 52 rfl 0 70 i0 _ 5 72 Tryd.underlying52 hi0 hz0 hz1 hz2 rfl (by decide) (.slice adt X.length capt) X.length (evCs X) rfl (HRB.out _ hbA).2 ⟨w4.heap.size, 0, none⟩ 1 1 (evC ⟨2, 1, f, [], []⟩ (.slice none 0 0)) rfl rfl (cells_new w4.drew _ 70) (evC_one _ _ _) (by have := maxLen_big; omega) (by omega) (Nat.zero_le _) ?_
      intro v5 w5 hown5 hgrow5 _ hat5
      obtain ⟨ad5, n5, cap5, rfl⟩ := owns_form hown5
      have HNT : Hid _ := HFN.out ad5 n5 cap5 w5 hown5 hgrow5 hat5
      clear hown5 hgrow5 hat5
      have c5 := HNT.out.c5
      have f5 := HNT.out.f5
      have hS5 : ToldE W.heap.size #[.int .i64 2, .int .i64 1, str f, .string ⟨#[]⟩, .slice none 0 0] w5 := HNT.out.k5 HEB.out HNE.out
      refine hK.out _ _ hS5 (fun _ => ?_)
      clear hK K'
      try simp only [Act.put, List.getElem_toArray, List.getElem_cons_succ, List.getElem_cons_zero, List.setIfInBounds_toArray, List.set_cons_zero, List.set_cons_succ]
      clear hS0
      have hS0 := hS5
      refine wpAnyH_take (i := 8) (v := xP xb) rfl (by kernel_rfl) (by kernel_rfl) (by kernel_rfl) (fun _ _ _ h => h) (Yields.yieldsIf (Or.inl ⟨by rfl, by intro wz; go_simp⟩)) hS0 ?_
      try simp only [Act.put, List.getElem_toArray, List.getElem_cons_succ, List.getElem_cons_zero, List.setIfInBounds_toArray, List.set_cons_zero, List.set_cons_succ]
      refine wpAnyH_take (i := 9) (v := .pointer (some ⟨xb, 2, none⟩)) rfl (by kernel_rfl) (by kernel_rfl) (by kernel_rfl) (fun _ _ _ h => h) (Yields.yieldsIf (Or.inl ⟨by rfl, by intro wz; go_simp⟩)) hS0 ?_
      try simp only [Act.put, List.getElem_toArray, List.getElem_cons_succ, List.getElem_cons_zero, List.setIfInBounds_toArray, List.set_cons_zero, List.set_cons_succ]
      refine wpAnyH_ready (rs := [10]) (by kernel_rfl) (by simp) ?_
      refine AllReadyH.cons rfl (fun K' hK => ?_) AllReadyH.nil
      go_simp
      refine hK.out _ _ (HNT.out.k6 HEB.out HNE.out) (fun _ => ?_)
      clear hK K'
      try simp only [Act.put, List.getElem_toArray, List.getElem_cons_succ, List.getElem_cons_zero, List.setIfInBounds_toArray, List.set_cons_zero, List.set_cons_succ]
      refine wpAnyH_done (by kernel_rfl) ?_ _
      clear hS0 hS5 c5 f5
      obtain ⟨w6, hw6⟩ : ∃ w6, w6 = w5.setCell ⟨xb, 2, none⟩ (.slice ad5 n5 cap5) := ⟨_, rfl⟩
      have HE6 : Hid (∀ {b t : Nat} {cs' : Array Value}, Cel w4 b t cs' → ¬ K b → Cel w6 b t cs') := fun h1 h2 => by rw [hw6]; exact HNT.out.k6 h1 h2
      have HF6 : Hid (Fin W K xb rv F X [⟨2, 1, f, [], []⟩] w6) := by rw [hw6]; exact HNT.out.fin
      rw [← hw6]
      clear hw6 HNT HFN HRB HCB
      have z1 := (HE6.out HEB.out HNE.out).cell 1
      go_wp2_with fail
      go_quiet (fail)
      go_wp2_with fail
      go_ret2
      exact ⟨rfl, HF6.out.drewN _⟩
  · have hb1 : Below W.heap.size W (W.alloc (.cells #[.int .i64 2, .int .i64 2, str f, .string ⟨#[]⟩, .slice none 0 0] 70)) := below_new W _
    have HR1 : Hid (Rk (W.alloc (.cells #[.int .i64 2, .int .i64 2, str f, .string ⟨#[]⟩, .slice none 0 0] 70)) K xb fv rv (.slice adt X.length capt) F X) := HH.out.below hb1
    have HFI : Hid (Calls Tryd.prog 52 #[xP xb, str f] (W.alloc (.cells #[.int .i64 2, .int .i64 2, str f, .string ⟨#[]⟩, .slice none 0 0] 70)) fun e w' => e = .returned (.int .i64 (idxV (idxF F f))) ∧ w' = W.alloc (.cells #[.int .i64 2, .int .i64 2, str f, .string ⟨#[]⟩, .slice none 0 0] 70)) := rfind_any HR1.out f hF
    have HPU : Hid (Calls Tryd.prog 48 #[xP xb, .agg #[str f, str []]] (W.alloc (.cells #[.int .i64 2, .int .i64 2, str f, .string ⟨#[]⟩, .slice none 0 0] 70)) fun e w' => e = .returned (.tuple #[]) ∧ ∃ fv' K', Rk w' K' xb fv' rv (.slice adt X.length capt) (putF F f []) X ∧ Stp (W.alloc (.cells #[.int .i64 2, .int .i64 2, str f, .string ⟨#[]⟩, .slice none 0 0] 70)) K w' K') := rput_any HR1.out f [] hF HRI.out
    have CE : Hid (Cel (W.alloc (.cells #[.int .i64 2, .int .i64 2, str f, .string ⟨#[]⟩, .slice none 0 0] 70)) W.heap.size 70 #[.int .i64 2, .int .i64 2, str f, .string ⟨#[]⟩, .slice none 0 0]) := Cel.new W 70 _
    have HNK : Hid (¬ K W.heap.size) := fun hk => Nat.lt_irrefl _ (HLT.out _ hk)
    have e1 : openD F f 2 = [] := by simp [openD]
    have e2 : openB F f 2 = true := by simp [openB]
    have e3 : openF F f 2 = putF F f [] := by simp [openF]
    have e4 : openE F f 2 = [⟨2, 2, f, [], []⟩] := by simp [openE]
    rw [e1, e2, e3, e4]
    clear e1 e2 e3 e4
    generalize idxV (idxF F f) = ix at HFI
    go_enter Tryd.func21, Tryd.ntmps21
    go_wp2_with fail
    refine HFI.out.mono ?_
    rintro e w2 ⟨rfl, hw2⟩
    obtain rfl := hw2.symm
    clear hw2 HFI
    go_wp2_with fail
    refine HPU.out.mono ?_
    rintro e w4 ⟨rfl, fv4, K4, k1, k2⟩
    have HR4 : Hid (Rk w4 K4 xb fv4 rv (.slice adt X.length capt) (putF F f []) X) := k1
    have HS4 : Hid (Stp W K w4 K4) := (Stp.ofBelow hb1).trans k2
    have HEB : Hid (Cel w4 W.heap.size 70 #[.int .i64 2, .int .i64 2, str f, .string ⟨#[]⟩, .slice none 0 0]) := CE.out.turn k2.1 HNK.out
    have HNE : Hid (¬ K4 W.heap.size) := fun hk => (k2.2 _ hk).elim HNK.out (fun h => by simp at h; omega)
    have HLV : Hid (Ot w4 (fun _ => False) (.slice none 0 0) []) := Ot.none _
    have HLB : Hid (∀ i, (Value.slice none 0 0).ownBlock = some i → W.heap.size ≤ i) := fun i hi => by simp [Value.ownBlock] at hi
    clear k1 k2 hb1 HR1 HPU CE
    go_upto_region 12 with fail
    have HCB : Hid (∀ W', Below w4.heap.size w4 W' → Cel W' W.heap.size 70 #[.int .i64 2, .int .i64 2, str f, .string ⟨#[]⟩, .slice none 0 0]) := fun W' hb => HEB.out.below hb HEB.out.lt
    have HRB : Hid (∀ W', Below w4.heap.size w4 W' → W'.cell? ⟨xb, 2, none⟩ = some (.slice adt X.length capt) ∧ W'.ownsRow 0 70 5 (.slice adt X.length capt) X.length (evCs X)) := fun W' hb => ⟨(HR4.out.below hb).xc.cell 2, (HR4.out.below hb).er⟩
    have HFN : Hid (∀ (ad5 : Option Addr) (n5 cap5 : Nat) (w5 : World), w5.ownsRow 0 70 5 (.slice ad5 n5 cap5) (X.length + 1) (evCs X ++ evC ⟨2, 2, f, [], []⟩ (.slice none 0 0)) → (w4.drew.alloc (.cells #[.int .i64 2, .int .i64 2, str f, .string ⟨#[]⟩, .slice none 0 0] 70)).grownBy w5 (Value.slice adt X.length capt).ownBlock → ((Value.slice ad5 n5 cap5).ownBlock = (Value.slice adt X.length capt).ownBlock ∨ (Value.slice ad5 n5 cap5).ownBlock = some (w4.drew.alloc (.cells #[.int .i64 2, .int .i64 2, str f, .string ⟨#[]⟩, .slice none 0 0] 70)).heap.size) → After W K xb fv4 rv (putF F f []) X ⟨2, 2, f, [], []⟩ (.slice none 0 0) K4 w4 w5 (.slice ad5 n5 cap5) (.slice adt X.length capt)) := fun ad5 n5 cap5 w5 q1 q2 q3 => note_after HR4.out HS4.out ⟨2, 2, f, [], []⟩ (.slice none 0 0) HLV.out HLB.out rfl q1 q2 q3
    have hS0 : ToldE W.heap.size #[.int .i64 2, .int .i64 2, str f, .string ⟨#[]⟩, .slice none 0 0] (World.drew w4) := HCB.out _ (Below.refl _ _).drew
    refine wp_region_held (S := ToldE W.heap.size #[.int .i64 2, .int .i64 2, str f, .string ⟨#[]⟩, .slice none 0 0]) (by kernel_rfl) ?_
    change wpAnyH _ _ _ _ _ _ _ _ (World.drew _)
    refine wpAnyH_take (i := 0) (v := xP xb) rfl (by kernel_rfl) (by kernel_rfl) (by kernel_rfl) (fun _ _ _ h => h) (Yields.yieldsIf (Or.inl ⟨by rfl, by intro wz; go_simp⟩)) hS0 ?_
    try simp only [Act.put, List.getElem_toArray, List.getElem_cons_zero, List.setIfInBounds_toArray, List.set_cons_zero, List.set_cons_succ]
    refine wpAnyH_take (i := 1) (v := xP xb) rfl (by kernel_rfl) (by kernel_rfl) (by kernel_rfl) (fun _ _ _ h => h) (Yields.yieldsIf (Or.inl ⟨by rfl, by intro wz; go_simp⟩)) hS0 ?_
    try simp only [Act.put, List.getElem_toArray, List.getElem_cons_succ, List.getElem_cons_zero, List.setIfInBounds_toArray, List.set_cons_zero, List.set_cons_succ]
    refine wpAnyH_take (i := 2) (v := xP xb) rfl (by kernel_rfl) (by kernel_rfl) (by kernel_rfl) (fun _ _ _ h => h) (Yields.yieldsIf (Or.inl ⟨by rfl, by intro wz; go_simp⟩)) hS0 ?_
    try simp only [Act.put, List.getElem_toArray, List.getElem_cons_succ, List.getElem_cons_zero, List.setIfInBounds_toArray, List.set_cons_zero, List.set_cons_succ]
    refine wpAnyH_take (i := 3) (v := .pointer (some ⟨xb, 2, none⟩)) rfl (by kernel_rfl) (by kernel_rfl) (by kernel_rfl) (fun _ _ _ h => h) (Yields.yieldsIf (Or.inl ⟨by rfl, by intro wz; go_simp⟩)) hS0 ?_
    try simp only [Act.put, List.getElem_toArray, List.getElem_cons_succ, List.getElem_cons_zero, List.setIfInBounds_toArray, List.set_cons_zero, List.set_cons_succ]
    refine wpAnyH_take (i := 5) (v := .agg #[.int .i64 2, .int .i64 2, str f, .string ⟨#[]⟩, .slice none 0 0]) rfl (by kernel_rfl) (by kernel_rfl) (by kernel_rfl) (fun _ _ _ h => h) (Or.inl ⟨by rfl, fun wz hS => by have s0 := hS.out.cell 0; have s1 := hS.out.cell 1; have s2 := hS.out.cell 2; have s3 := hS.out.cell 3; have s4 := hS.out.cell 4; go_simp⟩) hS0 ?_
    try simp only [Act.put, List.getElem_toArray, List.getElem_cons_succ, List.getElem_cons_zero, List.setIfInBounds_toArray, List.set_cons_zero, List.set_cons_succ]
    refine wpAnyH_ready (rs := [4, 6]) (by kernel_rfl) (by simp) ?_
    refine AllReadyH.cons rfl (fun K' hK => ?_) ?_
    · have c2 := (HRB.out _ (Below.refl _ w4).drew).1
      go_simp
      refine hK.out _ _ hS0 (fun _ => ?_)
      clear hK K' c2
      try simp only [Act.put, List.getElem_toArray, List.getElem_cons_succ, List.getElem_cons_zero, List.setIfInBounds_toArray, List.set_cons_zero, List.set_cons_succ]
      refine wpAnyH_ready (rs := [6]) (by kernel_rfl) (by simp) ?_
      refine AllReadyH.cons rfl (fun K' hK => ?_) AllReadyH.nil
      go_simp
      refine hK.out _ _ (HCB.out _ (((Below.refl _ w4).drew).alloc (Nat.le_refl _) _)) (fun _ => ?_)
      clear hK K'
      try simp only [Act.put, List.getElem_toArray, List.getElem_cons_succ, List.getElem_cons_zero, List.setIfInBounds_toArray, List.set_cons_zero, List.set_cons_succ]
      have hbA : Below w4.heap.size w4 (w4.drew.alloc (.cells #[.int .i64 2, .int .i64 2, str f, .string ⟨#[]⟩, .slice none 0 0] 70)) := ((Below.refl _ w4).drew).alloc (Nat.le_refl _) _
      refine wpAnyH_ready (rs := [7]) (by kernel_rfl) (by simp) ?_
      refine AllReadyH.cons rfl (fun K' hK => ?_) AllReadyH.nil
      refine step_append _ _ 52 rfl 0 70 i0 _ 5 72 Tryd.underlying52 hi0 hz0 hz1 hz2 rfl (by decide) (.slice adt X.length capt) X.length (evCs X) rfl (HRB.out _ hbA).2 ⟨w4.heap.size, 0, none⟩ 1 1 (evC ⟨2, 2, f, [], []⟩ (.slice none 0 0)) rfl rfl (cells_new w4.drew _ 70) (evC_one _ _ _) (by have := maxLen_big; omega) (by omega) (Nat.zero_le _) ?_
      intro v5 w5 hown5 hgrow5 _ hat5
      obtain ⟨ad5, n5, cap5, rfl⟩ := owns_form hown5
      have HNT : Hid _ := HFN.out ad5 n5 cap5 w5 hown5 hgrow5 hat5
      clear hown5 hgrow5 hat5
      have c5 := HNT.out.c5
      have f5 := HNT.out.f5
      have hS5 : ToldE W.heap.size #[.int .i64 2, .int .i64 2, str f, .string ⟨#[]⟩, .slice none 0 0] w5 := HNT.out.k5 HEB.out HNE.out
      refine hK.out _ _ hS5 (fun _ => ?_)
      clear hK K'
      try simp only [Act.put, List.getElem_toArray, List.getElem_cons_succ, List.getElem_cons_zero, List.setIfInBounds_toArray, List.set_cons_zero, List.set_cons_succ]
      clear hS0
      have hS0 := hS5
      refine wpAnyH_take (i := 8) (v := xP xb) rfl (by kernel_rfl) (by kernel_rfl) (by kernel_rfl) (fun _ _ _ h => h) (Yields.yieldsIf (Or.inl ⟨by rfl, by intro wz; go_simp⟩)) hS0 ?_
      try simp only [Act.put, List.getElem_toArray, List.getElem_cons_succ, List.getElem_cons_zero, List.setIfInBounds_toArray, List.set_cons_zero, List.set_cons_succ]
      refine wpAnyH_take (i := 9) (v := .pointer (some ⟨xb, 2, none⟩)) rfl (by kernel_rfl) (by kernel_rfl) (by kernel_rfl) (fun _ _ _ h => h) (Yields.yieldsIf (Or.inl ⟨by rfl, by intro wz; go_simp⟩)) hS0 ?_
      try simp only [Act.put, List.getElem_toArray, List.getElem_cons_succ, List.getElem_cons_zero, List.setIfInBounds_toArray, List.set_cons_zero, List.set_cons_succ]
      refine wpAnyH_ready (rs := [10]) (by kernel_rfl) (by simp) ?_
      refine AllReadyH.cons rfl (fun K' hK => ?_) AllReadyH.nil
      go_simp
      refine hK.out _ _ (HNT.out.k6 HEB.out HNE.out) (fun _ => ?_)
      clear hK K'
      try simp only [Act.put, List.getElem_toArray, List.getElem_cons_succ, List.getElem_cons_zero, List.setIfInBounds_toArray, List.set_cons_zero, List.set_cons_succ]
      refine wpAnyH_done (by kernel_rfl) ?_ _
      clear hS0 hS5 c5 f5
      obtain ⟨w6, hw6⟩ : ∃ w6, w6 = w5.setCell ⟨xb, 2, none⟩ (.slice ad5 n5 cap5) := ⟨_, rfl⟩
      have HE6 : Hid (∀ {b t : Nat} {cs' : Array Value}, Cel w4 b t cs' → ¬ K4 b → Cel w6 b t cs') := fun h1 h2 => by rw [hw6]; exact HNT.out.k6 h1 h2
      have HF6 : Hid (Fin W K xb rv (putF F f []) X [⟨2, 2, f, [], []⟩] w6) := by rw [hw6]; exact HNT.out.fin
      rw [← hw6]
      clear hw6 HNT HFN HRB HCB
      have z1 := (HE6.out HEB.out HNE.out).cell 1
      go_wp2_with fail
      go_quiet (fail)
      go_wp2_with fail
      go_ret2
      exact ⟨rfl, HF6.out.drewN _⟩
    refine AllReadyH.cons rfl (fun K' hK => ?_) AllReadyH.nil
    go_simp
    refine hK.out _ _ (HCB.out _ (((Below.refl _ w4).drew).alloc (Nat.le_refl _) _)) (fun _ => ?_)
    clear hK K'
    try simp only [Act.put, List.getElem_toArray, List.getElem_cons_succ, List.getElem_cons_zero, List.setIfInBounds_toArray, List.set_cons_zero, List.set_cons_succ]
    have c2 := (HRB.out (w4.alloc (.cells #[.int .i64 2, .int .i64 2, str f, .string ⟨#[]⟩, .slice none 0 0] 70)) (below_new w4 _)).1
    refine wpAnyH_ready (rs := [4]) (by kernel_rfl) (by simp) ?_
    refine AllReadyH.cons rfl (fun K' hK => ?_) AllReadyH.nil
    go_simp
    refine hK.out _ _ (HCB.out _ (((Below.refl _ w4).drew).alloc (Nat.le_refl _) _)) (fun _ => ?_)
    clear hK K' c2
    try simp only [Act.put, List.getElem_toArray, List.getElem_cons_succ, List.getElem_cons_zero, List.setIfInBounds_toArray, List.set_cons_zero, List.set_cons_succ]
    have hbA : Below w4.heap.size w4 (w4.drew.alloc (.cells #[.int .i64 2, .int .i64 2, str f, .string ⟨#[]⟩, .slice none 0 0] 70)) := ((Below.refl _ w4).drew).alloc (Nat.le_refl _) _
    refine wpAnyH_ready (rs := [7]) (by kernel_rfl) (by simp) ?_
    refine AllReadyH.cons rfl (fun K' hK => ?_) AllReadyH.nil
    refine step_append _ _ 52 rfl 0 70 i0 _ 5 72 Tryd.underlying52 hi0 hz0 hz1 hz2 rfl (by decide) (.slice adt X.length capt) X.length (evCs X) rfl (HRB.out _ hbA).2 ⟨w4.heap.size, 0, none⟩ 1 1 (evC ⟨2, 2, f, [], []⟩ (.slice none 0 0)) rfl rfl (cells_new w4.drew _ 70) (evC_one _ _ _) (by have := maxLen_big; omega) (by omega) (Nat.zero_le _) ?_
    intro v5 w5 hown5 hgrow5 _ hat5
    obtain ⟨ad5, n5, cap5, rfl⟩ := owns_form hown5
    have HNT : Hid _ := HFN.out ad5 n5 cap5 w5 hown5 hgrow5 hat5
    clear hown5 hgrow5 hat5
    have c5 := HNT.out.c5
    have f5 := HNT.out.f5
    have hS5 : ToldE W.heap.size #[.int .i64 2, .int .i64 2, str f, .string ⟨#[]⟩, .slice none 0 0] w5 := HNT.out.k5 HEB.out HNE.out
    refine hK.out _ _ hS5 (fun _ => ?_)
    clear hK K'
    try simp only [Act.put, List.getElem_toArray, List.getElem_cons_succ, List.getElem_cons_zero, List.setIfInBounds_toArray, List.set_cons_zero, List.set_cons_succ]
    clear hS0
    have hS0 := hS5
    refine wpAnyH_take (i := 8) (v := xP xb) rfl (by kernel_rfl) (by kernel_rfl) (by kernel_rfl) (fun _ _ _ h => h) (Yields.yieldsIf (Or.inl ⟨by rfl, by intro wz; go_simp⟩)) hS0 ?_
    try simp only [Act.put, List.getElem_toArray, List.getElem_cons_succ, List.getElem_cons_zero, List.setIfInBounds_toArray, List.set_cons_zero, List.set_cons_succ]
    refine wpAnyH_take (i := 9) (v := .pointer (some ⟨xb, 2, none⟩)) rfl (by kernel_rfl) (by kernel_rfl) (by kernel_rfl) (fun _ _ _ h => h) (Yields.yieldsIf (Or.inl ⟨by rfl, by intro wz; go_simp⟩)) hS0 ?_
    try simp only [Act.put, List.getElem_toArray, List.getElem_cons_succ, List.getElem_cons_zero, List.setIfInBounds_toArray, List.set_cons_zero, List.set_cons_succ]
    refine wpAnyH_ready (rs := [10]) (by kernel_rfl) (by simp) ?_
    refine AllReadyH.cons rfl (fun K' hK => ?_) AllReadyH.nil
    go_simp
    refine hK.out _ _ (HNT.out.k6 HEB.out HNE.out) (fun _ => ?_)
    clear hK K'
    try simp only [Act.put, List.getElem_toArray, List.getElem_cons_succ, List.getElem_cons_zero, List.setIfInBounds_toArray, List.set_cons_zero, List.set_cons_succ]
    refine wpAnyH_done (by kernel_rfl) ?_ _
    clear hS0 hS5 c5 f5
    obtain ⟨w6, hw6⟩ : ∃ w6, w6 = w5.setCell ⟨xb, 2, none⟩ (.slice ad5 n5 cap5) := ⟨_, rfl⟩
    have HE6 : Hid (∀ {b t : Nat} {cs' : Array Value}, Cel w4 b t cs' → ¬ K4 b → Cel w6 b t cs') := fun h1 h2 => by rw [hw6]; exact HNT.out.k6 h1 h2
    have HF6 : Hid (Fin W K xb rv (putF F f []) X [⟨2, 2, f, [], []⟩] w6) := by rw [hw6]; exact HNT.out.fin
    rw [← hw6]
    clear hw6 HNT HFN HRB HCB
    have z1 := (HE6.out HEB.out HNE.out).cell 1
    go_wp2_with fail
    go_quiet (fail)
    go_wp2_with fail
    go_ret2
    exact ⟨rfl, HF6.out.drewN _⟩
  · have hb1 : Below W.heap.size W (W.alloc (.cells #[.int .i64 2, .int .i64 3, str f, .string ⟨#[]⟩, .slice none 0 0] 70)) := below_new W _
    have HR1 : Hid (Rk (W.alloc (.cells #[.int .i64 2, .int .i64 3, str f, .string ⟨#[]⟩, .slice none 0 0] 70)) K xb fv rv (.slice adt X.length capt) F X) := HH.out.below hb1
    have HFI : Hid (Calls Tryd.prog 52 #[xP xb, str f] (W.alloc (.cells #[.int .i64 2, .int .i64 3, str f, .string ⟨#[]⟩, .slice none 0 0] 70)) fun e w' => e = .returned (.int .i64 (idxV (idxF F f))) ∧ w' = W.alloc (.cells #[.int .i64 2, .int .i64 3, str f, .string ⟨#[]⟩, .slice none 0 0] 70)) := rfind_any HR1.out f hF
    have HPU : Hid (Calls Tryd.prog 48 #[xP xb, .agg #[str f, str []]] (W.alloc (.cells #[.int .i64 2, .int .i64 3, str f, .string ⟨#[]⟩, .slice none 0 0] 70)) fun e w' => e = .returned (.tuple #[]) ∧ ∃ fv' K', Rk w' K' xb fv' rv (.slice adt X.length capt) (putF F f []) X ∧ Stp (W.alloc (.cells #[.int .i64 2, .int .i64 3, str f, .string ⟨#[]⟩, .slice none 0 0] 70)) K w' K') := rput_any HR1.out f [] hF HRI.out
    have CE : Hid (Cel (W.alloc (.cells #[.int .i64 2, .int .i64 3, str f, .string ⟨#[]⟩, .slice none 0 0] 70)) W.heap.size 70 #[.int .i64 2, .int .i64 3, str f, .string ⟨#[]⟩, .slice none 0 0]) := Cel.new W 70 _
    have HNK : Hid (¬ K W.heap.size) := fun hk => Nat.lt_irrefl _ (HLT.out _ hk)
    have hcase : (idxF F f = none ∧ datF F f = [] ∧ hasF F f = false) ∨ ∃ i p, idxF F f = some i ∧ F[i]? = some p ∧ p.1 = f ∧ datF F f = p.2 ∧ hasF F f = true := by
      cases hix : idxF F f with
      | none => exact .inl ⟨rfl, (idxF_none hix).1, (idxF_none hix).2⟩
      | some i =>
        obtain ⟨p, h1, h2, h3, h4⟩ := idxF_some hix
        exact .inr ⟨i, p, rfl, h1, h2, h3, h4⟩
    rcases hcase with ⟨hix, hd, hh⟩ | ⟨i, p, hix, hp, hpk, hd, hh⟩
    · have e1 : openD F f 3 = [] := by simp [openD]
      have e2 : openB F f 3 = true := by simp [openB]
      have e3 : openF F f 3 = putF F f [] := by simp [openF, hd]
      have e4 : openE F f 3 = [⟨2, 3, f, [], []⟩] := by simp [openE]
      rw [e1, e2, e3, e4]
      rw [hix] at HFI
      clear e1 e2 e3 e4 hix hd hh
      go_enter Tryd.func21, Tryd.ntmps21
      go_wp2_with fail
      refine HFI.out.mono ?_
      rintro e w2 ⟨rfl, hw2⟩
      obtain rfl := hw2.symm
      clear hw2 HFI
      simp only [idxV]
      go_wp2_with fail
      refine HPU.out.mono ?_
      rintro e w4 ⟨rfl, fv4, K4, k1, k2⟩
      have HR4 : Hid (Rk w4 K4 xb fv4 rv (.slice adt X.length capt) (putF F f []) X) := k1
      have HS4 : Hid (Stp W K w4 K4) := (Stp.ofBelow hb1).trans k2
      have HEB : Hid (Cel w4 W.heap.size 70 #[.int .i64 2, .int .i64 3, str f, .string ⟨#[]⟩, .slice none 0 0]) := CE.out.turn k2.1 HNK.out
      have HNE : Hid (¬ K4 W.heap.size) := fun hk => (k2.2 _ hk).elim HNK.out (fun h => by simp at h; omega)
      have HLV : Hid (Ot w4 (fun _ => False) (.slice none 0 0) []) := Ot.none _
      have HLB : Hid (∀ i, (Value.slice none 0 0).ownBlock = some i → W.heap.size ≤ i) := fun i hi => by simp [Value.ownBlock] at hi
      clear k1 k2 hb1 HR1 HPU CE
      go_upto_region 12 with fail
      have HCB : Hid (∀ W', Below w4.heap.size w4 W' → Cel W' W.heap.size 70 #[.int .i64 2, .int .i64 3, str f, .string ⟨#[]⟩, .slice none 0 0]) := fun W' hb => HEB.out.below hb HEB.out.lt
      have HRB : Hid (∀ W', Below w4.heap.size w4 W' → W'.cell? ⟨xb, 2, none⟩ = some (.slice adt X.length capt) ∧ W'.ownsRow 0 70 5 (.slice adt X.length capt) X.length (evCs X)) := fun W' hb => ⟨(HR4.out.below hb).xc.cell 2, (HR4.out.below hb).er⟩
      have HFN : Hid (∀ (ad5 : Option Addr) (n5 cap5 : Nat) (w5 : World), w5.ownsRow 0 70 5 (.slice ad5 n5 cap5) (X.length + 1) (evCs X ++ evC ⟨2, 3, f, [], []⟩ (.slice none 0 0)) → (w4.drew.alloc (.cells #[.int .i64 2, .int .i64 3, str f, .string ⟨#[]⟩, .slice none 0 0] 70)).grownBy w5 (Value.slice adt X.length capt).ownBlock → ((Value.slice ad5 n5 cap5).ownBlock = (Value.slice adt X.length capt).ownBlock ∨ (Value.slice ad5 n5 cap5).ownBlock = some (w4.drew.alloc (.cells #[.int .i64 2, .int .i64 3, str f, .string ⟨#[]⟩, .slice none 0 0] 70)).heap.size) → After W K xb fv4 rv (putF F f []) X ⟨2, 3, f, [], []⟩ (.slice none 0 0) K4 w4 w5 (.slice ad5 n5 cap5) (.slice adt X.length capt)) := fun ad5 n5 cap5 w5 q1 q2 q3 => note_after HR4.out HS4.out ⟨2, 3, f, [], []⟩ (.slice none 0 0) HLV.out HLB.out rfl q1 q2 q3
      have hS0 : ToldE W.heap.size #[.int .i64 2, .int .i64 3, str f, .string ⟨#[]⟩, .slice none 0 0] (World.drew w4) := HCB.out _ (Below.refl _ _).drew
      refine wp_region_held (S := ToldE W.heap.size #[.int .i64 2, .int .i64 3, str f, .string ⟨#[]⟩, .slice none 0 0]) (by kernel_rfl) ?_
      change wpAnyH _ _ _ _ _ _ _ _ (World.drew _)
      refine wpAnyH_take (i := 0) (v := xP xb) rfl (by kernel_rfl) (by kernel_rfl) (by kernel_rfl) (fun _ _ _ h => h) (Yields.yieldsIf (Or.inl ⟨by rfl, by intro wz; go_simp⟩)) hS0 ?_
      try simp only [Act.put, List.getElem_toArray, List.getElem_cons_zero, List.setIfInBounds_toArray, List.set_cons_zero, List.set_cons_succ]
      refine wpAnyH_take (i := 1) (v := xP xb) rfl (by kernel_rfl) (by kernel_rfl) (by kernel_rfl) (fun _ _ _ h => h) (Yields.yieldsIf (Or.inl ⟨by rfl, by intro wz; go_simp⟩)) hS0 ?_
      try simp only [Act.put, List.getElem_toArray, List.getElem_cons_succ, List.getElem_cons_zero, List.setIfInBounds_toArray, List.set_cons_zero, List.set_cons_succ]
      refine wpAnyH_take (i := 2) (v := xP xb) rfl (by kernel_rfl) (by kernel_rfl) (by kernel_rfl) (fun _ _ _ h => h) (Yields.yieldsIf (Or.inl ⟨by rfl, by intro wz; go_simp⟩)) hS0 ?_
      try simp only [Act.put, List.getElem_toArray, List.getElem_cons_succ, List.getElem_cons_zero, List.setIfInBounds_toArray, List.set_cons_zero, List.set_cons_succ]
      refine wpAnyH_take (i := 3) (v := .pointer (some ⟨xb, 2, none⟩)) rfl (by kernel_rfl) (by kernel_rfl) (by kernel_rfl) (fun _ _ _ h => h) (Yields.yieldsIf (Or.inl ⟨by rfl, by intro wz; go_simp⟩)) hS0 ?_
      try simp only [Act.put, List.getElem_toArray, List.getElem_cons_succ, List.getElem_cons_zero, List.setIfInBounds_toArray, List.set_cons_zero, List.set_cons_succ]
      refine wpAnyH_take (i := 5) (v := .agg #[.int .i64 2, .int .i64 3, str f, .string ⟨#[]⟩, .slice none 0 0]) rfl (by kernel_rfl) (by kernel_rfl) (by kernel_rfl) (fun _ _ _ h => h) (Or.inl ⟨by rfl, fun wz hS => by have s0 := hS.out.cell 0; have s1 := hS.out.cell 1; have s2 := hS.out.cell 2; have s3 := hS.out.cell 3; have s4 := hS.out.cell 4; go_simp⟩) hS0 ?_
      try simp only [Act.put, List.getElem_toArray, List.getElem_cons_succ, List.getElem_cons_zero, List.setIfInBounds_toArray, List.set_cons_zero, List.set_cons_succ]
      refine wpAnyH_ready (rs := [4, 6]) (by kernel_rfl) (by simp) ?_
      refine AllReadyH.cons rfl (fun K' hK => ?_) ?_
      · have c2 := (HRB.out _ (Below.refl _ w4).drew).1
        go_simp
        refine hK.out _ _ hS0 (fun _ => ?_)
        clear hK K' c2
        try simp only [Act.put, List.getElem_toArray, List.getElem_cons_succ, List.getElem_cons_zero, List.setIfInBounds_toArray, List.set_cons_zero, List.set_cons_succ]
        refine wpAnyH_ready (rs := [6]) (by kernel_rfl) (by simp) ?_
        refine AllReadyH.cons rfl (fun K' hK => ?_) AllReadyH.nil
        go_simp
        refine hK.out _ _ (HCB.out _ (((Below.refl _ w4).drew).alloc (Nat.le_refl _) _)) (fun _ => ?_)
        clear hK K'
        try simp only [Act.put, List.getElem_toArray, List.getElem_cons_succ, List.getElem_cons_zero, List.setIfInBounds_toArray, List.set_cons_zero, List.set_cons_succ]
        have hbA : Below w4.heap.size w4 (w4.drew.alloc (.cells #[.int .i64 2, .int .i64 3, str f, .string ⟨#[]⟩, .slice none 0 0] 70)) := ((Below.refl _ w4).drew).alloc (Nat.le_refl _) _
        refine wpAnyH_ready (rs := [7]) (by kernel_rfl) (by simp) ?_
        refine AllReadyH.cons rfl (fun K' hK => ?_) AllReadyH.nil
        refine step_append _ _ 52 rfl 0 70 i0 _ 5 72 Tryd.underlying52 hi0 hz0 hz1 hz2 rfl (by decide) (.slice adt X.length capt) X.length (evCs X) rfl (HRB.out _ hbA).2 ⟨w4.heap.size, 0, none⟩ 1 1 (evC ⟨2, 3, f, [], []⟩ (.slice none 0 0)) rfl rfl (cells_new w4.drew _ 70) (evC_one _ _ _) (by have := maxLen_big; omega) (by omega) (Nat.zero_le _) ?_
        intro v5 w5 hown5 hgrow5 _ hat5
        obtain ⟨ad5, n5, cap5, rfl⟩ := owns_form hown5
        have HNT : Hid _ := HFN.out ad5 n5 cap5 w5 hown5 hgrow5 hat5
        clear hown5 hgrow5 hat5
        have c5 := HNT.out.c5
        have f5 := HNT.out.f5
        have hS5 : ToldE W.heap.size #[.int .i64 2, .int .i64 3, str f, .string ⟨#[]⟩, .slice none 0 0] w5 := HNT.out.k5 HEB.out HNE.out
        refine hK.out _ _ hS5 (fun _ => ?_)
        clear hK K'
        try simp only [Act.put, List.getElem_toArray, List.getElem_cons_succ, List.getElem_cons_zero, List.setIfInBounds_toArray, List.set_cons_zero, List.set_cons_succ]
        clear hS0
        have hS0 := hS5
        refine wpAnyH_take (i := 8) (v := xP xb) rfl (by kernel_rfl) (by kernel_rfl) (by kernel_rfl) (fun _ _ _ h => h) (Yields.yieldsIf (Or.inl ⟨by rfl, by intro wz; go_simp⟩)) hS0 ?_
        try simp only [Act.put, List.getElem_toArray, List.getElem_cons_succ, List.getElem_cons_zero, List.setIfInBounds_toArray, List.set_cons_zero, List.set_cons_succ]
        refine wpAnyH_take (i := 9) (v := .pointer (some ⟨xb, 2, none⟩)) rfl (by kernel_rfl) (by kernel_rfl) (by kernel_rfl) (fun _ _ _ h => h) (Yields.yieldsIf (Or.inl ⟨by rfl, by intro wz; go_simp⟩)) hS0 ?_
        try simp only [Act.put, List.getElem_toArray, List.getElem_cons_succ, List.getElem_cons_zero, List.setIfInBounds_toArray, List.set_cons_zero, List.set_cons_succ]
        refine wpAnyH_ready (rs := [10]) (by kernel_rfl) (by simp) ?_
        refine AllReadyH.cons rfl (fun K' hK => ?_) AllReadyH.nil
        go_simp
        refine hK.out _ _ (HNT.out.k6 HEB.out HNE.out) (fun _ => ?_)
        clear hK K'
        try simp only [Act.put, List.getElem_toArray, List.getElem_cons_succ, List.getElem_cons_zero, List.setIfInBounds_toArray, List.set_cons_zero, List.set_cons_succ]
        refine wpAnyH_done (by kernel_rfl) ?_ _
        clear hS0 hS5 c5 f5
        obtain ⟨w6, hw6⟩ : ∃ w6, w6 = w5.setCell ⟨xb, 2, none⟩ (.slice ad5 n5 cap5) := ⟨_, rfl⟩
        have HE6 : Hid (∀ {b t : Nat} {cs' : Array Value}, Cel w4 b t cs' → ¬ K4 b → Cel w6 b t cs') := fun h1 h2 => by rw [hw6]; exact HNT.out.k6 h1 h2
        have HF6 : Hid (Fin W K xb rv (putF F f []) X [⟨2, 3, f, [], []⟩] w6) := by rw [hw6]; exact HNT.out.fin
        rw [← hw6]
        clear hw6 HNT HFN HRB HCB
        have z1 := (HE6.out HEB.out HNE.out).cell 1
        go_wp2_with fail
        go_quiet (fail)
        go_wp2_with fail
        go_ret2
        exact ⟨rfl, HF6.out.drewN _⟩
      refine AllReadyH.cons rfl (fun K' hK => ?_) AllReadyH.nil
      go_simp
      refine hK.out _ _ (HCB.out _ (((Below.refl _ w4).drew).alloc (Nat.le_refl _) _)) (fun _ => ?_)
      clear hK K'
      try simp only [Act.put, List.getElem_toArray, List.getElem_cons_succ, List.getElem_cons_zero, List.setIfInBounds_toArray, List.set_cons_zero, List.set_cons_succ]
      have c2 := (HRB.out (w4.alloc (.cells #[.int .i64 2, .int .i64 3, str f, .string ⟨#[]⟩, .slice none 0 0] 70)) (below_new w4 _)).1
      refine wpAnyH_ready (rs := [4]) (by kernel_rfl) (by simp) ?_
      refine AllReadyH.cons rfl (fun K' hK => ?_) AllReadyH.nil
      go_simp
      refine hK.out _ _ (HCB.out _ (((Below.refl _ w4).drew).alloc (Nat.le_refl _) _)) (fun _ => ?_)
      clear hK K' c2
      try simp only [Act.put, List.getElem_toArray, List.getElem_cons_succ, List.getElem_cons_zero, List.setIfInBounds_toArray, List.set_cons_zero, List.set_cons_succ]
      have hbA : Below w4.heap.size w4 (w4.drew.alloc (.cells #[.int .i64 2, .int .i64 3, str f, .string ⟨#[]⟩, .slice none 0 0] 70)) := ((Below.refl _ w4).drew).alloc (Nat.le_refl _) _
      refine wpAnyH_ready (rs := [7]) (by kernel_rfl) (by simp) ?_
      refine AllReadyH.cons rfl (fun K' hK => ?_) AllReadyH.nil
      refine step_append _ _ 52 rfl 0 70 i0 _ 5 72 Tryd.underlying52 hi0 hz0 hz1 hz2 rfl (by decide) (.slice adt X.length capt) X.length (evCs X) rfl (HRB.out _ hbA).2 ⟨w4.heap.size, 0, none⟩ 1 1 (evC ⟨2, 3, f, [], []⟩ (.slice none 0 0)) rfl rfl (cells_new w4.drew _ 70) (evC_one _ _ _) (by have := maxLen_big; omega) (by omega) (Nat.zero_le _) ?_
      intro v5 w5 hown5 hgrow5 _ hat5
      obtain ⟨ad5, n5, cap5, rfl⟩ := owns_form hown5
      have HNT : Hid _ := HFN.out ad5 n5 cap5 w5 hown5 hgrow5 hat5
      clear hown5 hgrow5 hat5
      have c5 := HNT.out.c5
      have f5 := HNT.out.f5
      have hS5 : ToldE W.heap.size #[.int .i64 2, .int .i64 3, str f, .string ⟨#[]⟩, .slice none 0 0] w5 := HNT.out.k5 HEB.out HNE.out
      refine hK.out _ _ hS5 (fun _ => ?_)
      clear hK K'
      try simp only [Act.put, List.getElem_toArray, List.getElem_cons_succ, List.getElem_cons_zero, List.setIfInBounds_toArray, List.set_cons_zero, List.set_cons_succ]
      clear hS0
      have hS0 := hS5
      refine wpAnyH_take (i := 8) (v := xP xb) rfl (by kernel_rfl) (by kernel_rfl) (by kernel_rfl) (fun _ _ _ h => h) (Yields.yieldsIf (Or.inl ⟨by rfl, by intro wz; go_simp⟩)) hS0 ?_
      try simp only [Act.put, List.getElem_toArray, List.getElem_cons_succ, List.getElem_cons_zero, List.setIfInBounds_toArray, List.set_cons_zero, List.set_cons_succ]
      refine wpAnyH_take (i := 9) (v := .pointer (some ⟨xb, 2, none⟩)) rfl (by kernel_rfl) (by kernel_rfl) (by kernel_rfl) (fun _ _ _ h => h) (Yields.yieldsIf (Or.inl ⟨by rfl, by intro wz; go_simp⟩)) hS0 ?_
      try simp only [Act.put, List.getElem_toArray, List.getElem_cons_succ, List.getElem_cons_zero, List.setIfInBounds_toArray, List.set_cons_zero, List.set_cons_succ]
      refine wpAnyH_ready (rs := [10]) (by kernel_rfl) (by simp) ?_
      refine AllReadyH.cons rfl (fun K' hK => ?_) AllReadyH.nil
      go_simp
      refine hK.out _ _ (HNT.out.k6 HEB.out HNE.out) (fun _ => ?_)
      clear hK K'
      try simp only [Act.put, List.getElem_toArray, List.getElem_cons_succ, List.getElem_cons_zero, List.setIfInBounds_toArray, List.set_cons_zero, List.set_cons_succ]
      refine wpAnyH_done (by kernel_rfl) ?_ _
      clear hS0 hS5 c5 f5
      obtain ⟨w6, hw6⟩ : ∃ w6, w6 = w5.setCell ⟨xb, 2, none⟩ (.slice ad5 n5 cap5) := ⟨_, rfl⟩
      have HE6 : Hid (∀ {b t : Nat} {cs' : Array Value}, Cel w4 b t cs' → ¬ K4 b → Cel w6 b t cs') := fun h1 h2 => by rw [hw6]; exact HNT.out.k6 h1 h2
      have HF6 : Hid (Fin W K xb rv (putF F f []) X [⟨2, 3, f, [], []⟩] w6) := by rw [hw6]; exact HNT.out.fin
      rw [← hw6]
      clear hw6 HNT HFN HRB HCB
      have z1 := (HE6.out HEB.out HNE.out).cell 1
      go_wp2_with fail
      go_quiet (fail)
      go_wp2_with fail
      go_ret2
      exact ⟨rfl, HF6.out.drewN _⟩
    · have e1 : openD F f 3 = [] := by simp [openD]
      have e2 : openB F f 3 = true := by simp [openB]
      have e3 : openF F f 3 = F := by simp [openF, hd, put_same F f i p HRI.out hp hpk]
      have e4 : openE F f 3 = [⟨2, 3, f, [], []⟩] := by simp [openE]
      rw [e1, e2, e3, e4]
      rw [hix] at HFI
      clear e1 e2 e3 e4 hix hd hh hp hpk
      go_enter Tryd.func21, Tryd.ntmps21
      go_wp2_with fail
      refine HFI.out.mono ?_
      rintro e w2 ⟨rfl, hw2⟩
      obtain rfl := hw2.symm
      clear hw2 HFI
      simp only [idxV]
      go_upto_region 12 with fail
      obtain ⟨w4, hw4⟩ : ∃ w4, w4 = W.alloc (.cells #[.int .i64 2, .int .i64 3, str f, .string ⟨#[]⟩, .slice none 0 0] 70) := ⟨_, rfl⟩
      have HR4 : Hid (Rk w4 K xb fv rv (.slice adt X.length capt) F X) := by rw [hw4]; exact HH.out.below (below_new W _)
      have HS4 : Hid (Stp W K w4 K) := by rw [hw4]; exact Stp.ofBelow (below_new W _)
      have HEB : Hid (Cel w4 W.heap.size 70 #[.int .i64 2, .int .i64 3, str f, .string ⟨#[]⟩, .slice none 0 0]) := by rw [hw4]; exact Cel.new W 70 _
      have HNE : Hid (¬ K W.heap.size) := HNK.out
      have HLV : Hid (Ot w4 (fun _ => False) (.slice none 0 0) []) := Ot.none _
      have HLB : Hid (∀ i, (Value.slice none 0 0).ownBlock = some i → W.heap.size ≤ i) := fun i hi => by simp [Value.ownBlock] at hi
      rw [← hw4]
      clear hw4 hb1 HR1 HPU CE
      have HCB : Hid (∀ W', Below w4.heap.size w4 W' → Cel W' W.heap.size 70 #[.int .i64 2, .int .i64 3, str f, .string ⟨#[]⟩, .slice none 0 0]) := fun W' hb => HEB.out.below hb HEB.out.lt
      have HRB : Hid (∀ W', Below w4.heap.size w4 W' → W'.cell? ⟨xb, 2, none⟩ = some (.slice adt X.length capt) ∧ W'.ownsRow 0 70 5 (.slice adt X.length capt) X.length (evCs X)) := fun W' hb => ⟨(HR4.out.below hb).xc.cell 2, (HR4.out.below hb).er⟩
      have HFN : Hid (∀ (ad5 : Option Addr) (n5 cap5 : Nat) (w5 : World), w5.ownsRow 0 70 5 (.slice ad5 n5 cap5) (X.length + 1) (evCs X ++ evC ⟨2, 3, f, [], []⟩ (.slice none 0 0)) → (w4.drew.alloc (.cells #[.int .i64 2, .int .i64 3, str f, .string ⟨#[]⟩, .slice none 0 0] 70)).grownBy w5 (Value.slice adt X.length capt).ownBlock → ((Value.slice ad5 n5 cap5).ownBlock = (Value.slice adt X.length capt).ownBlock ∨ (Value.slice ad5 n5 cap5).ownBlock = some (w4.drew.alloc (.cells #[.int .i64 2, .int .i64 3, str f, .string ⟨#[]⟩, .slice none 0 0] 70)).heap.size) → After W K xb fv rv F X ⟨2, 3, f, [], []⟩ (.slice none 0 0) K w4 w5 (.slice ad5 n5 cap5) (.slice adt X.length capt)) := fun ad5 n5 cap5 w5 q1 q2 q3 => note_after HR4.out HS4.out ⟨2, 3, f, [], []⟩ (.slice none 0 0) HLV.out HLB.out rfl q1 q2 q3
      have hS0 : ToldE W.heap.size #[.int .i64 2, .int .i64 3, str f, .string ⟨#[]⟩, .slice none 0 0] (World.drew w4) := HCB.out _ (Below.refl _ _).drew
      refine wp_region_held (S := ToldE W.heap.size #[.int .i64 2, .int .i64 3, str f, .string ⟨#[]⟩, .slice none 0 0]) (by kernel_rfl) ?_
      change wpAnyH _ _ _ _ _ _ _ _ (World.drew _)
      refine wpAnyH_take (i := 0) (v := xP xb) rfl (by kernel_rfl) (by kernel_rfl) (by kernel_rfl) (fun _ _ _ h => h) (Yields.yieldsIf (Or.inl ⟨by rfl, by intro wz; go_simp⟩)) hS0 ?_
      try simp only [Act.put, List.getElem_toArray, List.getElem_cons_zero, List.setIfInBounds_toArray, List.set_cons_zero, List.set_cons_succ]
      refine wpAnyH_take (i := 1) (v := xP xb) rfl (by kernel_rfl) (by kernel_rfl) (by kernel_rfl) (fun _ _ _ h => h) (Yields.yieldsIf (Or.inl ⟨by rfl, by intro wz; go_simp⟩)) hS0 ?_
      try simp only [Act.put, List.getElem_toArray, List.getElem_cons_succ, List.getElem_cons_zero, List.setIfInBounds_toArray, List.set_cons_zero, List.set_cons_succ]
      refine wpAnyH_take (i := 2) (v := xP xb) rfl (by kernel_rfl) (by kernel_rfl) (by kernel_rfl) (fun _ _ _ h => h) (Yields.yieldsIf (Or.inl ⟨by rfl, by intro wz; go_simp⟩)) hS0 ?_
      try simp only [Act.put, List.getElem_toArray, List.getElem_cons_succ, List.getElem_cons_zero, List.setIfInBounds_toArray, List.set_cons_zero, List.set_cons_succ]
      refine wpAnyH_take (i := 3) (v := .pointer (some ⟨xb, 2, none⟩)) rfl (by kernel_rfl) (by kernel_rfl) (by kernel_rfl) (fun _ _ _ h => h) (Yields.yieldsIf (Or.inl ⟨by rfl, by intro wz; go_simp⟩)) hS0 ?_
      try simp only [Act.put, List.getElem_toArray, List.getElem_cons_succ, List.getElem_cons_zero, List.setIfInBounds_toArray, List.set_cons_zero, List.set_cons_succ]
      refine wpAnyH_take (i := 5) (v := .agg #[.int .i64 2, .int .i64 3, str f, .string ⟨#[]⟩, .slice none 0 0]) rfl (by kernel_rfl) (by kernel_rfl) (by kernel_rfl) (fun _ _ _ h => h) (Or.inl ⟨by rfl, fun wz hS => by have s0 := hS.out.cell 0; have s1 := hS.out.cell 1; have s2 := hS.out.cell 2; have s3 := hS.out.cell 3; have s4 := hS.out.cell 4; go_simp⟩) hS0 ?_
      try simp only [Act.put, List.getElem_toArray, List.getElem_cons_succ, List.getElem_cons_zero, List.setIfInBounds_toArray, List.set_cons_zero, List.set_cons_succ]
      refine wpAnyH_ready (rs := [4, 6]) (by kernel_rfl) (by simp) ?_
      refine AllReadyH.cons rfl (fun K' hK => ?_) ?_
      · have c2 := (HRB.out _ (Below.refl _ w4).drew).1
        go_simp
        refine hK.out _ _ hS0 (fun _ => ?_)
        clear hK K' c2
        try simp only [Act.put, List.getElem_toArray, List.getElem_cons_succ, List.getElem_cons_zero, List.setIfInBounds_toArray, List.set_cons_zero, List.set_cons_succ]
        refine wpAnyH_ready (rs := [6]) (by kernel_rfl) (by simp) ?_
        refine AllReadyH.cons rfl (fun K' hK => ?_) AllReadyH.nil
        go_simp
        refine hK.out _ _ (HCB.out _ (((Below.refl _ w4).drew).alloc (Nat.le_refl _) _)) (fun _ => ?_)
        clear hK K'
        try simp only [Act.put, List.getElem_toArray, List.getElem_cons_succ, List.getElem_cons_zero, List.setIfInBounds_toArray, List.set_cons_zero, List.set_cons_succ]
        have hbA : Below w4.heap.size w4 (w4.drew.alloc (.cells #[.int .i64 2, .int .i64 3, str f, .string ⟨#[]⟩, .slice none 0 0] 70)) := ((Below.refl _ w4).drew).alloc (Nat.le_refl _) _
        refine wpAnyH_ready (rs := [7]) (by kernel_rfl) (by simp) ?_
        refine AllReadyH.cons rfl (fun K' hK => ?_) AllReadyH.nil
        refine step_append _ _ 52 rfl 0 70 i0 _ 5 72 Tryd.underlying52 hi0 hz0 hz1 hz2 rfl (by decide) (.slice adt X.length capt) X.length (evCs X) rfl (HRB.out _ hbA).2 ⟨w4.heap.size, 0, none⟩ 1 1 (evC ⟨2, 3, f, [], []⟩ (.slice none 0 0)) rfl rfl (cells_new w4.drew _ 70) (evC_one _ _ _) (by have := maxLen_big; omega) (by omega) (Nat.zero_le _) ?_
        intro v5 w5 hown5 hgrow5 _ hat5
        obtain ⟨ad5, n5, cap5, rfl⟩ := owns_form hown5
        have HNT : Hid _ := HFN.out ad5 n5 cap5 w5 hown5 hgrow5 hat5
        clear hown5 hgrow5 hat5
        have c5 := HNT.out.c5
        have f5 := HNT.out.f5
        have hS5 : ToldE W.heap.size #[.int .i64 2, .int .i64 3, str f, .string ⟨#[]⟩, .slice none 0 0] w5 := HNT.out.k5 HEB.out HNE.out
        refine hK.out _ _ hS5 (fun _ => ?_)
        clear hK K'
        try simp only [Act.put, List.getElem_toArray, List.getElem_cons_succ, List.getElem_cons_zero, List.setIfInBounds_toArray, List.set_cons_zero, List.set_cons_succ]
        clear hS0
        have hS0 := hS5
        refine wpAnyH_take (i := 8) (v := xP xb) rfl (by kernel_rfl) (by kernel_rfl) (by kernel_rfl) (fun _ _ _ h => h) (Yields.yieldsIf (Or.inl ⟨by rfl, by intro wz; go_simp⟩)) hS0 ?_
        try simp only [Act.put, List.getElem_toArray, List.getElem_cons_succ, List.getElem_cons_zero, List.setIfInBounds_toArray, List.set_cons_zero, List.set_cons_succ]
        refine wpAnyH_take (i := 9) (v := .pointer (some ⟨xb, 2, none⟩)) rfl (by kernel_rfl) (by kernel_rfl) (by kernel_rfl) (fun _ _ _ h => h) (Yields.yieldsIf (Or.inl ⟨by rfl, by intro wz; go_simp⟩)) hS0 ?_
        try simp only [Act.put, List.getElem_toArray, List.getElem_cons_succ, List.getElem_cons_zero, List.setIfInBounds_toArray, List.set_cons_zero, List.set_cons_succ]
        refine wpAnyH_ready (rs := [10]) (by kernel_rfl) (by simp) ?_
        refine AllReadyH.cons rfl (fun K' hK => ?_) AllReadyH.nil
        go_simp
        refine hK.out _ _ (HNT.out.k6 HEB.out HNE.out) (fun _ => ?_)
        clear hK K'
        try simp only [Act.put, List.getElem_toArray, List.getElem_cons_succ, List.getElem_cons_zero, List.setIfInBounds_toArray, List.set_cons_zero, List.set_cons_succ]
        refine wpAnyH_done (by kernel_rfl) ?_ _
        clear hS0 hS5 c5 f5
        obtain ⟨w6, hw6⟩ : ∃ w6, w6 = w5.setCell ⟨xb, 2, none⟩ (.slice ad5 n5 cap5) := ⟨_, rfl⟩
        have HE6 : Hid (∀ {b t : Nat} {cs' : Array Value}, Cel w4 b t cs' → ¬ K b → Cel w6 b t cs') := fun h1 h2 => by rw [hw6]; exact HNT.out.k6 h1 h2
        have HF6 : Hid (Fin W K xb rv F X [⟨2, 3, f, [], []⟩] w6) := by rw [hw6]; exact HNT.out.fin
        rw [← hw6]
        clear hw6 HNT HFN HRB HCB
        have z1 := (HE6.out HEB.out HNE.out).cell 1
        go_wp2_with fail
        go_quiet (fail)
        go_wp2_with fail
        go_ret2
        exact ⟨rfl, HF6.out.drewN _⟩
      refine AllReadyH.cons rfl (fun K' hK => ?_) AllReadyH.nil
      go_simp
      refine hK.out _ _ (HCB.out _ (((Below.refl _ w4).drew).alloc (Nat.le_refl _) _)) (fun _ => ?_)
      clear hK K'
      try simp only [Act.put, List.getElem_toArray, List.getElem_cons_succ, List.getElem_cons_zero, List.setIfInBounds_toArray, List.set_cons_zero, List.set_cons_succ]
      have c2 := (HRB.out (w4.alloc (.cells #[.int .i64 2, .int .i64 3, str f, .string ⟨#[]⟩, .slice none 0 0] 70)) (below_new w4 _)).1
      refine wpAnyH_ready (rs := [4]) (by kernel_rfl) (by simp) ?_
      refine AllReadyH.cons rfl (fun K' hK => ?_) AllReadyH.nil
      go_simp
      refine hK.out _ _ (HCB.out _ (((Below.refl _ w4).drew).alloc (Nat.le_refl _) _)) (fun _ => ?_)
      clear hK K' c2
      try simp only [Act.put, List.getElem_toArray, List.getElem_cons_succ, List.getElem_cons_zero, List.setIfInBounds_toArray, List.set_cons_zero, List.set_cons_succ]
      have hbA : Below w4.heap.size w4 (w4.drew.alloc (.cells #[.int .i64 2, .int .i64 3, str f, .string ⟨#[]⟩, .slice none 0 0] 70)) := ((Below.refl _ w4).drew).alloc (Nat.le_refl _) _
      refine wpAnyH_ready (rs := [7]) (by kernel_rfl) (by simp) ?_
      refine AllReadyH.cons rfl (fun K' hK => ?_) AllReadyH.nil
      refine step_append _ _ 52 rfl 0 70 i0 _ 5 72 Tryd.underlying52 hi0 hz0 hz1 hz2 rfl (by decide) (.slice adt X.length capt) X.length (evCs X) rfl (HRB.out _ hbA).2 ⟨w4.heap.size, 0, none⟩ 1 1 (evC ⟨2, 3, f, [], []⟩ (.slice none 0 0)) rfl rfl (cells_new w4.drew _ 70) (evC_one _ _ _) (by have := maxLen_big; omega) (by omega) (Nat.zero_le _) ?_
      intro v5 w5 hown5 hgrow5 _ hat5
      obtain ⟨ad5, n5, cap5, rfl⟩ := owns_form hown5
      have HNT : Hid _ := HFN.out ad5 n5 cap5 w5 hown5 hgrow5 hat5
      clear hown5 hgrow5 hat5
      have c5 := HNT.out.c5
      have f5 := HNT.out.f5
      have hS5 : ToldE W.heap.size #[.int .i64 2, .int .i64 3, str f, .string ⟨#[]⟩, .slice none 0 0] w5 := HNT.out.k5 HEB.out HNE.out
      refine hK.out _ _ hS5 (fun _ => ?_)
      clear hK K'
      try simp only [Act.put, List.getElem_toArray, List.getElem_cons_succ, List.getElem_cons_zero, List.setIfInBounds_toArray, List.set_cons_zero, List.set_cons_succ]
      clear hS0
      have hS0 := hS5
      refine wpAnyH_take (i := 8) (v := xP xb) rfl (by kernel_rfl) (by kernel_rfl) (by kernel_rfl) (fun _ _ _ h => h) (Yields.yieldsIf (Or.inl ⟨by rfl, by intro wz; go_simp⟩)) hS0 ?_
      try simp only [Act.put, List.getElem_toArray, List.getElem_cons_succ, List.getElem_cons_zero, List.setIfInBounds_toArray, List.set_cons_zero, List.set_cons_succ]
      refine wpAnyH_take (i := 9) (v := .pointer (some ⟨xb, 2, none⟩)) rfl (by kernel_rfl) (by kernel_rfl) (by kernel_rfl) (fun _ _ _ h => h) (Yields.yieldsIf (Or.inl ⟨by rfl, by intro wz; go_simp⟩)) hS0 ?_
      try simp only [Act.put, List.getElem_toArray, List.getElem_cons_succ, List.getElem_cons_zero, List.setIfInBounds_toArray, List.set_cons_zero, List.set_cons_succ]
      refine wpAnyH_ready (rs := [10]) (by kernel_rfl) (by simp) ?_
      refine AllReadyH.cons rfl (fun K' hK => ?_) AllReadyH.nil
      go_simp
      refine hK.out _ _ (HNT.out.k6 HEB.out HNE.out) (fun _ => ?_)
      clear hK K'
      try simp only [Act.put, List.getElem_toArray, List.getElem_cons_succ, List.getElem_cons_zero, List.setIfInBounds_toArray, List.set_cons_zero, List.set_cons_succ]
      refine wpAnyH_done (by kernel_rfl) ?_ _
      clear hS0 hS5 c5 f5
      obtain ⟨w6, hw6⟩ : ∃ w6, w6 = w5.setCell ⟨xb, 2, none⟩ (.slice ad5 n5 cap5) := ⟨_, rfl⟩
      have HE6 : Hid (∀ {b t : Nat} {cs' : Array Value}, Cel w4 b t cs' → ¬ K b → Cel w6 b t cs') := fun h1 h2 => by rw [hw6]; exact HNT.out.k6 h1 h2
      have HF6 : Hid (Fin W K xb rv F X [⟨2, 3, f, [], []⟩] w6) := by rw [hw6]; exact HNT.out.fin
      rw [← hw6]
      clear hw6 HNT HFN HRB HCB
      have z1 := (HE6.out HEB.out HNE.out).cell 1
      go_wp2_with fail
      go_quiet (fail)
      go_wp2_with fail
      go_ret2
      exact ⟨rfl, HF6.out.drewN _⟩
  · have e1 : openD F f m = [] := by unfold openD; rw [if_neg (by omega)]
    have e2 : openB F f m = false := by unfold openB; rw [if_neg (by omega)]; simp; omega
    have e3 : openF F f m = F := by unfold openF; rw [if_neg (by omega), if_neg (by omega)]
    have e4 : openE F f m = [] := by unfold openE; rw [if_neg (by omega), if_neg (by omega)]
    rw [e1, e2, e3, e4]
    clear e1 e2 e3 e4
    rcases hm with hm | hm
    all_goals
      go_enter Tryd.func21, Tryd.ntmps21
      go_wp2_with fail
      go_ret2
      exact ⟨rfl, _, _, [], K, by rw [List.append_nil]; exact HH.out, rfl, Stp.refl _ _⟩
end Go.Proofs.YthhghkjgffcpeaaDoor

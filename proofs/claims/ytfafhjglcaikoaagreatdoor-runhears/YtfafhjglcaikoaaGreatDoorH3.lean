/- Files are opened and written. -/
import Derived.Test.YtfafhjglcaikoaaGreatDoorH2
/-! What was asked; what is left without marks. -/
namespace Go.Proofs.YtfafhjglcaikoaaGreatDoor
open Go.RowKit

theorem ask56 : Asks 125 (fun _ => true) := by
  refine ⟨enters_of Tryz.func125 (by kernel_rfl) rfl, fun k W => ?_⟩
  go_enter Tryz.func125, Tryz.ntmps125
  go_wp2
  go_ret
  exact ⟨rfl, rfl⟩
theorem Kern.evAt {W : World} {K : Nat → Prop} {kb mb : Nat} {ev rv : Value} {F : Fls} {Y : List (Rw × Value)} {X : List (Ev × Value)} (h : Kern W K kb mb ev rv F Y X) : EvAt W ev X := EvAt.owned h.er fun p hp => (h.xt p hp).tx

set_option maxHeartbeats 1000000 in
theorem trace_any {W : World} {K : Nat → Prop} {kb mb : Nat} {ev rv : Value} {F : Fls} {Y : List (Rw × Value)} {X : List (Ev × Value)} (h : Kern W K kb mb ev rv F Y X) (hX : X.length < 4294967296) (hl : ∀ q ∈ X, q.1.l.length < 4294967296) :
    Calls Tryz.prog 81 #[kP kb] W fun e w' => ∃ v' X', e = .returned v' ∧ EvOwn w' W.heap.size v' X' ∧ X'.map Prod.fst = X.map Prod.fst ∧ Below W.heap.size W w' := by
  have c0 := h.kc.cell 0
  have HA : Hid (EvAt W ev X) := h.evAt
  have HL : Hid (∀ q ∈ X, q.1.l.length < 4294967296) := hl
  obtain ⟨ad, cap, rfl⟩ := owns_slice h.er
  clear h hl
  go_enter Tryz.func81, Tryz.ntmps81
  go_wp2_with fail
  refine (pick_any 125 _ ask56 _ X W HA.out hX HL.out).mono ?_
  rintro e w1 ⟨v', X', rfl, h1, h2, h3⟩
  go_wp2_with fail
  go_ret
  refine ⟨v', X', rfl, h1, ?_, h3⟩
  rw [h2]
  exact List.filter_eq_self.2 (fun _ _ => rfl)

def erased (E : List Ev) : List Ev := E.filter fun e => !markB e.kind
end Go.Proofs.YtfafhjglcaikoaaGreatDoor
/-! Equalities, as the statements have them. -/
namespace Go.Proofs.YtfafhjglcaikoaaGreatDoor
open Go.RowKit

theorem ret_bool {a b : Bool} (h : a = b) : Ending.returned (.bool a) = .returned (.bool b) := by rw [h]
end Go.Proofs.YtfafhjglcaikoaaGreatDoor
/-! The row of a command. -/
namespace Go.Proofs.YtfafhjglcaikoaaGreatDoor
open Go.RowKit

variable {W : World} {K : Nat → Prop} {kb mb : Nat} {ev rv : Value} {F : Fls} {Y : List (Rw × Value)} {X : List (Ev × Value)}

theorem bytes_inj (A B : List Txt) : ((A.map fun t => (⟨t.toArray⟩ : ByteArray)) = B.map fun t => (⟨t.toArray⟩ : ByteArray)) ↔ A = B := by
  constructor
  · intro h
    have := congrArg (List.map fun b : ByteArray => b.data.toList) h
    rw [List.map_map, List.map_map] at this
    have e : ((fun b : ByteArray => b.data.toList) ∘ fun t : Txt => (⟨t.toArray⟩ : ByteArray)) = id := by funext t; simp
    rw [e, List.map_id, List.map_id] at this
    exact this
  · intro h; rw [h]
theorem below_drewN (W : World) : ∀ q, Below W.heap.size W (W.drewN q) := fun _ => ⟨rfl, rfl, rfl, Nat.le_refl _, fun _ _ => rfl⟩
theorem equal_any (va vb : Value) (A B : List Txt) (w : World) (ha : Tx w va A) (hb : Tx w vb B) (hla : A.length < 4294967296) (hlb : B.length < 4294967296) :
    Calls Tryz.prog 240 #[va, vb] w fun e w' => e = .returned (.bool (decide (A = B))) ∧ Below w.heap.size w w' := by
  obtain ⟨ada, capa, rfl⟩ := ha.form
  obtain ⟨adb, capb, rfl⟩ := hb.form
  by_cases hl : A.length = B.length
  · by_cases h0 : A = []
    · subst h0
      have hB : B = [] := List.eq_nil_of_length_eq_zero hl.symm
      subst hB
      refine (Tryz.slices_Equal_string_empty ada adb capa 0 capb w (by omega)).mono ?_
      rintro e w' ⟨rfl, rfl⟩
      exact ⟨rfl, Below.refl _ _⟩
    · obtain ⟨ga, oa, ca, h1, _, _, _⟩ := ha.inRow h0
      obtain ⟨gb, ob, cb, h2, _, _, _⟩ := hb.inRow (fun e => h0 (List.eq_nil_of_length_eq_zero (by rw [hl, e]; rfl)))
      cases h1
      cases h2
      refine (Tryz.slices_Equal_string ga oa A.length capa gb ob B.length capb _ _ w (by simp) (by simp) (by omega) (by omega) ha.bytes hb.bytes).mono ?_
      rintro e w' ⟨rfl, q, rfl⟩
      refine ⟨ret_bool ?_, below_drewN w q⟩
      rw [List.take_of_length_le (by simp), List.take_of_length_le (by simp)]
      exact decide_eq_decide.2 (bytes_inj A B)
  · refine (Tryz.slices_Equal_string_lens ada adb A.length capa B.length capb w hl).mono ?_
    rintro e w' ⟨rfl, rfl⟩
    exact ⟨ret_bool (decide_eq_false (fun e => hl (by rw [e]))).symm, Below.refl _ _⟩

abbrev rwV (r : Rw) (v : Value) : Value := .agg #[str r.name, v, .bool r.any, .bool r.reads, .bool r.copy, str r.out, .int .i64 r.status]
abbrev rwL (Y : List (Rw × Value)) : List (List Value) := Y.map fun p => rwC p.1 p.2
theorem rwL_flat (Y : List (Rw × Value)) : (rwL Y).flatMap id = rwCs Y := by simp [rwL, rwCs, List.flatMap_map]
theorem rwL_len (Y : List (Rw × Value)) : ∀ cs ∈ rwL Y, cs.length = 7 := by
  intro cs hcs
  obtain ⟨p, _, rfl⟩ := List.mem_map.1 hcs
  rfl
/-- Rows in memory, to be read. -/
def RwAt (W : World) (v : Value) (Y : List (Rw × Value)) : Prop := RowAt W v 7 (rwL Y) ∧ ∀ p ∈ Y, Tx W p.2 p.1.args
theorem RwAt.below {W W' : World} {v : Value} {B : Nat} (h : RwAt W v Y) (hb : Below B W W') (hB : W.heap.size ≤ B) : RwAt W' v Y := ⟨h.1.below hb hB, fun p hp => (h.2 p hp).below hb hB⟩
theorem RwAt.form {v : Value} (h : RwAt W v Y) : ∃ ad cap, v = .slice ad Y.length cap := by
  obtain ⟨ad, cap, hv⟩ := h.1.form
  exact ⟨ad, cap, by rw [hv]; simp⟩
theorem RwAt.owned {B : Nat} {v : Value} (h : W.ownsRow B 80 7 v Y.length (rwCs Y)) (ht : ∀ p ∈ Y, Tx W p.2 p.1.args) : RwAt W v Y :=
  ⟨RowAt.owned (e := 80) (B := B) (by rw [rwL_flat, List.length_map]; exact h) (rwL_len Y), ht⟩
theorem RwAt.at {v : Value} (h : RwAt W v Y) {j : Nat} {p : Rw × Value} (hj : Y[j]? = some p) : ∃ g o cap, v = .slice (some ⟨g, o, none⟩) Y.length cap ∧ g < W.heap.size ∧
    W.cell? ⟨g, o + j * 7, none⟩ = some (str p.1.name) ∧ W.cell? ⟨g, o + j * 7 + 1, none⟩ = some p.2 ∧ W.cell? ⟨g, o + j * 7 + 2, none⟩ = some (.bool p.1.any) ∧ W.cell? ⟨g, o + j * 7 + 3, none⟩ = some (.bool p.1.reads) ∧ W.cell? ⟨g, o + j * 7 + 4, none⟩ = some (.bool p.1.copy) ∧ W.cell? ⟨g, o + j * 7 + 5, none⟩ = some (str p.1.out) ∧ W.cell? ⟨g, o + j * 7 + 6, none⟩ = some (.int .i64 p.1.status) := by
  rcases h.1 with ⟨h0, _⟩ | ⟨g, o, cap, h1, h2, h3, h4⟩
  · have : Y = [] := by simpa using h0
    rw [this] at hj
    simp at hj
  · have hc := h4 j (rwC p.1 p.2) (by rw [List.getElem?_map, hj]; rfl)
    exact ⟨g, o, cap, by simpa using h1, h3, hc 0 _ rfl, hc 1 _ rfl, hc 2 _ rfl, hc 3 _ rfl, hc 4 _ rfl, hc 5 _ rfl, hc 6 _ rfl⟩
theorem Kern.rwAt (h : Kern W K kb mb ev rv F Y X) : RwAt W rv Y := RwAt.owned h.rr fun p hp => (h.yt p hp).tx

/-- Does the row go with them? -/
def fits (name : Txt) (args : List Txt) (r : Rw) : Bool := r.name == name && (r.any || decide (r.args = args))
def noRow : Rw := ⟨[], [], false, false, false, [], 0⟩
def rowOf (R : List Rw) (name : Txt) (args : List Txt) : Option Rw := R.find? (fits name args)
theorem rowOf_some (R : List Rw) (name : Txt) (args : List Txt) (k : Nat) (r : Rw) (hk : R[k]? = some r) (hr : fits name args r = true) (hn : ∀ j q, j < k → R[j]? = some q → fits name args q = false) : rowOf R name args = some r := by
  unfold rowOf
  induction R generalizing k with
  | nil => simp at hk
  | cons x R ih =>
    cases k with
    | zero =>
      simp at hk
      subst hk
      rw [List.find?_cons_of_pos hr]
    | succ k =>
      have h0 := hn 0 x (by omega) rfl
      rw [List.find?_cons_of_neg (by rw [h0]; exact Bool.false_ne_true)]
      exact ih k (by simpa using hk) (fun j q hj hq => hn (j + 1) q (by omega) (by simpa using hq))
theorem rowOf_none (R : List Rw) (name : Txt) (args : List Txt) (hn : ∀ j q, j < R.length → R[j]? = some q → fits name args q = false) : rowOf R name args = none := by
  unfold rowOf
  rw [List.find?_eq_none]
  intro q hq
  obtain ⟨j, hj, rfl⟩ := List.getElem_of_mem hq
  rw [hn j _ hj (List.getElem?_eq_getElem hj)]
  exact Bool.false_ne_true
theorem size77 : (Tryz.prog.info? 80).map (·.size) = some 7 := by kernel_rfl

theorem set7 {b : Nat} {a0 a1 a2 a3 a4 a5 a6 : Value} (v0 v1 v2 v3 v4 v5 v6 : Value) (h : Cel W b 80 #[a0, a1, a2, a3, a4, a5, a6]) : Cel (((((((W.setCell ⟨b, 0, none⟩ v0).setCell ⟨b, 1, none⟩ v1).setCell ⟨b, 2, none⟩ v2).setCell ⟨b, 3, none⟩ v3).setCell ⟨b, 4, none⟩ v4).setCell ⟨b, 5, none⟩ v5).setCell ⟨b, 6, none⟩ v6) b 80 #[v0, v1, v2, v3, v4, v5, v6] := by
  have h0 : Cel (W.setCell ⟨b, 0, none⟩ v0) b 80 #[v0, a1, a2, a3, a4, a5, a6] := h.set (j := 0) v0
  have h1 : Cel ((W.setCell ⟨b, 0, none⟩ v0).setCell ⟨b, 1, none⟩ v1) b 80 #[v0, v1, a2, a3, a4, a5, a6] := h0.set (j := 1) v1
  have h2 : Cel (((W.setCell ⟨b, 0, none⟩ v0).setCell ⟨b, 1, none⟩ v1).setCell ⟨b, 2, none⟩ v2) b 80 #[v0, v1, v2, a3, a4, a5, a6] := h1.set (j := 2) v2
  have h3 : Cel ((((W.setCell ⟨b, 0, none⟩ v0).setCell ⟨b, 1, none⟩ v1).setCell ⟨b, 2, none⟩ v2).setCell ⟨b, 3, none⟩ v3) b 80 #[v0, v1, v2, v3, a4, a5, a6] := h2.set (j := 3) v3
  have h4 : Cel (((((W.setCell ⟨b, 0, none⟩ v0).setCell ⟨b, 1, none⟩ v1).setCell ⟨b, 2, none⟩ v2).setCell ⟨b, 3, none⟩ v3).setCell ⟨b, 4, none⟩ v4) b 80 #[v0, v1, v2, v3, v4, a5, a6] := h3.set (j := 4) v4
  have h5 : Cel ((((((W.setCell ⟨b, 0, none⟩ v0).setCell ⟨b, 1, none⟩ v1).setCell ⟨b, 2, none⟩ v2).setCell ⟨b, 3, none⟩ v3).setCell ⟨b, 4, none⟩ v4).setCell ⟨b, 5, none⟩ v5) b 80 #[v0, v1, v2, v3, v4, v5, a6] := h4.set (j := 5) v5
  have h6 : Cel (((((((W.setCell ⟨b, 0, none⟩ v0).setCell ⟨b, 1, none⟩ v1).setCell ⟨b, 2, none⟩ v2).setCell ⟨b, 3, none⟩ v3).setCell ⟨b, 4, none⟩ v4).setCell ⟨b, 5, none⟩ v5).setCell ⟨b, 6, none⟩ v6) b 80 #[v0, v1, v2, v3, v4, v5, v6] := h5.set (j := 6) v6
  exact h6
theorem below7 {b B : Nat} {W0 : World} (v0 v1 v2 v3 v4 v5 v6 : Value) (h : Below B W0 W) (hb : B ≤ b) : Below B W0 (((((((W.setCell ⟨b, 0, none⟩ v0).setCell ⟨b, 1, none⟩ v1).setCell ⟨b, 2, none⟩ v2).setCell ⟨b, 3, none⟩ v3).setCell ⟨b, 4, none⟩ v4).setCell ⟨b, 5, none⟩ v5).setCell ⟨b, 6, none⟩ v6) := (((((((h.setCell (p := ⟨b, 0, none⟩) hb v0).setCell (p := ⟨b, 1, none⟩) hb v1).setCell (p := ⟨b, 2, none⟩) hb v2).setCell (p := ⟨b, 3, none⟩) hb v3).setCell (p := ⟨b, 4, none⟩) hb v4).setCell (p := ⟨b, 5, none⟩) hb v5).setCell (p := ⟨b, 6, none⟩) hb v6)
theorem ret_row {fn : Func} (h : fn.results = #[.cell 6 80, .tmp 7]) (tmps : Array Value) (w : World) (g : Nat) (cs : Array Value) (hp : tmps.getD 6 undef = .pointer (some ⟨g, 0, none⟩)) (hg : Cel w g 80 cs) (hs : cs.size = 7) :
    (results fn tmps).run Tryz.prog w = .ok (.tuple #[.agg cs, tmps.getD 7 undef]) w := by
  have hl := run_loadVar_row (P := Tryz.prog) w g 80 80 cs (0, 0) _ hg Tryz.underlying80 rfl (by rw [hs]; exact size77)
  rw [results_cell_tmp h, hp]
  simp [asAddr, hl]

set_option maxRecDepth 100000 in
set_option maxHeartbeats 4000000 in
theorem row_any (name : Txt) (args : List Txt) (va : Value) (h : Kern W K kb mb ev rv F Y X) (hY : Y.length < 4294967296) (ha : Tx W va args) (hla : args.length < 4294967296) (hl : ∀ p ∈ Y, p.1.args.length < 4294967296) :
    Calls Tryz.prog 208 #[kP kb, str name, va] W fun e w' => (∃ r v, e = .returned (.tuple #[rwV r v, .bool (rowOf (Y.map Prod.fst) name args).isSome]) ∧ (rowOf (Y.map Prod.fst) name args).getD noRow = r ∧ Tx w' v r.args) ∧ Below W.heap.size W w' := by
  have c2 := (h.below (below_new W (.cells #[.string ⟨#[]⟩, .slice none 0 0, .bool false, .bool false, .bool false, .string ⟨#[]⟩, .int .i64 0] 80))).kc.cell 2
  have HR : Hid (∀ W', Below W.heap.size W W' → RwAt W' rv Y) := fun W' hb => h.rwAt.below hb (Nat.le_refl _)
  have HA : Hid (∀ W', Below W.heap.size W W' → Tx W' va args) := fun W' hb => ha.below hb (Nat.le_refl _)
  have HL : Hid (∀ p ∈ Y, p.1.args.length < 4294967296) := hl
  obtain ⟨ada, capa, rfl⟩ := ha.form
  obtain ⟨adr, capr, rfl⟩ := owns_slice h.rr
  clear h ha hl
  go_enter Tryz.func208, Tryz.ntmps208
  go_wp2_with fail
  have hb0 := below_new W (.cells #[.string ⟨#[]⟩, .slice none 0 0, .bool false, .bool false, .bool false, .string ⟨#[]⟩, .int .i64 0] 80)
  have HC0 : Hid _ := Cel.new W 80 #[.string ⟨#[]⟩, .slice none 0 0, .bool false, .bool false, .bool false, .string ⟨#[]⟩, .int .i64 0]
  clear c2
  go_loopw [15] (fun v15 wr => ∃ k : Nat, v15 = .int .i64 k ∧ k ≤ Y.length ∧ Hid (∀ j q, j < k → (Y.map Prod.fst)[j]? = some q → fits name args q = false) ∧ Below W.heap.size W wr ∧ Hid (Cel wr W.heap.size 80 #[.string ⟨#[]⟩, .slice none 0 0, .bool false, .bool false, .bool false, .string ⟨#[]⟩, .int .i64 0])) (fun v15 _ => Y.length - (intOf v15).toNat)
  case atStart => exact ⟨0, rfl, by omega, fun j q hj => absurd hj (by omega), hb0, HC0.out⟩
  case round =>
    obtain ⟨k, rfl, hk, HN, hbr, HC⟩ := hrel
    by_cases hkl : k < Y.length
    · obtain ⟨q, hq⟩ : ∃ q, Y[k]? = some q := ⟨_, List.getElem?_eq_getElem hkl⟩
      obtain ⟨g, o, cap', hv, hg, c0, c1, c2, c3, c4, c5, c6⟩ := (HR.out _ hbr).at hq
      cases hv
      have hqm := List.mem_of_getElem? hq
      have HT : Hid (∀ W', Below W.heap.size W W' → Tx W' q.2 q.1.args) := fun W' hb => (HR.out W' hb).2 q hqm
      have hql := HL.out q hqm
      have HQ : Hid ((Y.map Prod.fst)[k]? = some q.1) := by unfold Hid; rw [List.getElem?_map, hq]; rfl
      obtain ⟨⟨nm, ars, an, re, co, ou, st⟩, lv⟩ := q
      obtain ⟨adl, capl, hlv⟩ := (HT.out _ hbr).form
      obtain rfl : lv = .slice adl ars.length capl := hlv
      clear hq hqm
      have hba : Below W.heap.size W (wr.alloc (.cells #[str nm, .slice adl ars.length capl, .bool an, .bool re, .bool co, str ou, .int .i64 st] 80)) := hbr.alloc hbr.size _
      have HNX : Hid (fits name args ⟨nm, ars, an, re, co, ou, st⟩ = false → ∀ j q, j < k + 1 → (Y.map Prod.fst)[j]? = some q → fits name args q = false) := fun hf j q hj hq => by
        by_cases hjk : j < k
        · exact HN.out j q hjk hq
        · obtain rfl : j = k := by omega
          rw [HQ.out] at hq
          cases hq
          exact hf
      cases hn : (nm == name) with
      | false =>
        have HF : Hid (fits name args ⟨nm, ars, an, re, co, ou, st⟩ = false) := by unfold Hid fits; rw [hn]; rfl
        go_wp2_with fail
        exact ⟨⟨k + 1, by simp, by omega, HNX.out HF.out, hba, HC.out.turn (Turn.ofBelow (S := fun _ => False) (below_new _ _)) (fun h => h)⟩, by simp [intOf]; omega⟩
      | true =>
        cases an with
        | true =>
          have HF : Hid (fits name args ⟨nm, ars, true, re, co, ou, st⟩ = true) := by unfold Hid fits; rw [hn]; rfl
          have HC1 : Hid (Cel (wr.alloc (.cells #[str nm, .slice adl ars.length capl, .bool true, .bool re, .bool co, str ou, .int .i64 st] 80)) W.heap.size 80 #[.string ⟨#[]⟩, .slice none 0 0, .bool false, .bool false, .bool false, .string ⟨#[]⟩, .int .i64 0]) := HC.out.turn (Turn.ofBelow (S := fun _ => False) (below_new wr (.cells #[str nm, .slice adl ars.length capl, .bool true, .bool re, .bool co, str ou, .int .i64 st] 80))) (fun h => h)
          have z0 := HC1.out.cell 0
          have f0 := HC1.out.frozen 0
          have z1 := HC1.out.cell 1
          have f1 := HC1.out.frozen 1
          have z2 := HC1.out.cell 2
          have f2 := HC1.out.frozen 2
          have z3 := HC1.out.cell 3
          have f3 := HC1.out.frozen 3
          have z4 := HC1.out.cell 4
          have f4 := HC1.out.frozen 4
          have z5 := HC1.out.cell 5
          have f5 := HC1.out.frozen 5
          have z6 := HC1.out.cell 6
          have f6 := HC1.out.frozen 6
          go_wp2_with fail
          have hR := rowOf_some _ _ _ k _ HQ.out HF.out HN.out
          refine bodyPost_ret (ret_row rfl _ _ W.heap.size _ rfl (set7 _ _ _ _ _ _ _ HC1.out) rfl) rfl ?_
          have hbz := below7 (str nm) (.slice adl ars.length capl) (.bool true) (.bool re) (.bool co) (str ou) (.int .i64 st) hba (Nat.le_refl W.heap.size)
          exact ⟨⟨⟨nm, ars, true, re, co, ou, st⟩, .slice adl ars.length capl, by rw [hR]; rfl, by rw [hR]; rfl, HT.out _ hbz⟩, hbz⟩
        | false =>
          go_wp2_with fail
          refine (equal_any _ _ ars args _ (HT.out _ hba) (HA.out _ hba) hql hla).mono ?_
          rintro e w2 ⟨rfl, hb2⟩
          have HC1 : Hid (Cel (wr.alloc (.cells #[str nm, .slice adl ars.length capl, .bool false, .bool re, .bool co, str ou, .int .i64 st] 80)) W.heap.size 80 #[.string ⟨#[]⟩, .slice none 0 0, .bool false, .bool false, .bool false, .string ⟨#[]⟩, .int .i64 0]) := HC.out.turn (Turn.ofBelow (S := fun _ => False) (below_new wr (.cells #[str nm, .slice adl ars.length capl, .bool false, .bool re, .bool co, str ou, .int .i64 st] 80))) (fun h => h)
          have HC2 : Hid (Cel w2 W.heap.size 80 #[.string ⟨#[]⟩, .slice none 0 0, .bool false, .bool false, .bool false, .string ⟨#[]⟩, .int .i64 0]) := HC1.out.turn (Turn.ofBelow (S := fun _ => False) hb2) (fun h => h)
          have HB1 := (Cel.new wr 80 #[str nm, .slice adl ars.length capl, .bool false, .bool re, .bool co, str ou, .int .i64 st]).turn (Turn.ofBelow (S := fun _ => False) hb2) (fun h => h)
          have hbw2 := hba.trans (hb2.mono hba.size)
          have z0 := HC2.out.cell 0
          have f0 := HC2.out.frozen 0
          have z1 := HC2.out.cell 1
          have f1 := HC2.out.frozen 1
          have z2 := HC2.out.cell 2
          have f2 := HC2.out.frozen 2
          have z3 := HC2.out.cell 3
          have f3 := HC2.out.frozen 3
          have z4 := HC2.out.cell 4
          have f4 := HC2.out.frozen 4
          have z5 := HC2.out.cell 5
          have f5 := HC2.out.frozen 5
          have z6 := HC2.out.cell 6
          have f6 := HC2.out.frozen 6
          have y0 := HB1.cell 0
          have y1 := HB1.cell 1
          have y2 := HB1.cell 2
          have y3 := HB1.cell 3
          have y4 := HB1.cell 4
          have y5 := HB1.cell 5
          have y6 := HB1.cell 6
          obtain ⟨dl, HD⟩ : ∃ dl, Hid (decide (ars = args) = dl) := ⟨_, rfl⟩
          rw [HD.out]
          have hfit : fits name args ⟨nm, ars, false, re, co, ou, st⟩ = dl := by unfold fits; rw [hn, ← HD.out]; rfl
          have HF : Hid _ := hfit
          clear hn hfit HB1 hb2
          cases dl with
          | true =>
            go_wp2_with fail
            have hR := rowOf_some _ _ _ k _ HQ.out HF.out HN.out
            refine bodyPost_ret (ret_row rfl _ _ W.heap.size _ rfl (set7 _ _ _ _ _ _ _ HC2.out) rfl) rfl ?_
            have hbz := below7 (str nm) (.slice adl ars.length capl) (.bool false) (.bool re) (.bool co) (str ou) (.int .i64 st) hbw2 (Nat.le_refl W.heap.size)
            exact ⟨⟨⟨nm, ars, false, re, co, ou, st⟩, .slice adl ars.length capl, by rw [hR]; rfl, by rw [hR]; rfl, HT.out _ hbz⟩, hbz⟩
          | false =>
            go_wp2_with fail
            exact ⟨⟨k + 1, by simp, by omega, HNX.out HF.out, hbw2, HC2.out⟩, by simp [intOf]; omega⟩
    · have hkz : k = Y.length := by omega
      subst hkz
      have z0 := HC.out.cell 0
      have f0 := HC.out.frozen 0
      have z1 := HC.out.cell 1
      have f1 := HC.out.frozen 1
      have z2 := HC.out.cell 2
      have f2 := HC.out.frozen 2
      have z3 := HC.out.cell 3
      have f3 := HC.out.frozen 3
      have z4 := HC.out.cell 4
      have f4 := HC.out.frozen 4
      have z5 := HC.out.cell 5
      have f5 := HC.out.frozen 5
      have z6 := HC.out.cell 6
      have f6 := HC.out.frozen 6
      go_wp2_with fail
      have hR := rowOf_none (Y.map Prod.fst) name args (fun j q hj hq => HN.out j q (by rw [List.length_map] at hj; exact hj) hq)
      refine bodyPost_ret (ret_row rfl _ _ W.heap.size _ rfl (set7 _ _ _ _ _ _ _ HC.out) rfl) rfl ?_
      have hbz := below7 (.string ⟨#[]⟩) (.slice none 0 0) (.bool false) (.bool false) (.bool false) (.string ⟨#[]⟩) (.int .i64 0) hbr (Nat.le_refl W.heap.size)
      exact ⟨⟨noRow, .slice none 0 0, by rw [hR]; rfl, by rw [hR]; rfl, Tx.nil _⟩, hbz⟩
end Go.Proofs.YtfafhjglcaikoaaGreatDoor
namespace Go.Proofs.YtfafhjglcaikoaaGreatDoor
open Go.RowKit

variable {W : World} {K : Nat → Prop} {kb mb : Nat} {ev rv : Value} {F : Fls} {Y : List (Rw × Value)} {X : List (Ev × Value)}

theorem look_no (h : W.ownsMap Tryz.prog 9 flE mb F.length (dF F)) (k : Txt) (hk : k.length < 4294967296) :
    (Instr.lookup 157 (.map (some mb)) (str k) false).run Tryz.prog W = .ok (.agg #[str (namF F k), str (datF F k)]) W := by
  obtain ⟨v, ps, h1, h2⟩ := h.lookup key9 Tryz.underlying157 (Tryz.zeroValue68 W) (flE_mk [] []) (keyOf9 k (by have := maxLen_big; omega))
  rw [dF_at] at h2
  rw [h1, flE_inv h2]
theorem look_ok (h : W.ownsMap Tryz.prog 9 flE mb F.length (dF F)) (k : Txt) (hk : k.length < 4294967296) :
    (Instr.lookup 157 (.map (some mb)) (str k) true).run Tryz.prog W = .ok (.tuple #[.agg #[str (namF F k), str (datF F k)], .bool (hasF F k)]) W := by
  obtain ⟨v, ps, h1, h2⟩ := h.look_ok key9 Tryz.underlying157 (Tryz.zeroValue68 W) (flE_mk [] []) (keyOf9 k (by have := maxLen_big; omega))
  rw [dF_at] at h2
  rw [dF_has] at h1
  rw [h1, flE_inv h2]

def openD (F : Fls) (f : Txt) (m : Int) : Txt := if m = 1 then datF F f else []
def openB (F : Fls) (f : Txt) (m : Int) : Bool := if m = 1 then hasF F f else m == 2 || m == 3
def openF (F : Fls) (f : Txt) (m : Int) : Fls := if m = 2 then putF F f [] else if m = 3 then putF F f (datF F f) else F
def openE (F : Fls) (f : Txt) (m : Int) : List Ev := if m = 1 then [⟨2, if hasF F f then 1 else 4, f, [], []⟩] else if m = 2 ∨ m = 3 then [⟨2, m, f, [], []⟩] else []
theorem dat_none (F : Fls) (k : Txt) (h : hasF F k = false) : datF F k = [] := by
  unfold hasF at h
  unfold datF
  rw [List.find?_eq_none.2 (by simpa using h)]

/-- A block that is not the kernel's stays. -/
theorem Stp.cel {W' : World} {K' : Nat → Prop} {b t : Nat} {cs : Array Value} (h : Stp W K W' K') (hc : Cel W b t cs) (hn : ¬ K b) : Cel W' b t cs := hc.turn h.1 hn

set_option maxRecDepth 100000 in
set_option maxHeartbeats 2000000 in
theorem open_any (f : Txt) (m : Int) (h : Kern W K kb mb ev rv F Y X) (hX : X.length < 4294967296) (hF : F.length < 4294967296) (hf : f.length < 4294967296) :
    Calls Tryz.prog 171 #[kP kb, str f, .int .i64 m] W fun r w' => r = .returned (.tuple #[str (openD F f m), .bool (openB F f m)]) ∧ ∃ ev' X' K', Kern w' K' kb mb ev' rv (openF F f m) Y (X ++ X') ∧ X'.map Prod.fst = openE F f m ∧ Stp W K w' K' := by
  have hlk := look_ok h.fm f hf
  have c1 := h.kc.cell 1
  have HH : Hid (Kern (W.alloc (.cells #[str (namF F f), str (datF F f)] 68)) K kb mb ev rv F Y X) := h.below (below_new _ _)
  have HS : Hid (Stp W K (W.alloc (.cells #[str (namF F f), str (datF F f)] 68)) K) := Stp.ofBelow (below_new _ _)
  have HN : Hid (¬ K W.heap.size) := fun hk => Nat.lt_irrefl _ (h.lt _ hk)
  have CB : Hid (Cel (W.alloc (.cells #[str (namF F f), str (datF F f)] 68)) W.heap.size 68 #[str (namF F f), str (datF F f)]) := Cel.new W 68 _
  have HF : Hid (F.length < 4294967296) := hF
  clear h hF
  by_cases h1 : m = 1
  · subst h1
    cases hh : hasF F f with
    | false =>
      have e1 : openD F f 1 = [] := by simp [openD, dat_none F f hh]
      have e2 : openB F f 1 = false := by simp [openB, hh]
      have e3 : openF F f 1 = F := by simp [openF]
      have e4 : openE F f 1 = [⟨2, 4, f, [], []⟩] := by simp [openE, hh]
      rw [e1, e2, e3, e4]
      rw [hh] at hlk
      clear e1 e2 e3 e4 hh
      go_enter Tryz.func171, Tryz.ntmps171
      go_wp2_with fail
      refine (note_any ⟨2, 4, f, [], []⟩ (.slice none 0 0) HH.out hX (Tx.nil _) (Nat.zero_lt_succ _)).mono ?_
      rintro e w2 ⟨rfl, ev', lv', K', k1, k2⟩
      go_wp2_with fail
      go_ret2
      exact ⟨rfl, ev', [(_, lv')], K', k1, rfl, HS.out.trans k2⟩
    | true =>
      have e1 : openD F f 1 = datF F f := by simp [openD]
      have e2 : openB F f 1 = true := by simp [openB, hh]
      have e3 : openF F f 1 = F := by simp [openF]
      have e4 : openE F f 1 = [⟨2, 1, f, [], []⟩] := by simp [openE, hh]
      rw [e1, e2, e3, e4]
      rw [hh] at hlk
      clear e1 e2 e3 e4 hh
      go_enter Tryz.func171, Tryz.ntmps171
      go_wp2_with fail
      refine (note_any ⟨2, 1, f, [], []⟩ (.slice none 0 0) HH.out hX (Tx.nil _) (Nat.zero_lt_succ _)).mono ?_
      rintro e w2 ⟨rfl, ev', lv', K', k1, k2⟩
      have b1 := (k2.cel CB.out HN.out).cell 1
      go_wp2_with fail
      go_ret2
      exact ⟨rfl, ev', [(_, lv')], K', k1, rfl, HS.out.trans k2⟩
  · by_cases h2 : m = 2
    · subst h2
      have e1 : openD F f 2 = [] := by simp [openD]
      have e2 : openB F f 2 = true := by simp [openB]
      have e3 : openF F f 2 = putF F f [] := by simp [openF]
      have e4 : openE F f 2 = [⟨2, 2, f, [], []⟩] := by simp [openE]
      rw [e1, e2, e3, e4]
      clear e1 e2 e3 e4
      go_enter Tryz.func171, Tryz.ntmps171
      go_wp2_with fail
      refine (keep_any f [] hf HH.out HF.out).mono ?_
      rintro e w2 ⟨rfl, k1, k2⟩
      go_wp2_with fail
      refine (note_any ⟨2, 2, f, [], []⟩ (.slice none 0 0) k1 hX (Tx.nil _) (Nat.zero_lt_succ _)).mono ?_
      rintro e w3 ⟨rfl, ev', lv', K', k3, k4⟩
      go_wp2_with fail
      go_ret2
      exact ⟨rfl, ev', [(_, lv')], K', k3, rfl, HS.out.trans (k2.trans k4)⟩
    · by_cases h3 : m = 3
      · subst h3
        have e1 : openD F f 3 = [] := by simp [openD]
        have e2 : openB F f 3 = true := by simp [openB]
        have e3 : openF F f 3 = putF F f (datF F f) := by simp [openF]
        have e4 : openE F f 3 = [⟨2, 3, f, [], []⟩] := by simp [openE]
        rw [e1, e2, e3, e4]
        clear e1 e2 e3 e4
        go_enter Tryz.func171, Tryz.ntmps171
        go_wp2_with fail
        refine (keep_any f (datF F f) hf HH.out HF.out).mono ?_
        rintro e w2 ⟨rfl, k1, k2⟩
        go_wp2_with fail
        refine (note_any ⟨2, 3, f, [], []⟩ (.slice none 0 0) k1 hX (Tx.nil _) (Nat.zero_lt_succ _)).mono ?_
        rintro e w3 ⟨rfl, ev', lv', K', k3, k4⟩
        go_wp2_with fail
        go_ret2
        exact ⟨rfl, ev', [(_, lv')], K', k3, rfl, HS.out.trans (k2.trans k4)⟩
      · have e1 : openD F f m = [] := by simp [openD, h1]
        have e2 : openB F f m = false := by simp [openB, h1, h2, h3]
        have e3 : openF F f m = F := by simp [openF, h2, h3]
        have e4 : openE F f m = [] := by simp [openE, h1, h2, h3]
        rw [e1, e2, e3, e4]
        clear e1 e2 e3 e4
        have d1 : (m == 1) = false := by simpa using h1
        have d2 : (m == 2) = false := by simpa using h2
        have d3 : (m == 3) = false := by simpa using h3
        go_enter Tryz.func171, Tryz.ntmps171
        go_wp2_with fail
        go_ret2
        exact ⟨rfl, ev, [], K, by rw [List.append_nil]; exact HH.out, rfl, HS.out⟩
end Go.Proofs.YtfafhjglcaikoaaGreatDoor

/- The document's kernel: put. -/
import Derived.Test.YthhghkjgffcpeaaDoorRK1
namespace Go.Proofs.YthhghkjgffcpeaaDoor
open Go.RowKit

theorem owns_write {W : World} {B e size n g cap j : Nat} {xs : List Value} (h : W.ownsRow B e size (.slice (some ⟨g, 0, none⟩) n cap) n xs) (u : Value) : (W.setCell ⟨g, j, none⟩ u).ownsRow B e size (.slice (some ⟨g, 0, none⟩) n cap) n (xs.set j u) := by
  refine ⟨by rw [List.length_set]; exact h.1, ?_⟩
  rcases h.2 with ⟨hv, _⟩ | ⟨g', cap', cur, hv, hb, hc, h1, h1', h2, h3⟩
  · cases hv
  · cases hv
    refine .inr ⟨g, cap, cur.setIfInBounds j u, rfl, hb, Cel.set (show Cel W g e cur from hc) u, h1, h1', by simpa using h2, ?_⟩
    rw [Array.toList_setIfInBounds, List.take_set, h3]
theorem owns_form {w : World} {B e k n : Nat} {v : Value} {xs : List Value} (h : w.ownsRow B e k v n xs) : ∃ ad m cap, v = .slice ad m cap := by
  obtain ⟨ad, cap, rfl⟩ := owns_slice h
  exact ⟨ad, n, cap, rfl⟩
def Kn (W W' : World) (K : Nat → Prop) : Nat → Prop := fun i => K i ∨ W.heap.size ≤ i ∧ i < W'.heap.size
theorem Kn.lt {W W' : World} {K : Nat → Prop} (h : ∀ i, K i → i < W.heap.size) (hz : W.heap.size ≤ W'.heap.size) : ∀ i, Kn W W' K i → i < W'.heap.size := fun i hi => hi.elim (fun h1 => Nat.lt_of_lt_of_le (h i h1) hz) (fun h1 => h1.2)
/-- The cell says this. -/
def Told1 (xb j : Nat) (v : Value) (W : World) : Prop := Hid (W.cell? ⟨xb, j, none⟩ = some v)

/-! ### a source of an append of files -/
def SrcF (W : World) (xv : Value) (L : Fls) : Prop := (xv = .slice none 0 0 ∧ L = []) ∨ ∃ ad c, xv = .slice (some ad) L.length c ∧ ∀ j u, (flCs L)[j]? = some u → W.cell? (ad.add j) = some u
section
variable {W : World} {P : Fls}
theorem rowF_cases {B : Nat} {vv : Value} (h : W.ownsRow B 73 2 vv P.length (flCs P)) : (vv = .slice none 0 0 ∧ P = []) ∨ ∃ g cap, vv = .slice (some ⟨g, 0, none⟩) P.length cap ∧ P.length ≤ cap ∧ ∀ j u, (flCs P)[j]? = some u → W.cell? ⟨g, j, none⟩ = some u := by
  rcases h.2 with ⟨hv, h0⟩ | ⟨g, cap, cur, hv, hb, hc, h1, h1', h2, h3⟩
  · exact .inl ⟨hv, List.eq_nil_of_length_eq_zero h0⟩
  · refine .inr ⟨g, cap, hv, h1, fun j u hu => ?_⟩
    have hlt := (List.getElem?_eq_some_iff.1 hu).1
    rw [flCs_len] at hlt
    have e1 : W.cell? ⟨g, j, none⟩ = cur[j]? := by simp [World.cell?, hc]
    rw [e1, ← Array.getElem?_toList, ← List.getElem?_take_of_lt hlt, h3]
    exact hu
theorem cutF_ahead {B : Nat} {vv : Value} (h : W.ownsRow B 73 2 vv P.length (flCs P)) (i : Nat) (hi : i ≤ P.length) (hP : P.length < 65536) :
    ∃ xv, (∀ W', (Instr.slice 22 vv none (some (.int .i64 (i : Int))) none).run Tryd.prog W' = .ok xv W') ∧ ∀ W', W'.ownsRow B 73 2 vv P.length (flCs P) → SrcF W' xv (P.take i) := by
  rcases rowF_cases h with ⟨rfl, rfl⟩ | ⟨g, cap, rfl, hc, _⟩
  · obtain rfl : i = 0 := by simpa using hi
    exact ⟨.slice none 0 0, fun W' => by go_simp, fun W' _ => .inl ⟨rfl, rfl⟩⟩
  · refine ⟨.slice (some ⟨g, 0, none⟩) i cap, fun W' => ?_, fun W' ho => .inr ⟨⟨g, 0, none⟩, cap, by rw [List.length_take, Nat.min_eq_left hi], fun j u hu => ?_⟩⟩
    · go_simp
      intro h9
      omega
    · rcases rowF_cases ho with ⟨hv, _⟩ | ⟨g', cap', hv, _, hce⟩
      · cases hv
      · cases hv
        rw [Addr.add_lit, Nat.zero_add]
        refine hce j u ?_
        rw [← List.take_append_drop i P, flCs_app, List.getElem?_append_left (List.getElem?_eq_some_iff.1 hu).1]
        exact hu
theorem cutF_behind {B : Nat} {vv : Value} (h : W.ownsRow B 73 2 vv P.length (flCs P)) (i : Nat) (hi : i ≤ P.length) (hP : P.length < 65536) :
    ∃ xv, (∀ W', (Instr.slice 22 vv (some (.int .i64 (i : Int))) none none).run Tryd.prog W' = .ok xv W') ∧ ∀ W', W'.ownsRow B 73 2 vv P.length (flCs P) → SrcF W' xv (P.drop i) := by
  rcases rowF_cases h with ⟨rfl, rfl⟩ | ⟨g, cap, rfl, hc, _⟩
  · obtain rfl : i = 0 := by simpa using hi
    exact ⟨.slice none 0 0, fun W' => by go_simp, fun W' _ => .inl ⟨rfl, rfl⟩⟩
  · refine ⟨.slice (some (if cap = i then ⟨g, 0, none⟩ else ⟨g, i * 2, none⟩)) (P.length - i) (cap - i), fun W' => ?_, fun W' ho => .inr ⟨(if cap = i then ⟨g, 0, none⟩ else ⟨g, i * 2, none⟩), cap - i, by rw [List.length_drop], fun j u hu => ?_⟩⟩
    · by_cases hci : cap = i
      · subst hci
        go_simp
      · rw [if_neg hci]
        go_simp
    · have hj := (List.getElem?_eq_some_iff.1 hu).1
      rw [flCs_len, List.length_drop] at hj
      rw [if_neg (by omega), Addr.add_lit]
      rcases rowF_cases ho with ⟨hv, _⟩ | ⟨g', cap', hv, _, hce⟩
      · cases hv
      · cases hv
        refine hce (i * 2 + j) u ?_
        have hl : (flCs (P.take i)).length = i * 2 := by rw [flCs_len, List.length_take, Nat.min_eq_left hi]
        rw [← List.take_append_drop i P, flCs_app, List.getElem?_append_right (by rw [hl]; omega), hl, Nat.add_sub_cancel_left]
        exact hu
theorem run_srcF {w : World} {base ty : Nat} {v xv : Value} {O L : Fls} (hown : w.ownsRow base 73 2 v O.length (flCs O)) (hs : SrcF w xv L) (hn : O.length + L.length < 4294967296) (hbase : base ≤ w.heap.size) :
    ∃ v' w', (Builtin.append_ #[22, 22] ty #[v, xv]).run Tryd.prog w = .ok v' w' ∧ w'.ownsRow base 73 2 v' (O ++ L).length (flCs (O ++ L)) ∧ w.grownBy w' v.ownBlock := by
  obtain ⟨i0, hi0, hz0, hz1, hz2⟩ := info_parts info73
  rcases hs with ⟨rfl, rfl⟩ | ⟨ad, c, rfl, hc⟩
  · refine ⟨v, w, run_append_owned_none w base 22 ty 73 i0 2 Tryd.underlying22 hi0 v _ _ hown, ?_, ⟨rfl, rfl, rfl, Nat.le_refl _, fun _ _ _ => rfl⟩⟩
    rw [List.append_nil]
    exact hown
  · obtain ⟨v', w', hr, h2, h3, _, _⟩ := run_append_own_at (P := Tryd.prog) w base 22 ty 73 i0 _ 2 32 Tryd.underlying22 hi0 hz0 hz1 hz2 rfl (by decide) v O.length (flCs O) hown ad L.length c (flCs L) (flCs_len L) hc (flC_all L) (by have := maxLen_big; omega) (by omega) hbase
    refine ⟨v', w', hr, ?_, h3⟩
    rw [flCs_app, List.length_append]
    exact h2
theorem step_srcF {o : Oper} {a : Act} {w : World} {K : Act → World → Prop} {Q : Exit → Act → World → Prop} (s x : Operand) (ho : o.op = .call { callee := .builtin .append, args := #[s, x], argTypes := #[22, 22] })
    {base : Nat} {v xv : Value} {O L : Fls} (hv : a.eval s = v) (hx : a.eval x = xv) (hown : w.ownsRow base 73 2 v O.length (flCs O)) (hs : SrcF w xv L) (hn : O.length + L.length < 4294967296) (hbase : base ≤ w.heap.size)
    (h : ∀ v' w', w'.ownsRow base 73 2 v' (O ++ L).length (flCs (O ++ L)) → w.grownBy w' v.ownBlock → K (a.put o.dst v') w') : Oper.wp Tryd.prog o a w K Q := by
  obtain ⟨v', w', hr, h2, h3⟩ := run_srcF (ty := o.type) hown hs hn hbase
  unfold Oper.wp execOp
  simp only [ho, resolve, invoke, builtin, Sem.run_bind, Sem.run_pure, Result.andThen_ok, List.map_toArray, List.map_cons, List.map_nil, hv, hx, hr]
  exact h v' w' h2 h3
theorem wpList_srcF {ops : Array Oper} {rest : List Oper} {o : Oper} {a : Act} {w : World} {Q : Exit → Act → World → Prop} (hgd : o.guard = none) (s x : Operand) (ho : o.op = .call { callee := .builtin .append, args := #[s, x], argTypes := #[22, 22] })
    {base : Nat} {v xv : Value} {O L : Fls} (hv : a.eval s = v) (hx : a.eval x = xv) (hown : w.ownsRow base 73 2 v O.length (flCs O)) (hs : SrcF w xv L) (hn : O.length + L.length < 4294967296) (hbase : base ≤ w.heap.size)
    (h : ∀ v' w', w'.ownsRow base 73 2 v' (O ++ L).length (flCs (O ++ L)) → w.grownBy w' v.ownBlock → wpList Tryd.prog ops Q rest (a.put o.dst v') w') : wpList Tryd.prog ops Q (o :: rest) a w := by
  refine wpList_plain hgd fun K hK => ?_
  exact step_srcF s x ho hv hx hown hs hn hbase fun v' w' h2 h3 => hK _ _ (h v' w' h2 h3)
end
variable {W W' : World} {K K' S : Nat → Prop} {xb : Nat} {fv rv tv : Value} {F : Fls} {X : List (Ev × Value)}
/-- A file's data is written over. -/
theorem Rk.store {g cap : Nat} (h : Rk W K xb (.slice (some ⟨g, 0, none⟩) F.length cap) rv tv F X) {i : Nat} {p : Txt × Txt} (hp : F[i]? = some p) (d : Txt) :
    Rk (W.setCell ⟨g, i * 2 + 1, none⟩ (str d)) K xb (.slice (some ⟨g, 0, none⟩) F.length cap) rv tv (F.set i (p.1, d)) X ∧ Turn K W (W.setCell ⟨g, i * 2 + 1, none⟩ (str d)) := by
  have hT := turn_set W g (i * 2 + 1) (str d)
  have hg : g ≠ xb := fun e => owns_apart h.xc h.fr (by decide) (by rw [← e]; rfl)
  have hw := owns_write (j := i * 2 + 1) h.fr (str d)
  rw [← flCs_set p.1 d F i p hp rfl] at hw
  refine ⟨{
    xc := h.xc.turn hT (fun e => hg e.symm)
    fr := by rw [List.length_set]; exact hw
    er := owns_turn h.er hT fun b hb e => owns_apart2 h.fr h.er (by decide) b (by rw [e]; rfl) hb
    xt := fun q hq => (h.xt q hq).turn hT fun b hb e => owns_apart2 h.fr (h.xt q hq).1 (by decide) b (by rw [e]; rfl) hb
    Kx := h.Kx
    Kf := h.Kf
    Kt := h.Kt
    lt := fun j hj => by rw [set_size]; exact h.lt j hj }, hT.mono fun j e => by subst e; exact h.Kf j rfl⟩

set_option maxRecDepth 100000 in
set_option maxHeartbeats 4000000 in
theorem rput_any (h : Rk W K xb fv rv tv F X) (k d : Txt) (hF : F.length < 60000) (hR : Ris F) :
    Calls Tryd.prog 48 #[xP xb, .agg #[str k, str d]] W fun e w' => e = .returned (.tuple #[]) ∧ ∃ fv' K', Rk w' K' xb fv' rv tv (putF F k d) X ∧ Stp W K w' K' := by
  obtain ⟨i0, hi0, hz0, hz1, hz2⟩ := info_parts info73
  have hb1 : Below W.heap.size W (W.alloc (.cells #[str k, str d] 73)) := below_new W _
  have CB : Hid (∀ W', Below (W.alloc (.cells #[str k, str d] 73)).heap.size (W.alloc (.cells #[str k, str d] 73)) W' → Cel W' W.heap.size 73 #[str k, str d]) := fun W' hb => (Cel.new W 73 _).below hb (by simp)
  have h1 := h.below hb1
  have HLT : Hid (∀ i, K i → i < W.heap.size) := h.lt
  have HRI : Hid (Ris F) := hR
  obtain ⟨W1, hW1⟩ : ∃ W1, W1 = W.alloc (.cells #[str k, str d] 73) := ⟨_, rfl⟩
  have q0 := (Cel.new W 73 #[str k, str d]).cell 0
  have q1 := (Cel.new W 73 #[str k, str d]).cell 1
  have HF1 : Hid (Calls Tryd.prog 52 #[xP xb, str k] (W.alloc (.cells #[str k, str d] 73)) fun e w' => e = .returned (.int .i64 (idxV (idxF F k))) ∧ w' = W.alloc (.cells #[str k, str d] 73)) := rfind_any h1 k hF
  clear h hR
  go_enter Tryd.func48, Tryd.ntmps48
  go_wp2_with fail
  refine HF1.out.mono ?_
  rintro e w2 ⟨rfl, hw2⟩
  obtain rfl := hw2.symm
  clear HF1 hw2
  rw [← hW1] at q0 q1 h1 CB hb1 ⊢
  have CBB : Hid (Cel W1 W.heap.size 73 #[str k, str d]) := CB.out _ (Below.refl _ _)
  have hz1w : W.heap.size < W1.heap.size := by rw [hW1]; simp
  clear hW1
  have HR1 : Hid (Rk W1 K xb fv rv tv F X) := h1
  have c0 : W1.cell? ⟨xb, 0, none⟩ = some fv := h1.xc.cell 0
  clear h1
  cases hix : idxF F k with
  | some i =>
    unfold idxF at hix
    obtain ⟨hil, hik, _⟩ := List.findIdx?_eq_some_iff_getElem.1 hix
    obtain ⟨p, hp⟩ : ∃ p, F[i]? = some p := ⟨_, List.getElem?_eq_getElem hil⟩
    have hpk : p.1 = k := by
      rw [← (List.getElem?_eq_some_iff.1 hp).2]
      simpa using hik
    obtain ⟨g, cap, rfl, hcap, d0, d1⟩ := fl_at HR1.out.fr hp
    have HST : Hid (Rk (W1.setCell ⟨g, i * 2 + 1, none⟩ (str d)) K xb (.slice (some ⟨g, 0, none⟩) F.length cap) rv tv (putF F k d) X ∧ Turn K W1 (W1.setCell ⟨g, i * 2 + 1, none⟩ (str d))) := by
      have := HR1.out.store hp d
      rw [hpk, ← put_set k d F i p HRI.out hp hpk] at this
      exact this
    have fz : W1.frozen? ⟨g, i * 2 + 1, none⟩ = false := by
      rcases HR1.out.fr.2 with ⟨hv, _⟩ | ⟨g', cap', cur, hv, hb, hc, _⟩
      · cases hv
      · cases hv
        exact Cel.frozen (show Cel W1 g 73 cur from hc) _
    have hgl : g < W1.heap.size := HR1.out.lt g (HR1.out.Kf g rfl)
    have hxl : xb < W1.heap.size := HR1.out.lt xb HR1.out.Kx
    have hzi : (i : Int) < F.length := by omega
    clear hix hik hp d0
    simp only [idxV]
    go_wp2_with fail
    go_region
    all_goals
      go_wp2_with fail
      refine bodyPost_ret (results_none rfl _ _ _) rfl ?_
      exact ⟨rfl, _, K, HST.out.1.below (Below.refl _ _).drew, (Turn.ofBelow hb1).trans HST.out.2.drew (fun _ h _ => h), fun _ h => .inl h⟩
  | none =>
    have HNE : Hid (∀ p ∈ F, (p.1 == k) = false) := by
      unfold idxF at hix
      exact fun p hp => (List.findIdx?_eq_none_iff.1 hix) p hp
    clear hix
    obtain ⟨adv, capv, rfl⟩ := owns_slice HR1.out.fr
    simp only [idxV]
    go_wp2_with fail
    go_loopw [5] (fun v5 wr => ∃ i : Nat, v5 = .int .i64 i ∧ i ≤ F.length ∧ Below W1.heap.size W1 wr ∧ Hid (∀ j q, j < i → F[j]? = some q → bytesBefore q.1 k = true)) (fun v5 _ => F.length - (intOf v5).toNat)
    case atStart => exact ⟨0, rfl, Nat.zero_le _, Below.refl _ _, fun j q hj => absurd hj (Nat.not_lt_zero _)⟩
    case round =>
      obtain ⟨i, rfl, hi, hbr, HI⟩ := hrel
      have HRR : Hid (Rk wr K xb (.slice adv F.length capv) rv tv F X) := HR1.out.below hbr
      have c0r : wr.cell? ⟨xb, 0, none⟩ = some (.slice adv F.length capv) := HRR.out.xc.cell 0
      have q0r : wr.cell? ⟨W.heap.size, 0, none⟩ = some (str k) := (CB.out _ hbr).cell 0
      have HBD : Hid (∀ m, Below W1.heap.size W1 (wr.drewN m)) := fun m => hbr.trans ⟨rfl, rfl, rfl, Nat.le_refl _, fun _ _ => rfl⟩
      clear c0 q0 q1
      by_cases hil : i < F.length
      · obtain ⟨p, hp⟩ : ∃ p, F[i]? = some p := ⟨_, List.getElem?_eq_getElem hil⟩
        obtain ⟨g, cap, hv, hcap, d0, d1⟩ := fl_at HRR.out.fr hp
        cases hv
        have HP : Hid (F[i]? = some p) := hp
        clear hp d1
        cases hlt : Op.bytesLess p.1 k
        · have HHI : Hid (∀ q, F[i]? = some q → bytesBefore q.1 k = false ∧ q.1 ≠ k) := fun q hq => by
            rw [HP.out] at hq
            cases hq
            rw [bl_eq] at hlt
            have := HNE.out p (List.mem_of_getElem? HP.out)
            exact ⟨hlt, by simpa using this⟩
          go_wp2_with fail
          go_quiet (fail)
          obtain ⟨w4, hw4⟩ : ∃ w4, w4 = wr.drewN nq := ⟨_, rfl⟩
          have hb4' : Below W1.heap.size W1 w4 := by rw [hw4]; exact HBD.out _
          rw [← hw4]
          clear hw4 c0r q0r d0 HBD hlt
          have HR4 : Hid (Rk w4 K xb (.slice (some ⟨g, 0, none⟩) F.length capv) rv tv F X) := HR1.out.below hb4'
          have HOW : Hid (w4.ownsRow 0 73 2 (.slice (some ⟨g, 0, none⟩) F.length capv) F.length (flCs F)) := HR4.out.fr
          have hb4 := hb4'
          obtain ⟨xv1, hx1, HX1⟩ := cutF_ahead HOW.out i hi (by omega)
          obtain ⟨xv2, hx2, HX2⟩ := cutF_behind HOW.out i hi (by omega)
          obtain ⟨w5, hmk, ho5, hg5⟩ := run_make_own (P := Tryd.prog) w4.drew w4.heap.size 22 73 i0 _ 2 Tryd.underlying22 hi0 hz0 hz1 .i64 .i64 (F.length + 1) (by rw [hz2]; omega) (by have := maxLen_big; omega) (Nat.le_refl _)
          rw [show (((F.length + 1 : Nat)) : Int) = (F.length : Int) + 1 by omega] at hmk
          have hb2 : Below w4.heap.size w4 w5 := ((Below.refl _ w4).drew).grown hg5 (Nat.le_refl _) (fun q e => by cases e)
          have HO2 : Hid (w5.ownsRow w4.heap.size 73 2 (.slice (some ⟨w4.heap.size, 0, none⟩) 0 (F.length + 1)) 0 []) := ho5
          obtain ⟨O1, HE1⟩ : ∃ O1, Hid (F.take i = O1) := ⟨_, rfl⟩
          have hO1 : O1.length ≤ i := by rw [← HE1.out, List.length_take]; omega
          have HRB : Hid (∀ W', Below w4.heap.size w4 W' → Rk W' K xb (.slice (some ⟨g, 0, none⟩) F.length capv) rv tv F X) := fun W' hb => HR4.out.below hb
          have HXX1 : Hid (∀ W', Below w4.heap.size w4 W' → SrcF W' xv1 O1) := fun W' hb => by rw [← HE1.out]; exact HX1 W' (HRB.out W' hb).fr
          have HXX2 : Hid (∀ W', Below w4.heap.size w4 W' → SrcF W' xv2 (F.drop i)) := fun W' hb => HX2 W' (HRB.out W' hb).fr
          have HBX : Hid (∀ W', Below w4.heap.size w4 W' → Cel W' W.heap.size 73 #[str k, str d]) := fun W' hb => CB.out W' (hb4.trans (hb.mono hb4.size))
          have hS0 : Told1 xb 0 (.slice (some ⟨g, 0, none⟩) F.length capv) (World.drew w4) := HR4.out.xc.cell 0
          clear HX1 HX2 ho5 hg5
          go_upto_region 7 with fail
          refine wp_region_held (S := Told1 xb 0 (.slice (some ⟨g, 0, none⟩) F.length capv)) (by kernel_rfl) ?_
          change wpAnyH _ _ _ _ _ _ _ _ (World.drew _)
          refine wpAnyH_take (i := 0) (v := xP xb) rfl (by kernel_rfl) (by kernel_rfl) (by kernel_rfl) (fun _ _ _ h => h) (Yields.yieldsIf (Or.inl ⟨by rfl, by intro wz; go_simp⟩)) hS0 ?_
          try simp only [Act.put, List.getElem_toArray, List.getElem_cons_zero, List.setIfInBounds_toArray, List.set_cons_zero, List.set_cons_succ]
          refine wpAnyH_take (i := 1) (v := xP xb) rfl (by kernel_rfl) (by kernel_rfl) (by kernel_rfl) (fun _ _ _ h => h) (Yields.yieldsIf (Or.inl ⟨by rfl, by intro wz; go_simp⟩)) hS0 ?_
          try simp only [Act.put, List.getElem_toArray, List.getElem_cons_succ, List.getElem_cons_zero, List.setIfInBounds_toArray, List.set_cons_zero, List.set_cons_succ]
          refine wpAnyH_take (i := 2) (v := xP xb) rfl (by kernel_rfl) (by kernel_rfl) (by kernel_rfl) (fun _ _ _ h => h) (Yields.yieldsIf (Or.inl ⟨by rfl, by intro wz; go_simp⟩)) hS0 ?_
          try simp only [Act.put, List.getElem_toArray, List.getElem_cons_succ, List.getElem_cons_zero, List.setIfInBounds_toArray, List.set_cons_zero, List.set_cons_succ]
          refine wpAnyH_take (i := 3) (v := .slice (some ⟨g, 0, none⟩) F.length capv) rfl (by kernel_rfl) (by kernel_rfl) (by kernel_rfl) (fun _ _ _ h => h) (Or.inl ⟨by rfl, fun wz hS => by have s1 := hS.out; go_simp⟩) hS0 ?_
          try simp only [Act.put, List.getElem_toArray, List.getElem_cons_succ, List.getElem_cons_zero, List.setIfInBounds_toArray, List.set_cons_zero, List.set_cons_succ]
          refine wpAnyH_take (i := 4) (v := .int .i64 (F.length : Nat)) rfl (by kernel_rfl) (by kernel_rfl) (by kernel_rfl) (fun _ _ _ h => h) (Yields.yieldsIf (Or.inl ⟨by rfl, by intro wz; go_simp⟩)) hS0 ?_
          try simp only [Act.put, List.getElem_toArray, List.getElem_cons_succ, List.getElem_cons_zero, List.setIfInBounds_toArray, List.set_cons_zero, List.set_cons_succ]
          refine wpAnyH_take (i := 5) (v := .int .i64 ((F.length : Int) + 1)) rfl (by kernel_rfl) (by kernel_rfl) (by kernel_rfl) (fun _ _ _ h => h) (Yields.yieldsIf (Or.inl ⟨by rfl, by intro wz; go_simp; rw [IntKind.wrap_i64]; omega⟩)) hS0 ?_
          try simp only [Act.put, List.getElem_toArray, List.getElem_cons_succ, List.getElem_cons_zero, List.setIfInBounds_toArray, List.set_cons_zero, List.set_cons_succ]
          refine wpAnyH_take (i := 7) (v := xP xb) rfl (by kernel_rfl) (by kernel_rfl) (by kernel_rfl) (fun _ _ _ h => h) (Yields.yieldsIf (Or.inl ⟨by rfl, by intro wz; go_simp⟩)) hS0 ?_
          try simp only [Act.put, List.getElem_toArray, List.getElem_cons_succ, List.getElem_cons_zero, List.setIfInBounds_toArray, List.set_cons_zero, List.set_cons_succ]
          refine wpAnyH_take (i := 8) (v := xP xb) rfl (by kernel_rfl) (by kernel_rfl) (by kernel_rfl) (fun _ _ _ h => h) (Yields.yieldsIf (Or.inl ⟨by rfl, by intro wz; go_simp⟩)) hS0 ?_
          try simp only [Act.put, List.getElem_toArray, List.getElem_cons_succ, List.getElem_cons_zero, List.setIfInBounds_toArray, List.set_cons_zero, List.set_cons_succ]
          refine wpAnyH_take (i := 9) (v := xP xb) rfl (by kernel_rfl) (by kernel_rfl) (by kernel_rfl) (fun _ _ _ h => h) (Yields.yieldsIf (Or.inl ⟨by rfl, by intro wz; go_simp⟩)) hS0 ?_
          try simp only [Act.put, List.getElem_toArray, List.getElem_cons_succ, List.getElem_cons_zero, List.setIfInBounds_toArray, List.set_cons_zero, List.set_cons_succ]
          refine wpAnyH_take (i := 10) (v := .slice (some ⟨g, 0, none⟩) F.length capv) rfl (by kernel_rfl) (by kernel_rfl) (by kernel_rfl) (fun _ _ _ h => h) (Or.inl ⟨by rfl, fun wz hS => by have s1 := hS.out; go_simp⟩) hS0 ?_
          try simp only [Act.put, List.getElem_toArray, List.getElem_cons_succ, List.getElem_cons_zero, List.setIfInBounds_toArray, List.set_cons_zero, List.set_cons_succ]
          refine wpAnyH_take (i := 11) (v := .int .i64 (i : Nat)) rfl (by kernel_rfl) (by kernel_rfl) (by kernel_rfl) (fun _ _ _ h => h) (Yields.yieldsIf (Or.inl ⟨by rfl, by intro wz; go_simp⟩)) hS0 ?_
          try simp only [Act.put, List.getElem_toArray, List.getElem_cons_succ, List.getElem_cons_zero, List.setIfInBounds_toArray, List.set_cons_zero, List.set_cons_succ]
          refine wpAnyH_take (i := 12) (v := xv1) rfl (by kernel_rfl) (by kernel_rfl) (by kernel_rfl) (fun _ _ _ h => h) (Yields.yieldsIf (Or.inl ⟨by rfl, by intro wz; go_simp⟩)) hS0 ?_
          try simp only [Act.put, List.getElem_toArray, List.getElem_cons_succ, List.getElem_cons_zero, List.setIfInBounds_toArray, List.set_cons_zero, List.set_cons_succ]
          refine wpAnyH_ready (rs := [6]) (by kernel_rfl) (by simp) ?_
          refine AllReadyH.cons rfl (fun K' hK => ?_) AllReadyH.nil
          go_simp
          refine hK.out _ _ ((HRB.out _ hb2).xc.cell 0) (fun _ => ?_)
          clear hK K'
          try simp only [Act.put, List.getElem_toArray, List.getElem_cons_succ, List.getElem_cons_zero, List.setIfInBounds_toArray, List.set_cons_zero, List.set_cons_succ]
          refine wpAnyH_ready (rs := [13]) (by kernel_rfl) (by simp) ?_
          refine AllReadyH.cons rfl (fun K' hK => ?_) AllReadyH.nil
          refine step_srcF (O := []) (L := O1) _ _ rfl rfl rfl HO2.out (HXX1.out _ hb2) (by simp only [List.length_nil]; omega) hb2.size ?_
          intro v3 w3 ho3 hg3
          have hb3 : Below w4.heap.size w4 w3 := grown_own hb2.size hb2 HO2.out hg3
          rw [List.nil_append] at ho3
          have hS3 : Told1 xb 0 (.slice (some ⟨g, 0, none⟩) F.length capv) w3 := (HRB.out _ hb3).xc.cell 0
          refine hK.out _ _ hS3 (fun _ => ?_)
          clear hK K'
          try simp only [Act.put, List.getElem_toArray, List.getElem_cons_succ, List.getElem_cons_zero, List.setIfInBounds_toArray, List.set_cons_zero, List.set_cons_succ]
          obtain ⟨ad3, cap3, rfl⟩ := owns_slice ho3
          have HO3 : Hid (w3.ownsRow w4.heap.size 73 2 (.slice ad3 O1.length cap3) O1.length (flCs O1)) := ho3
          clear ho3 hg3 hS0
          have hS0 := hS3
          refine wpAnyH_take (i := 14) (v := .slice ad3 O1.length cap3) rfl (by kernel_rfl) (by kernel_rfl) (by kernel_rfl) (fun _ _ _ h => h) (Yields.yieldsIf (Or.inl ⟨by rfl, by intro wz; go_simp⟩)) hS0 ?_
          try simp only [Act.put, List.getElem_toArray, List.getElem_cons_succ, List.getElem_cons_zero, List.setIfInBounds_toArray, List.set_cons_zero, List.set_cons_succ]
          refine wpAnyH_done (by kernel_rfl) ?_ _
          clear hS0 hS3 hx1 hmk
          have q0 := (HBX.out _ hb3).cell 0
          have q1 := (HBX.out _ hb3).cell 1
          have hbA : Below w4.heap.size w4 (w3.alloc (.cells #[str k, str d] 73)) := hb3.alloc hb3.size _
          have hoA : (w3.alloc (.cells #[str k, str d] 73)).ownsRow w4.heap.size 73 2 (.slice ad3 O1.length cap3) O1.length (flCs O1) := HO3.out.alloc _
          have hz3 := hb3.size
          go_wp2_with (first | (at_builtin; refine wpList_append_own_at _ rfl _ _ 22 rfl w4.heap.size 73 i0 _ 2 32 Tryd.underlying22 hi0 hz0 hz1 hz2 rfl (by decide) _ _ _ rfl hoA ⟨w3.heap.size, 0, none⟩ 1 1 [str k, str d] rfl rfl (cells_new w3 _ 73) (flC_one (k, d)) (by have := maxLen_big; omega) (by omega) hbA.size ?_; intro v6 w6 hown6 hgrow6 _ _; obtain ⟨ad6, cap6, rfl⟩ := owns_slice hown6; have hb6 : Below w4.heap.size w4 w6 := grown_own hbA.size hbA hoA hgrow6; have HO6 : Hid (w6.ownsRow w4.heap.size 73 2 (.slice ad6 (O1.length + 1) cap6) (O1 ++ [(k, d)]).length (flCs (O1 ++ [(k, d)]))) := (by unfold Hid; rw [flCs_snoc, List.length_append]; exact hown6); have c6 : w6.cell? ⟨xb, 0, none⟩ = some (.slice (some ⟨g, 0, none⟩) F.length capv) := (HRB.out _ hb6).xc.cell 0; have hz6 := hb6.size; clear hown6 hgrow6 hoA hbA) | (at_builtin; refine wpList_srcF rfl _ _ rfl rfl rfl HO6.out (HXX2.out _ hb6) (by simp only [List.length_append, List.length_drop, List.length_singleton]; omega) hz6 ?_; intro v7 w7 ho7 hg7; obtain ⟨ad7, n7, cap7, rfl⟩ := owns_form ho7; have hb7 : Below w4.heap.size w4 w7 := grown_own hb6.size hb6 HO6.out hg7; have HO7 : Hid (w7.ownsRow w4.heap.size 73 2 (.slice ad7 n7 cap7) (O1 ++ [(k, d)] ++ F.drop i).length (flCs (O1 ++ [(k, d)] ++ F.drop i))) := ho7; have c7 : w7.cell? ⟨xb, 0, none⟩ = some (.slice (some ⟨g, 0, none⟩) F.length capv) := (HRB.out _ hb7).xc.cell 0; have f7 : w7.frozen? ⟨xb, 0, none⟩ = false := (HRB.out _ hb7).xc.frozen 0; clear ho7 hg7))
          have hfin : (O1 ++ [(k, d)] ++ F.drop i) = putF F k d := by rw [put_ins F k d HNE.out, insF_split (k, d) F i hi HI.out HHI.out, ← HE1.out, List.append_assoc]; rfl
          have ho7 := HO7.out
          rw [hfin] at ho7
          go_end0
          exact ⟨rfl, .slice ad7 n7 cap7, Kn w4 w7 K, (HRB.out _ hb7).setF (owns_lower ho7 (Nat.zero_le _)) (fun _ h => .inl h) (fun b hb => .inr (ho7.lt b hb)) (Kn.lt HR4.out.lt hb7.size), ((Turn.ofBelow (hb1.trans ((hb4.trans (hb7.mono hb4.size)).mono hb1.size))).trans (turn_set _ _ _ _) (fun j e _ => by subst e; exact HR4.out.Kx)), fun j hj => hj.imp id (fun h => Nat.le_trans (Nat.le_trans hb1.size hb4.size) h.1)⟩
        · have HI2 : Hid (∀ j q, j < i + 1 → F[j]? = some q → bytesBefore q.1 k = true) := fun j q hj hq => by
            rcases Nat.lt_or_ge j i with h1 | h1
            · exact HI.out j q h1 hq
            · rw [show j = i by omega, HP.out] at hq
              cases hq
              rw [bl_eq] at hlt
              exact hlt
          go_wp2_with fail
          go_quiet (fail)
          have hb3 := HBD.out nq
          go_wp2_with fail
          exact ⟨⟨i + 1, by simp, by omega, hb3, HI2⟩, by simp [intOf]; omega⟩
      · have hiz : i = F.length := by omega
        have HHI : Hid (∀ q, F[i]? = some q → bytesBefore q.1 k = false ∧ q.1 ≠ k) := fun q hq => by
          have := (List.getElem?_eq_some_iff.1 hq).1
          omega
        clear hiz
        go_wp2_with fail
        go_quiet (fail)
        obtain ⟨w4, hw4⟩ : ∃ w4, w4 = wr.drewN nq := ⟨_, rfl⟩
        have hb4 : Below W1.heap.size W1 w4 := by rw [hw4]; exact HBD.out _
        rw [← hw4]
        clear hw4 c0r q0r HBD
        have HR4 : Hid (Rk w4 K xb (.slice adv F.length capv) rv tv F X) := HR1.out.below hb4
        have HOW : Hid (w4.ownsRow 0 73 2 (.slice adv F.length capv) F.length (flCs F)) := HR4.out.fr
        obtain ⟨xv1, hx1, HX1⟩ := cutF_ahead HOW.out i hi (by omega)
        obtain ⟨xv2, hx2, HX2⟩ := cutF_behind HOW.out i hi (by omega)
        obtain ⟨w5, hmk, ho5, hg5⟩ := run_make_own (P := Tryd.prog) w4.drew w4.heap.size 22 73 i0 _ 2 Tryd.underlying22 hi0 hz0 hz1 .i64 .i64 (F.length + 1) (by rw [hz2]; omega) (by have := maxLen_big; omega) (Nat.le_refl _)
        rw [show (((F.length + 1 : Nat)) : Int) = (F.length : Int) + 1 by omega] at hmk
        have hb2 : Below w4.heap.size w4 w5 := ((Below.refl _ w4).drew).grown hg5 (Nat.le_refl _) (fun q e => by cases e)
        have HO2 : Hid (w5.ownsRow w4.heap.size 73 2 (.slice (some ⟨w4.heap.size, 0, none⟩) 0 (F.length + 1)) 0 []) := ho5
        obtain ⟨O1, HE1⟩ : ∃ O1, Hid (F.take i = O1) := ⟨_, rfl⟩
        have hO1 : O1.length ≤ i := by rw [← HE1.out, List.length_take]; omega
        have HRB : Hid (∀ W', Below w4.heap.size w4 W' → Rk W' K xb (.slice adv F.length capv) rv tv F X) := fun W' hb => HR4.out.below hb
        have HXX1 : Hid (∀ W', Below w4.heap.size w4 W' → SrcF W' xv1 O1) := fun W' hb => by rw [← HE1.out]; exact HX1 W' (HRB.out W' hb).fr
        have HXX2 : Hid (∀ W', Below w4.heap.size w4 W' → SrcF W' xv2 (F.drop i)) := fun W' hb => HX2 W' (HRB.out W' hb).fr
        have HBX : Hid (∀ W', Below w4.heap.size w4 W' → Cel W' W.heap.size 73 #[str k, str d]) := fun W' hb => CB.out W' (hb4.trans (hb.mono hb4.size))
        have hS0 : Told1 xb 0 (.slice adv F.length capv) (World.drew w4) := HR4.out.xc.cell 0
        clear HX1 HX2 ho5 hg5
        go_upto_region 7 with fail
        refine wp_region_held (S := Told1 xb 0 (.slice adv F.length capv)) (by kernel_rfl) ?_
        change wpAnyH _ _ _ _ _ _ _ _ (World.drew _)
        refine wpAnyH_take (i := 0) (v := xP xb) rfl (by kernel_rfl) (by kernel_rfl) (by kernel_rfl) (fun _ _ _ h => h) (Yields.yieldsIf (Or.inl ⟨by rfl, by intro wz; go_simp⟩)) hS0 ?_
        try simp only [Act.put, List.getElem_toArray, List.getElem_cons_zero, List.setIfInBounds_toArray, List.set_cons_zero, List.set_cons_succ]
        refine wpAnyH_take (i := 1) (v := xP xb) rfl (by kernel_rfl) (by kernel_rfl) (by kernel_rfl) (fun _ _ _ h => h) (Yields.yieldsIf (Or.inl ⟨by rfl, by intro wz; go_simp⟩)) hS0 ?_
        try simp only [Act.put, List.getElem_toArray, List.getElem_cons_succ, List.getElem_cons_zero, List.setIfInBounds_toArray, List.set_cons_zero, List.set_cons_succ]
        refine wpAnyH_take (i := 2) (v := xP xb) rfl (by kernel_rfl) (by kernel_rfl) (by kernel_rfl) (fun _ _ _ h => h) (Yields.yieldsIf (Or.inl ⟨by rfl, by intro wz; go_simp⟩)) hS0 ?_
        try simp only [Act.put, List.getElem_toArray, List.getElem_cons_succ, List.getElem_cons_zero, List.setIfInBounds_toArray, List.set_cons_zero, List.set_cons_succ]
        refine wpAnyH_take (i := 3) (v := .slice adv F.length capv) rfl (by kernel_rfl) (by kernel_rfl) (by kernel_rfl) (fun _ _ _ h => h) (Or.inl ⟨by rfl, fun wz hS => by have s1 := hS.out; go_simp⟩) hS0 ?_
        try simp only [Act.put, List.getElem_toArray, List.getElem_cons_succ, List.getElem_cons_zero, List.setIfInBounds_toArray, List.set_cons_zero, List.set_cons_succ]
        refine wpAnyH_take (i := 4) (v := .int .i64 (F.length : Nat)) rfl (by kernel_rfl) (by kernel_rfl) (by kernel_rfl) (fun _ _ _ h => h) (Yields.yieldsIf (Or.inl ⟨by rfl, by intro wz; go_simp⟩)) hS0 ?_
        try simp only [Act.put, List.getElem_toArray, List.getElem_cons_succ, List.getElem_cons_zero, List.setIfInBounds_toArray, List.set_cons_zero, List.set_cons_succ]
        refine wpAnyH_take (i := 5) (v := .int .i64 ((F.length : Int) + 1)) rfl (by kernel_rfl) (by kernel_rfl) (by kernel_rfl) (fun _ _ _ h => h) (Yields.yieldsIf (Or.inl ⟨by rfl, by intro wz; go_simp; rw [IntKind.wrap_i64]; omega⟩)) hS0 ?_
        try simp only [Act.put, List.getElem_toArray, List.getElem_cons_succ, List.getElem_cons_zero, List.setIfInBounds_toArray, List.set_cons_zero, List.set_cons_succ]
        refine wpAnyH_take (i := 7) (v := xP xb) rfl (by kernel_rfl) (by kernel_rfl) (by kernel_rfl) (fun _ _ _ h => h) (Yields.yieldsIf (Or.inl ⟨by rfl, by intro wz; go_simp⟩)) hS0 ?_
        try simp only [Act.put, List.getElem_toArray, List.getElem_cons_succ, List.getElem_cons_zero, List.setIfInBounds_toArray, List.set_cons_zero, List.set_cons_succ]
        refine wpAnyH_take (i := 8) (v := xP xb) rfl (by kernel_rfl) (by kernel_rfl) (by kernel_rfl) (fun _ _ _ h => h) (Yields.yieldsIf (Or.inl ⟨by rfl, by intro wz; go_simp⟩)) hS0 ?_
        try simp only [Act.put, List.getElem_toArray, List.getElem_cons_succ, List.getElem_cons_zero, List.setIfInBounds_toArray, List.set_cons_zero, List.set_cons_succ]
        refine wpAnyH_take (i := 9) (v := xP xb) rfl (by kernel_rfl) (by kernel_rfl) (by kernel_rfl) (fun _ _ _ h => h) (Yields.yieldsIf (Or.inl ⟨by rfl, by intro wz; go_simp⟩)) hS0 ?_
        try simp only [Act.put, List.getElem_toArray, List.getElem_cons_succ, List.getElem_cons_zero, List.setIfInBounds_toArray, List.set_cons_zero, List.set_cons_succ]
        refine wpAnyH_take (i := 10) (v := .slice adv F.length capv) rfl (by kernel_rfl) (by kernel_rfl) (by kernel_rfl) (fun _ _ _ h => h) (Or.inl ⟨by rfl, fun wz hS => by have s1 := hS.out; go_simp⟩) hS0 ?_
        try simp only [Act.put, List.getElem_toArray, List.getElem_cons_succ, List.getElem_cons_zero, List.setIfInBounds_toArray, List.set_cons_zero, List.set_cons_succ]
        refine wpAnyH_take (i := 11) (v := .int .i64 (i : Nat)) rfl (by kernel_rfl) (by kernel_rfl) (by kernel_rfl) (fun _ _ _ h => h) (Yields.yieldsIf (Or.inl ⟨by rfl, by intro wz; go_simp⟩)) hS0 ?_
        try simp only [Act.put, List.getElem_toArray, List.getElem_cons_succ, List.getElem_cons_zero, List.setIfInBounds_toArray, List.set_cons_zero, List.set_cons_succ]
        refine wpAnyH_take (i := 12) (v := xv1) rfl (by kernel_rfl) (by kernel_rfl) (by kernel_rfl) (fun _ _ _ h => h) (Yields.yieldsIf (Or.inl ⟨by rfl, by intro wz; go_simp⟩)) hS0 ?_
        try simp only [Act.put, List.getElem_toArray, List.getElem_cons_succ, List.getElem_cons_zero, List.setIfInBounds_toArray, List.set_cons_zero, List.set_cons_succ]
        refine wpAnyH_ready (rs := [6]) (by kernel_rfl) (by simp) ?_
        refine AllReadyH.cons rfl (fun K' hK => ?_) AllReadyH.nil
        go_simp
        refine hK.out _ _ ((HRB.out _ hb2).xc.cell 0) (fun _ => ?_)
        clear hK K'
        try simp only [Act.put, List.getElem_toArray, List.getElem_cons_succ, List.getElem_cons_zero, List.setIfInBounds_toArray, List.set_cons_zero, List.set_cons_succ]
        refine wpAnyH_ready (rs := [13]) (by kernel_rfl) (by simp) ?_
        refine AllReadyH.cons rfl (fun K' hK => ?_) AllReadyH.nil
        refine step_srcF (O := []) (L := O1) _ _ rfl rfl rfl HO2.out (HXX1.out _ hb2) (by simp only [List.length_nil]; omega) hb2.size ?_
        intro v3 w3 ho3 hg3
        have hb3 : Below w4.heap.size w4 w3 := grown_own hb2.size hb2 HO2.out hg3
        rw [List.nil_append] at ho3
        have hS3 : Told1 xb 0 (.slice adv F.length capv) w3 := (HRB.out _ hb3).xc.cell 0
        refine hK.out _ _ hS3 (fun _ => ?_)
        clear hK K'
        try simp only [Act.put, List.getElem_toArray, List.getElem_cons_succ, List.getElem_cons_zero, List.setIfInBounds_toArray, List.set_cons_zero, List.set_cons_succ]
        obtain ⟨ad3, cap3, rfl⟩ := owns_slice ho3
        have HO3 : Hid (w3.ownsRow w4.heap.size 73 2 (.slice ad3 O1.length cap3) O1.length (flCs O1)) := ho3
        clear ho3 hg3 hS0
        have hS0 := hS3
        refine wpAnyH_take (i := 14) (v := .slice ad3 O1.length cap3) rfl (by kernel_rfl) (by kernel_rfl) (by kernel_rfl) (fun _ _ _ h => h) (Yields.yieldsIf (Or.inl ⟨by rfl, by intro wz; go_simp⟩)) hS0 ?_
        try simp only [Act.put, List.getElem_toArray, List.getElem_cons_succ, List.getElem_cons_zero, List.setIfInBounds_toArray, List.set_cons_zero, List.set_cons_succ]
        refine wpAnyH_done (by kernel_rfl) ?_ _
        clear hS0 hS3 hx1 hmk
        have q0 := (HBX.out _ hb3).cell 0
        have q1 := (HBX.out _ hb3).cell 1
        have hbA : Below w4.heap.size w4 (w3.alloc (.cells #[str k, str d] 73)) := hb3.alloc hb3.size _
        have hoA : (w3.alloc (.cells #[str k, str d] 73)).ownsRow w4.heap.size 73 2 (.slice ad3 O1.length cap3) O1.length (flCs O1) := HO3.out.alloc _
        have hz3 := hb3.size
        go_wp2_with (first | (at_builtin; refine wpList_append_own_at _ rfl _ _ 22 rfl w4.heap.size 73 i0 _ 2 32 Tryd.underlying22 hi0 hz0 hz1 hz2 rfl (by decide) _ _ _ rfl hoA ⟨w3.heap.size, 0, none⟩ 1 1 [str k, str d] rfl rfl (cells_new w3 _ 73) (flC_one (k, d)) (by have := maxLen_big; omega) (by omega) hbA.size ?_; intro v6 w6 hown6 hgrow6 _ _; obtain ⟨ad6, cap6, rfl⟩ := owns_slice hown6; have hb6 : Below w4.heap.size w4 w6 := grown_own hbA.size hbA hoA hgrow6; have HO6 : Hid (w6.ownsRow w4.heap.size 73 2 (.slice ad6 (O1.length + 1) cap6) (O1 ++ [(k, d)]).length (flCs (O1 ++ [(k, d)]))) := (by unfold Hid; rw [flCs_snoc, List.length_append]; exact hown6); have c6 : w6.cell? ⟨xb, 0, none⟩ = some (.slice adv F.length capv) := (HRB.out _ hb6).xc.cell 0; have hz6 := hb6.size; clear hown6 hgrow6 hoA hbA) | (at_builtin; refine wpList_srcF rfl _ _ rfl rfl rfl HO6.out (HXX2.out _ hb6) (by simp only [List.length_append, List.length_drop, List.length_singleton]; omega) hz6 ?_; intro v7 w7 ho7 hg7; obtain ⟨ad7, n7, cap7, rfl⟩ := owns_form ho7; have hb7 : Below w4.heap.size w4 w7 := grown_own hb6.size hb6 HO6.out hg7; have HO7 : Hid (w7.ownsRow w4.heap.size 73 2 (.slice ad7 n7 cap7) (O1 ++ [(k, d)] ++ F.drop i).length (flCs (O1 ++ [(k, d)] ++ F.drop i))) := ho7; have c7 : w7.cell? ⟨xb, 0, none⟩ = some (.slice adv F.length capv) := (HRB.out _ hb7).xc.cell 0; have f7 : w7.frozen? ⟨xb, 0, none⟩ = false := (HRB.out _ hb7).xc.frozen 0; clear ho7 hg7))
        have hfin : (O1 ++ [(k, d)] ++ F.drop i) = putF F k d := by rw [put_ins F k d HNE.out, insF_split (k, d) F i hi HI.out HHI.out, ← HE1.out, List.append_assoc]; rfl
        have ho7 := HO7.out
        rw [hfin] at ho7
        go_end0
        exact ⟨rfl, .slice ad7 n7 cap7, Kn w4 w7 K, (HRB.out _ hb7).setF (owns_lower ho7 (Nat.zero_le _)) (fun _ h => .inl h) (fun b hb => .inr (ho7.lt b hb)) (Kn.lt HR4.out.lt hb7.size), ((Turn.ofBelow (hb1.trans ((hb4.trans (hb7.mono hb4.size)).mono hb1.size))).trans (turn_set _ _ _ _) (fun j e _ => by subst e; exact HR4.out.Kx)), fun j hj => hj.imp id (fun h => Nat.le_trans (Nat.le_trans hb1.size hb4.size) h.1)⟩
end Go.Proofs.YthhghkjgffcpeaaDoor

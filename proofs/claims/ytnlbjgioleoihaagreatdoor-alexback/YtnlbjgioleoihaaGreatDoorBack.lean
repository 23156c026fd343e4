/- The law: a source of a source's tokens has these tokens, flat. -/
import Derived.Test.YtnlbjgioleoihaaGreatDoorBp6
import Derived.Test.YtnlbjgioleoihaaGreatDoorBp7
import Derived.Test.YtnlbjgioleoihaaGreatDoorPl
namespace Go.Proofs.YtnlbjgioleoihaaGreatDoor
open Go.RowKit
attribute [local go_sem] Oper.semAt_some

set_option maxRecDepth 100000 in
set_option maxHeartbeats 4000000 in
theorem back_long (s : ByteArray) (W : World) (ea : Nat → Addr) (hE : Env W ea) (hW : (ea 64).block ≤ W.heap.size) (hs : 1500 < s.size) :
    Calls Tryz.prog 3 #[.string s] W fun e w' => e = .returned (.bool true) ∧ Below W.heap.size W w' := by
  have HF : Hid _ := first_any W ea hE hW
  have hs' : (1500 : Int) < (s.size : Int) := by omega
  clear hE
  go_enter Tryz.func3, Tryz.ntmps3
  go_wp2_with fail
  refine Calls.mono HF.out ?_
  rintro e w1 ⟨rfl, hb1⟩
  have HB1 : Hid (Below W.heap.size W w1) := hb1
  clear hb1 HF
  go_wp2_with fail
  go_ret
  exact ⟨rfl, HB1.out⟩
set_option maxRecDepth 100000 in
set_option maxHeartbeats 4000000 in
theorem back_err (s : ByteArray) (W : World) (ea : Nat → Addr) (hE : Env W ea) (hW : (ea 64).block ≤ W.heap.size) (hs : s.size ≤ 1500) (x : Er) (hx : lexL s.data.toList = .error x) :
    Calls Tryz.prog 3 #[.string s] W fun e w' => e = .returned (.bool true) ∧ Below W.heap.size W w' := by
  have HF : Hid _ := first_any W ea hE hW
  have hs' : ¬ (1500 : Int) < (s.size : Int) := by omega
  have hd' : decide ((1500 : Int) < (s.size : Int)) = false := by simp; omega
  have HE : Hid (∀ w, Below W.heap.size W w → Env w ea) := fun w hb => hE.below hb
  have HX : Hid (lexL s.data.toList = .error x) := hx
  clear hE hx
  go_enter Tryz.func3, Tryz.ntmps3
  go_wp2_with fail
  refine Calls.mono HF.out ?_
  rintro e w1 ⟨rfl, hb1⟩
  have HB1 : Hid (Below W.heap.size W w1) := hb1
  have HL := lex_any s w1 ea (HE.out _ hb1) (Nat.le_trans hW hb1.size) (by omega)
  rw [HX.out] at HL
  have HLX : Hid _ := HL
  clear HL hb1 HF
  go_wp2_with fail
  refine Calls.mono HLX.out ?_
  rintro e w2 ⟨v, ev, rfl, ⟨rfl, q, rfl, _⟩, hb2⟩
  have HB2 : Hid (Below W.heap.size W w2) := HB1.out.trans (Below.mono hb2 HB1.out.size)
  clear hb2 HLX HB1
  go_wp2_with fail
  go_ret
  exact ⟨rfl, HB2.out⟩
theorem gp_len {p : Pt} (h : GP p) : p.s.length ≤ (prPt p).length := by
  by_cases h3 : 3 ≤ p.kind
  · rw [prPt_any h h3]
    have : p.s.length ≤ (prDol p).length := by
      cases h with
      | txt a s => simp at h3
      | dead a s => simp at h3
      | star a q => show 1 ≤ 2; omega
      | var a q s h => rw [prDol_var h]; simp; omega
      | sub a q s h => show s.length ≤ (36 :: 40 :: (s ++ [41]) : List UInt8).length; simp; omega
      | num a n q h1 h9 => simp
      | many a q => simp
    split
    · simp; omega
    · exact this
  · cases h with
    | txt a s h hl => exact Nat.le_refl _
    | dead a s =>
      rw [prPt_dead]
      have : ∀ s : List UInt8, s.length ≤ (escS s).length := fun s => by
        induction s with
        | nil => simp
        | cons c t ih => rw [escS, List.length_append, List.length_cons]; split <;> simp <;> omega
      have := this s
      simp
      omega
    | star a q => exact absurd (by simp) h3
    | var a q s h => exact absurd (by simp) h3
    | sub a q s h => exact absurd (by simp) h3
    | num a n q h1 h9 => exact absurd (by simp) h3
    | many a q => exact absurd (by simp) h3
theorem gp_pos {p : Pt} (h : GP p) : 1 ≤ (prPt p).length := by
  by_cases h3 : 3 ≤ p.kind
  · rw [prPt_any h h3]
    have := prDol_ne h h3
    split
    · simp
    · exact List.length_pos_iff.2 this
  · cases h with
    | txt a s h hl => exact List.length_pos_iff.2 h
    | dead a s => rw [prPt_dead]; simp
    | star a q => exact absurd (by simp) h3
    | var a q s h => exact absurd (by simp) h3
    | sub a q s h => exact absurd (by simp) h3
    | num a n q h1 h9 => exact absurd (by simp) h3
    | many a q => exact absurd (by simp) h3
theorem gw_all {ps : List Pt} (h : GW ps) : (∀ p ∈ ps, GP p ∧ p.s.length ≤ (prW ps).length) ∧ ps.length ≤ (prW ps).length := by
  induction h with
  | nil => exact ⟨by simp, by simp⟩
  | @cons p ps g1 g2 g3 ih =>
    obtain ⟨i1, i2⟩ := ih
    have h1 := gp_len g1
    have h2 := gp_pos g1
    rw [prW, List.length_append]
    refine ⟨fun q hq => ?_, by rw [List.length_cons]; omega⟩
    rcases List.mem_cons.1 hq with rfl | hq
    · exact ⟨g1, by omega⟩
    · have := i1 q hq
      exact ⟨this.1, by omega⟩
/-- What a list of tokens that is read bounds. -/
def TokM (M : Nat) (t : Tk) : Prop := (t.kind < 13 ∨ t.kind = 13) ∧ (∀ p ∈ t.parts, GP p ∧ p.s.length ≤ M) ∧ t.parts.length ≤ M ∧ (prW t.parts).length ≤ M
theorem TokM.tokP {M : Nat} {t : Tk} (h : TokM M t) (hM : M ≤ 8192) : TokP t := by
  obtain ⟨h1, h2, h3, h4⟩ := h
  rcases h1 with h1 | h1
  · exact .inl h1
  · exact .inr ⟨h1, fun p hp => ⟨(h2 p hp).1, by have := (h2 p hp).2; omega⟩, by omega, by omega⟩
theorem tg_all {ts : List Tk} (h : TG ts) {M : Nat} (hM : (prR ts).length ≤ M) : (∀ t ∈ ts, TokM M t) ∧ ts.length ≤ (prR ts).length + 1 := by
  induction h with
  | @one t h0 hp =>
    refine ⟨fun x hx => ?_, by simp⟩
    rw [List.mem_singleton.1 hx]
    exact ⟨.inl (by omega), by rw [hp]; simp, by rw [hp]; simp, by rw [hp]; simp [prW]⟩
  | @cons t ts hg hts ih =>
    rw [prR, if_neg hg.ne] at hM ⊢
    simp only [List.length_append, List.length_cons, List.length_nil] at hM ⊢
    obtain ⟨i1, i2⟩ := ih (by omega)
    refine ⟨fun x hx => ?_, by omega⟩
    rcases List.mem_cons.1 hx with rfl | hx
    · rcases hg with ⟨k1, k2, k3⟩ | ⟨k1, k2, k3⟩
      · exact ⟨.inl (by omega), by rw [k3]; simp, by rw [k3]; simp, by rw [k3]; simp [prW]⟩
      · have e : prTk x = prW x.parts := by rw [prTk, if_pos k1]
        rw [e] at hM
        obtain ⟨j1, j2⟩ := gw_all k2
        refine ⟨.inr k1, fun p hp => ⟨(j1 p hp).1, ?_⟩, by omega, by omega⟩
        have := (j1 p hp).2; omega
    · exact i1 x hx
/-- The cells of two tokens that stand side by side. -/
abbrev SixS (g1 g2 i kd p1 p2 : Nat) (v1 v2 : Value) (w : World) : Prop :=
  w.cell? ⟨g1, i * 3, none⟩ = some (.int .i64 (kd : Nat)) ∧ w.cell? ⟨g1, i * 3 + 1, none⟩ = some (.int .i64 (p1 : Nat)) ∧ w.cell? ⟨g1, i * 3 + 2, none⟩ = some v1 ∧
    w.cell? ⟨g2, i * 3, none⟩ = some (.int .i64 (kd : Nat)) ∧ w.cell? ⟨g2, i * 3 + 1, none⟩ = some (.int .i64 (p2 : Nat)) ∧ w.cell? ⟨g2, i * 3 + 2, none⟩ = some v2
set_option maxRecDepth 100000 in
set_option maxHeartbeats 8000000 in
theorem back_ok (s : ByteArray) (W : World) (ea : Nat → Addr) (hE : Env W ea) (hM : MLx W) (hW : (ea 64).block ≤ W.heap.size) (hs : s.size ≤ 1500) (ts : List Tk) (hx : lexL s.data.toList = .ok ts) :
    Calls Tryz.prog 3 #[.string s] W fun e w' => e = .returned (.bool true) ∧ Below W.heap.size W w' := by
  have HF : Hid _ := first_any W ea hE hW
  have hs' : ¬ (1500 : Int) < (s.size : Int) := by omega
  have hd' : decide ((1500 : Int) < (s.size : Int)) = false := by simp; omega
  have HE : Hid (∀ w, Below W.heap.size W w → Env w ea) := fun w hb => hE.below hb
  have HML : Hid (∀ w, Below W.heap.size W w → MLx w) := fun w hb => hM.up hb
  have hz : s.data.toList.length = s.size := by simp
  obtain ⟨t1, t2⟩ := lex_tg (N := s.data.toList.length) (s.data.toList.length + 1) s.data.toList ts (by omega) hx
  obtain ⟨_, b2, ms, b3, b4⟩ := lex_back hx
  obtain ⟨u1, u2⟩ := tg_all t1 t2
  obtain ⟨t3, t4⟩ := lex_tg (N := (prL ts).length) ((prL ts).length + 1) (prL ts) ms (by omega) b3
  obtain ⟨u3, u4⟩ := tg_all t3 t4
  have HT1 : Hid (∀ t ∈ ts, TokM (4 * s.data.toList.length) t) := u1
  have HT2 : Hid (∀ t ∈ ms, TokM (4 * (prL ts).length) t) := u3
  have HMA : Hid (Mates ts ms) := b4
  have hml := b4.len
  have htl : ts.length ≤ 6001 := by omega
  have HX : Hid (lexL s.data.toList = .ok ts) := hx
  have HX2 : Hid (lexL (prL ts) = .ok ms) := b3
  have hpl : (prL ts).length ≤ 6000 := by omega
  clear hE hM hx b2 b3 b4 t1 t2 t3 t4 u1 u2 u3 u4
  go_enter Tryz.func3, Tryz.ntmps3
  go_wp2_with fail
  refine Calls.mono HF.out ?_
  rintro e w1 ⟨rfl, hb1⟩
  have HB1 : Hid (Below W.heap.size W w1) := hb1
  have HL := lex_any s w1 ea (HE.out _ hb1) (Nat.le_trans hW hb1.size) (by omega)
  rw [HX.out] at HL
  have HLX : Hid _ := HL
  clear HL hb1 HF
  go_wp2_with fail
  refine Calls.mono HLX.out ?_
  rintro e w2 ⟨v, ev, rfl, ⟨rfl, K, hK, hO⟩, hb2⟩
  have HB2 : Hid (Below W.heap.size W w2) := HB1.out.trans (Below.mono hb2 HB1.out.size)
  have hKl : K.length = ts.length := by rw [← hK, List.length_map]
  have HPR := print_any (HE.out _ HB2.out) (HML.out _ HB2.out) hO (fun q hq => (HT1.out q.2 (by rw [← hK]; exact List.mem_map_of_mem hq)).tokP (by omega)) (by omega) (by rw [hK]; omega)
  rw [hK] at HPR
  have HPX : Hid _ := HPR
  have HKM : Hid (K.map Prod.snd = ts) := hK
  have HKL : Hid (K.length = ts.length) := hKl
  have hKb : K.length ≤ 6001 := by omega
  have HO2 : Hid (TkOwn w2 w1.heap.size v K) := hO
  obtain ⟨ad, cap, rfl⟩ := hO.form
  have HML2 : Hid (ms.length = ts.length) := hml
  clear hb2 HLX hO HB1 HPR hK hKl hml
  go_wp2_with fail
  refine Calls.mono HPX.out ?_
  rintro e w3 ⟨rfl, hb3⟩
  have HB3 : Hid (Below W.heap.size W w3) := HB2.out.trans (hb3.mono HB2.out.size)
  have HO3 : Hid (TkOwn w3 w1.heap.size (.slice ad K.length cap) K) := HO2.out.below hb3
  have HL := lex_any ⟨(prL ts).toArray⟩ w3 ea (HE.out _ HB3.out) (Nat.le_trans hW HB3.out.size) (by show (prL ts).length ≤ 8192; omega)
  rw [show (⟨(prL ts).toArray⟩ : ByteArray).data.toList = prL ts from rfl, HX2.out] at HL
  have HL2 : Hid _ := HL
  clear HL hb3 HPX HO2 HB2 HML HE
  go_wp2_with fail
  refine Calls.mono HL2.out ?_
  rintro e w4 ⟨v4, ev4, rfl, ⟨rfl, K2, hK2, hO4⟩, hb4⟩
  have HB4 : Hid (Below W.heap.size W w4) := HB3.out.trans (Below.mono hb4 HB3.out.size)
  have h1 : TkOwn w4 w1.heap.size (.slice ad K.length cap) K := HO3.out.below hb4
  have hKl2 : K2.length = ms.length := by rw [← hK2, List.length_map]
  have hKl := HKL.out
  have hml := HML2.out
  obtain ⟨a2, c2, rfl⟩ := hO4.form
  have HG : Hid (∀ (k : Nat), k < K.length → ∃ g1 g2 kd p1 p2 v1 v2 X1 X2, ad = some ⟨g1, 0, none⟩ ∧ a2 = some ⟨g2, 0, none⟩ ∧ (∀ w, Below w4.heap.size w4 w → SixS g1 g2 k kd p1 p2 v1 v2 w) ∧ (∀ w, Below w4.heap.size w4 w → PtOwn w w1.heap.size v1 X1 ∧ PtOwn w w3.heap.size v2 X2) ∧ (X1.length ≤ 100000 ∧ ∀ p ∈ X1, p.s.length ≤ 100000) ∧ (X2.length ≤ 100000 ∧ ∀ p ∈ X2, p.s.length ≤ 100000) ∧ (X1.foldl fStep []).map strip = (X2.foldl fStep []).map strip) := fun k hk => by
    have e1 : K[k]? = some K[k] := List.getElem?_eq_getElem _
    have e2 : K2[k]? = some (K2[k]'(by omega)) := List.getElem?_eq_getElem _
    generalize K[k] = q1 at e1
    generalize K2[k]'(by omega) = q2 at e2
    have m1 : ts[k]? = some q1.2 := by rw [← HKM.out, List.getElem?_map, e1]; rfl
    have m2 : ms[k]? = some q2.2 := by rw [← hK2, List.getElem?_map, e2]; rfl
    have hma := HMA.out.get k _ _ m1 m2
    have x1 := HT1.out q1.2 (List.mem_of_getElem? m1)
    have x2 := HT2.out q2.2 (List.mem_of_getElem? m2)
    obtain ⟨g1, f1, r1, s1⟩ := h1.get (fun e => by rw [e] at hk; simp at hk)
    obtain ⟨g2, f2, r2, s2⟩ := hO4.get (fun e => by rw [e] at hKl2; simp at hKl2; omega)
    obtain ⟨rfl, _, _⟩ := Value.slice.inj r1
    obtain ⟨rfl, _, _⟩ := Value.slice.inj r2
    have p1 := h1.parts q1 (List.mem_of_getElem? e1)
    have p2 := hO4.parts q2 (List.mem_of_getElem? e2)
    refine ⟨g1, g2, q1.2.kind, q1.2.pos, q2.2.pos, q1.1, q2.1, q1.2.parts, q2.2.parts, rfl, rfl, fun w hb => ?_, fun w hb => ⟨p1.below hb, p2.below hb⟩, ⟨by have := x1.2.2.1; omega, fun p hp => by have := (x1.2.1 p hp).2; omega⟩, ⟨by have := x2.2.2.1; omega, fun p hp => by have := (x2.2.1 p hp).2; omega⟩, ?_⟩
    · have cc : ∀ (a : Addr) (u : Value), w4.cell? a = some u → w.cell? a = some u := fun a u hu => (hb.cell (World.block_lt_of_cell? w4 _ hu)).trans hu
      have z0 := s2 k _ e2 0 _ rfl
      rw [← hma.1] at z0
      exact ⟨cc _ _ (s1 k _ e1 0 _ rfl), cc _ _ (s1 k _ e1 1 _ rfl), cc _ _ (s1 k _ e1 2 _ rfl), cc _ _ z0, cc _ _ (s2 k _ e2 1 _ rfl), cc _ _ (s2 k _ e2 2 _ rfl)⟩
    · rw [fold_strip, fold_strip]
      exact (hma.2 _).symm
  rw [hKl2, hml, ← hKl]
  have hne : ((K.length : Int) == (K.length : Int)) = true := beq_self_eq_true _
  clear h1 hO4 hb4 HL2 HO3 HB3 HMA HT1 HT2 hml HX HX2 HKM hK2 hKl2 hKl HKL HML2
  go_wp2_with fail
  go_loopw [2, 8] (fun v2 v8 wr => ∃ k : Nat, v2 = .bool false ∧ v8 = .int .i64 (k : Nat) ∧ k ≤ K.length ∧ Hid (Below w4.heap.size w4 wr)) (fun _ v8 _ => K.length - (intOf v8).toNat)
  case atStart => exact ⟨0, rfl, rfl, Nat.zero_le _, Below.refl _ _⟩
  case round =>
    obtain ⟨k, rfl, rfl, hk, HB⟩ := hrel
    by_cases hlt : k < K.length
    · have hlt' : (k : Int) < (K.length : Int) := by omega
      obtain ⟨g1, g2, kd, p1, p2, v1, v2, X1, X2, rfl, rfl, hsx, hpp, hx1, hx2, hfl⟩ := HG.out k hlt
      obtain ⟨a1, n1, d1, rfl⟩ : ∃ a1 n1 d1, v1 = .slice a1 n1 d1 := by
        obtain ⟨a, c, e⟩ := (hpp _ (Below.refl _ _)).1.form
        exact ⟨a, _, c, e⟩
      obtain ⟨a2', n2, d2, rfl⟩ : ∃ a2' n2 d2, v2 = .slice a2' n2 d2 := by
        obtain ⟨a, c, e⟩ := (hpp _ (Below.refl _ _)).2.form
        exact ⟨a, _, c, e⟩
      have HSX : Hid (∀ w, Below w4.heap.size w4 w → SixS g1 g2 k kd p1 p2 (.slice a1 n1 d1) (.slice a2' n2 d2) w) := hsx
      obtain ⟨c0, c1, c2, e0, e1, e2⟩ := hsx wr HB.out
      obtain ⟨F1, hF1⟩ : ∃ F1, F1 = X1.foldl fStep [] := ⟨_, rfl⟩
      obtain ⟨F2, hF2⟩ : ∃ F2, F2 = X2.foldl fStep [] := ⟨_, rfl⟩
      rw [← hF1, ← hF2] at hfl
      have HA : Hid (∀ w, Below w4.heap.size w4 w → Calls Tryz.prog 8 #[.agg #[.int .i64 (kd : Nat), .int .i64 (p1 : Nat), .slice a1 n1 d1]] w fun e w' => ∃ v', e = .returned v' ∧ SixS g1 g2 k kd p1 p2 (.slice a1 n1 d1) (.slice a2' n2 d2) w' ∧ Hid (Below w4.heap.size w4 w') ∧ Hid (PtOwn w' w4.heap.size v' F1)) := fun w hb => by
        refine (flat_any kd p1 (hpp w hb).1 hx1.1 hx1.2).mono ?_
        rintro e w' ⟨v', rfl, ho, hbb⟩
        have hb' : Below w4.heap.size w4 w' := hb.trans (hbb.mono hb.size)
        exact ⟨v', rfl, hsx w' hb', hb', by rw [hF1]; exact ho.lower hb.size⟩
      have HA2 : Hid (∀ w, Below w4.heap.size w4 w → ∀ v5, PtOwn w w4.heap.size v5 F1 → Calls Tryz.prog 8 #[.agg #[.int .i64 (kd : Nat), .int .i64 (p2 : Nat), .slice a2' n2 d2]] w fun e w' => ∃ v', e = .returned v' ∧ SixS g1 g2 k kd p1 p2 (.slice a1 n1 d1) (.slice a2' n2 d2) w' ∧ Hid (Below w4.heap.size w4 w') ∧ Hid (PtOwn w' w4.heap.size v' F2) ∧ Hid (PtOwn w' w4.heap.size v5 F1)) := fun w hb v5 h5 => by
        refine (flat_any kd p2 (hpp w hb).2 hx2.1 hx2.2).mono ?_
        rintro e w' ⟨v', rfl, ho, hbb⟩
        have hb' : Below w4.heap.size w4 w' := hb.trans (hbb.mono hb.size)
        exact ⟨v', rfl, hsx w' hb', hb', by rw [hF2]; exact ho.lower hb.size, h5.below hbb⟩
      have HA3 : Hid (∀ w, Below w4.heap.size w4 w → ∀ v5 v6, PtOwn w w4.heap.size v5 F1 → PtOwn w w4.heap.size v6 F2 → Calls Tryz.prog 7 #[v5, v6] w fun e w' => e = .returned (.bool true) ∧ SixS g1 g2 k kd p1 p2 (.slice a1 n1 d1) (.slice a2' n2 d2) w' ∧ Hid (Below w4.heap.size w4 w')) := fun w hb v5 v6 h5 h6 => by
        have hz1 := (fold_sz X1 [] 0 (by simp) hx1.2).2
        rw [← hF1] at hz1
        refine (samePt_any h5 h6 hfl (by simp at hz1; have := hx1.1; omega)).mono ?_
        rintro e w' ⟨rfl, m, rfl⟩
        have hb' : Below w4.heap.size w4 (w.drewN m) := hb.trans ⟨rfl, rfl, rfl, Nat.le_refl _, fun _ _ => rfl⟩
        exact ⟨rfl, hsx _ hb', hb'⟩
      clear hsx hpp hx1 hx2 hfl HG hF1 hF2
      go_wp2_with fail
      go_region_held3 (fun w => w.cell? ⟨g1, k * 3, none⟩ = some (.int .i64 (kd : Nat)) ∧ w.cell? ⟨g1, k * 3 + 1, none⟩ = some (.int .i64 (p1 : Nat)) ∧ w.cell? ⟨g1, k * 3 + 2, none⟩ = some (.slice a1 n1 d1) ∧ w.cell? ⟨g2, k * 3, none⟩ = some (.int .i64 (kd : Nat)) ∧ w.cell? ⟨g2, k * 3 + 1, none⟩ = some (.int .i64 (p2 : Nat)) ∧ w.cell? ⟨g2, k * 3 + 2, none⟩ = some (.slice a2' n2 d2)) (go_keep) (first | (go_at_call 8; with_reducible refine Calls.mono (HA.out _ ?_) ?_; exact HB.out.trans ⟨rfl, rfl, rfl, Nat.le_refl _, fun _ _ => rfl⟩; rintro e w5 ⟨v5, rfl, ⟨k0, k1, k2, k3, k4, k5⟩, HB5, HO5⟩; obtain ⟨a5, c5, rfl⟩ := HO5.out.form) | (go_at_call 8; with_reducible refine Calls.mono (HA2.out _ HB5.out _ HO5.out) ?_; rintro e w6 ⟨v6, rfl, ⟨j0, j1, j2, j3, j4, j5⟩, HB6, HO6, HO6'⟩; obtain ⟨a6, c6, rfl⟩ := HO6.out.form) | (go_at_call 7; with_reducible refine Calls.mono (HA3.out _ HB6.out _ _ HO6'.out HO6.out) ?_; rintro e w7 ⟨rfl, ⟨i0, i1, i2, i3, i4, i5⟩, HB7⟩))
      go_wp2_with fail
      exact ⟨⟨k + 1, rfl, by simp, by omega, HB7.out.trans ⟨rfl, rfl, rfl, Nat.le_refl _, fun _ _ => rfl⟩⟩, by simp [intOf]; omega⟩
    · have hlt' : ¬ (k : Int) < (K.length : Int) := by omega
      go_wp2_with fail
      go_ret
      exact ⟨rfl, HB4.out.trans (HB.out.mono HB4.out.size)⟩
/-- THE LAW AlexBack. -/
theorem back_any (s : ByteArray) (W : World) (ea : Nat → Addr) (hE : Env W ea) (hM : MLx W) (hW : (ea 64).block ≤ W.heap.size) :
    Calls Tryz.prog 3 #[.string s] W fun e w' => e = .returned (.bool true) ∧ Below W.heap.size W w' := by
  by_cases h1 : s.size ≤ 1500
  · cases hx : lexL s.data.toList with
    | error x => exact back_err s W ea hE hW h1 x hx
    | ok ts => exact back_ok s W ea hE hM hW h1 ts hx
  · exact back_long s W ea hE hW (by omega)
end Go.Proofs.YtnlbjgioleoihaaGreatDoor

/- The law of the places. -/
import Derived.Test.YtlbdecohmjpgaaaDoorPl
import Derived.Test.YtlbdecohmjpgaaaDoorFirst
import Derived.Deep.Cut
import Derived.Deep.CutRange
import Derived.Deep.CutBlock
namespace Go.Proofs.YtlbdecohmjpgaaaDoor
open Go.RowKit
attribute [local go_sem] Oper.semAt_some

theorem below_drewN {B : Nat} {a w : World} (h : Below B a w) (m : Nat) : Below B a (w.drewN m) := ⟨h.os, h.tape, h.output, h.size, h.block⟩
set_option maxRecDepth 100000 in
set_option maxHeartbeats 4000000 in
theorem places_long (s : ByteArray) (W : World) (ea : Nat → Addr) (hE : Env W ea) (hW : (ea 64).block ≤ W.heap.size) (hs : 1500 < s.size) :
    Calls Tryd.prog 4 #[.string s] W fun e w' => e = .returned (.bool true) ∧ Below W.heap.size W w' := by
  have HF : Hid _ := first_any W ea hE hW
  have hs' : (1500 : Int) < (s.size : Int) := by omega
  clear hE
  go_enter Tryd.func4, Tryd.ntmps4
  go_wp2_with fail
  refine Calls.mono HF.out ?_
  rintro e w1 ⟨rfl, hb1⟩
  have HB1 : Hid (Below W.heap.size W w1) := hb1
  clear hb1 HF
  go_wp2_with fail
  go_ret
  exact ⟨rfl, HB1.out⟩
/-- The error's own number among the seventeen. -/
theorem gOf_ord (c : Nat) : ∃ j, j < 17 ∧ gOf c = ordE j := by
  match c with
  | 0 => exact ⟨5, by decide, rfl⟩
  | 1 => exact ⟨3, by decide, rfl⟩
  | 2 => exact ⟨2, by decide, rfl⟩
  | n + 3 => exact ⟨6, by decide, rfl⟩
set_option maxRecDepth 100000 in
set_option maxHeartbeats 4000000 in
theorem places_err (s : ByteArray) (W : World) (ea : Nat → Addr) (hE : Env W ea) (hW : (ea 64).block ≤ W.heap.size) (hs : s.size ≤ 1500) (x : Er) (hx : lexL s.data.toList = .error x) :
    Calls Tryd.prog 4 #[.string s] W fun e w' => e = .returned (.bool true) ∧ Below W.heap.size W w' := by
  have HF : Hid _ := first_any W ea hE hW
  have hs' : ¬ (1500 : Int) < (s.size : Int) := by omega
  have hd' : decide ((1500 : Int) < (s.size : Int)) = false := by simp; omega
  have HE : Hid (∀ w, Below W.heap.size W w → Env w ea) := fun w hb => hE.below hb
  have hpos : x.pos < s.size := by have := lex_err hx; simpa using this
  obtain ⟨xj, hj, hgj⟩ := gOf_ord x.code
  clear hE
  go_enter Tryd.func4, Tryd.ntmps4
  go_wp2_with fail
  refine Calls.mono HF.out ?_
  rintro e w1 ⟨rfl, hb1⟩
  have HB1 : Hid (Below W.heap.size W w1) := hb1
  have HL := lex_any s w1 ea (HE.out _ hb1) (Nat.le_trans hW hb1.size) (by omega)
  rw [hx] at HL
  have HLX : Hid _ := HL
  clear HL hb1 HF hx
  go_wp2_with fail
  refine Calls.mono HLX.out ?_
  rintro e w2 ⟨v, ev, rfl, ⟨rfl, q, rfl, hq⟩, hb2⟩
  have HB2 : Hid (Below W.heap.size W w2) := HB1.out.trans (Below.mono hb2 HB1.out.size)
  have HFA : Hid _ := Fault_at w2 ea (HE.out _ HB2.out) xj hj _ (by rw [hgj]) q x.pos hq
  clear hq hb2 HLX HB1
  go_wp2_with fail
  refine Calls.mono HFA.out ?_
  rintro e w3 ⟨fb, rfl, hfb, hfb2, hb3⟩
  have HB3 : Hid (Below W.heap.size W w3) := HB2.out.trans (Below.mono hb3 HB2.out.size)
  have f0 : w3.cell? ⟨fb, 0, none⟩ = some (.int .i64 (x.pos : Nat)) := hfb.cell 0
  have hpos' : (x.pos : Int) < (s.size : Int) := by omega
  have hlt : fb < w3.heap.size := hfb.lt
  clear hfb hb3 HFA HB2
  go_wp2_with fail
  go_ret
  exact ⟨rfl, HB3.out.alloc HB3.out.size _⟩
set_option maxRecDepth 100000 in
set_option maxHeartbeats 8000000 in
theorem places_ok (s : ByteArray) (W : World) (ea : Nat → Addr) (hE : Env W ea) (hW : (ea 64).block ≤ W.heap.size) (hs : s.size ≤ 1500) (ts : List Tk) (hx : lexL s.data.toList = .ok ts) :
    Calls Tryd.prog 4 #[.string s] W fun e w' => e = .returned (.bool true) ∧ Below W.heap.size W w' := by
  have HF : Hid _ := first_any W ea hE hW
  have hd' : decide ((1500 : Int) < (s.size : Int)) = false := by simp; omega
  have HE : Hid (∀ w, Below W.heap.size W w → Env w ea) := fun w hb => hE.below hb
  have HG : Hid (Good s.size 0 ts) := by have := lex_good' hx; rw [show s.data.toList.length = s.size by simp] at this; exact this
  clear hE
  go_enter Tryd.func4, Tryd.ntmps4
  go_wp2_with fail
  refine Calls.mono HF.out ?_
  rintro e w1 ⟨rfl, hb1⟩
  have HB1 : Hid (Below W.heap.size W w1) := hb1
  have HL := lex_any s w1 ea (HE.out _ hb1) (Nat.le_trans hW hb1.size) (by omega)
  rw [hx] at HL
  have HLX : Hid _ := HL
  clear HL hb1 HF hx HE
  go_wp2_with fail
  refine Calls.mono HLX.out ?_
  rintro e w2 ⟨v, ev, rfl, ⟨rfl, K, hK, hO⟩, hb2⟩
  have HB2 : Hid (Below W.heap.size W w2) := HB1.out.trans (Below.mono hb2 HB1.out.size)
  obtain ⟨tl, hl1, hl2, hl3, hl4⟩ := HG.out.last
  have hKl : K.length = ts.length := by rw [← hK, List.length_map]
  have hKn : K ≠ [] := by intro e; rw [e] at hKl; simp at hKl; omega
  obtain ⟨g, cap, rfl, hg⟩ := hO.get hKn
  obtain ⟨m, hm⟩ : ∃ m, K.length = m + 1 := ⟨K.length - 1, by omega⟩
  have HT : Hid (∀ (i : Nat) (q : Value × Tk), K[i]? = some q → ts[i]? = some q.2) := fun i q h => by rw [← hK, List.getElem?_map, h]; rfl
  have HC : Hid (∀ w, Below w2.heap.size w2 w → ∀ (i : Nat) (q : Value × Tk), K[i]? = some q → ∀ (j : Nat) (u : Value), (tkC q)[j]? = some u → w.cell? ⟨g, i * 3 + j, none⟩ = some u) := fun w hb i q hi j u hu => by
    have h1 := hg i q hi j u hu
    exact (hb.cell (p := ⟨g, i * 3 + j, none⟩) (World.block_lt_of_cell? w2 _ h1)).trans h1
  have HP : Hid (∀ w, Below w2.heap.size w2 w → ∀ (i : Nat) (q : Value × Tk), K[i]? = some q → q.2.parts ≠ [] → ∃ gp cp, q.1 = .slice (some ⟨gp, 0, none⟩) q.2.parts.length cp ∧ gp < w2.heap.size ∧ ∀ (k : Nat) (p : Pt), q.2.parts[k]? = some p → ∀ (j : Nat) (u : Value), (ptC p)[j]? = some u → w.cell? ⟨gp, k * 5 + j, none⟩ = some u) := fun w hb i q hi hn => by
    obtain ⟨gp, cp, h1, h2⟩ := (hO.parts q (List.mem_of_getElem? hi)).get hn
    obtain ⟨p0, hp0⟩ : ∃ p0, q.2.parts[0]? = some p0 := by
      cases hq : q.2.parts with
      | nil => exact absurd hq hn
      | cons a r => exact ⟨a, rfl⟩
    have hlt : gp < w2.heap.size := World.block_lt_of_cell? w2 _ (h2 0 p0 hp0 0 _ rfl)
    exact ⟨gp, cp, h1, hlt, fun k p hk j u hu => (hb.cell (p := ⟨gp, k * 5 + j, none⟩) hlt).trans (h2 k p hk j u hu)⟩
  have HPN : Hid (∀ (i : Nat) (q : Value × Tk), K[i]? = some q → ∃ ad cp, q.1 = .slice ad q.2.parts.length cp) := fun i q hi => (hO.parts q (List.mem_of_getElem? hi)).form
  have hgl : g < w2.heap.size := by
    obtain ⟨q0, hq0⟩ : ∃ q0, K[0]? = some q0 := ⟨K[0]'(by omega), List.getElem?_eq_getElem _⟩
    exact World.block_lt_of_cell? w2 _ (hg 0 q0 hq0 0 _ rfl)
  obtain ⟨ql, hql⟩ : ∃ q, K[m]? = some q := ⟨K[m]'(by omega), List.getElem?_eq_getElem _⟩
  have hqt := HT.out m ql hql
  rw [show ts.length - 1 = m by omega, hqt] at hl1
  obtain rfl := Option.some.inj hl1
  have hlk : w2.cell? ⟨g, m * 3, none⟩ = some (.int .i64 0) := by have := hg m ql hql 0 _ rfl; rw [hl2] at this; exact this
  have hlp : w2.cell? ⟨g, m * 3 + 1, none⟩ = some (.int .i64 (s.size : Nat)) := by have := hg m ql hql 1 _ rfl; rw [hl3] at this; exact this
  rw [hm]
  clear hb2 HLX HB1 hO hg hqt hl1 hl2 hl3 hql hKn hK
  have hm0 : ((m : Int) + 1 == 0) = false := by simp; omega
  have hm1 : (m : Int) + 1 - 1 = m := by omega
  have hmb : m ≤ 1500 := by have := HG.out.len (Nat.zero_le _); omega
  go_wp2_with fail
  clear hlk hlp hm0 hm1
  go_loopw [2, 7] (fun v2 v7 wr => ∃ i : Nat, v2 = .bool false ∧ v7 = .int .i64 (i : Nat) ∧ i ≤ m + 1 ∧ Hid (Below w2.heap.size w2 wr)) (fun _ v7 _ => m + 1 - (intOf v7).toNat)
  case atStart => exact ⟨0, rfl, rfl, by omega, Below.refl _ _⟩
  case round =>
    obtain ⟨i, rfl, rfl, hi, HBR⟩ := hrel
    by_cases hlt : i < m + 1
    · have hlt' : (i : Int) < (m : Int) + 1 := by omega
      obtain ⟨⟨pv, tk⟩, hq⟩ : ∃ q, K[i]? = some q := ⟨K[i]'(by omega), List.getElem?_eq_getElem _⟩
      have htk := HT.out i _ hq
      have hga := HG.out.at i tk htk
      obtain ⟨ad, cp, hpv⟩ := HPN.out i _ hq
      simp only at hpv
      subst hpv
      have c0 : wr.cell? ⟨g, i * 3, none⟩ = some (.int .i64 (tk.kind : Nat)) := HC.out wr HBR.out i _ hq 0 _ rfl
      have c1 : wr.cell? ⟨g, i * 3 + 1, none⟩ = some (.int .i64 (tk.pos : Nat)) := HC.out wr HBR.out i _ hq 1 _ rfl
      have c2 : wr.cell? ⟨g, i * 3 + 2, none⟩ = some (.slice ad tk.parts.length cp) := HC.out wr HBR.out i _ hq 2 _ rfl
      have HPP : Hid (∀ w, Below w2.heap.size w2 w → tk.parts ≠ [] → ∃ gp cp', Value.slice ad tk.parts.length cp = .slice (some ⟨gp, 0, none⟩) tk.parts.length cp' ∧ gp < w2.heap.size ∧ ∀ (k : Nat) (p : Pt), tk.parts[k]? = some p → ∀ (j : Nat) (u : Value), (ptC p)[j]? = some u → w.cell? ⟨gp, k * 5 + j, none⟩ = some u) := fun w hb hn => HP.out w hb i _ hq hn
      have HCI : Hid (∀ w, Below w2.heap.size w2 w → w.cell? ⟨g, i * 3 + 1, none⟩ = some (.int .i64 (tk.pos : Nat)) ∧ w.cell? ⟨g, i * 3 + 2, none⟩ = some (.slice ad tk.parts.length cp)) := fun w hb => ⟨HC.out w hb i _ hq 1 _ rfl, HC.out w hb i _ hq 2 _ rfl⟩
      go_upto_region 13 with fail
      go_cut [123] from 84 to 123 (fun v123 wx => v123 = .bool false ∧ Hid (Below w2.heap.size w2 wx))
      case first =>
        obtain ⟨kd, ps, pt⟩ := tk
        simp only at hga c0 c1 c2 htk
        cases i with
        | zero =>
          simp only [Nat.zero_mul, Nat.zero_add] at c0 c1 c2
          rcases hga with ⟨rfl, rfl, rfl, _⟩ | ⟨h0, _, ⟨_, h4⟩, _⟩
          · go_quiet (fail)
            go_wp2_with fail
            go_meet
            case rel => exact ⟨rfl, below_drewN HBR.out _⟩
          · rcases h4 with ⟨h4, rfl⟩ | ⟨rfl, _, p0, r0, rfl, _⟩
            · have h5 : kd < 13 := h4
              have hC : ((kd : Int) == 13) = false := beq_eq_false_iff_ne.2 (fun e => by omega)
              go_quiet (fail)
              go_wp2_with fail
              go_meet
              case rel => exact ⟨rfl, below_drewN HBR.out _⟩
            · have hD : decide ((0 : Int) < (r0.length : Int) + 1) = true := decide_eq_true (by omega)
              go_quiet (fail)
              go_wp2_with fail
              go_meet
              case rel => exact ⟨rfl, below_drewN HBR.out _⟩
        | succ i' =>
          obtain ⟨⟨pv', tk'⟩, hq'⟩ : ∃ q, K[i']? = some q := ⟨K[i']'(by omega), List.getElem?_eq_getElem _⟩
          have htk' := HT.out i' _ hq'
          have hnx := HG.out.next i' tk' ⟨kd, ps, pt⟩ htk' htk
          obtain ⟨kd', ps', pt'⟩ := tk'
          simp only at hnx
          have hi1 : (i' : Int) < (m : Int) + 1 := by omega
          have hi2 : (i' : Int) + 1 < (m : Int) + 1 := by omega
          have hi3 : (i' : Int) < (m : Int) := by omega
          have hi5 : (0 : Int) ≤ (i' : Int) + 1 := by omega
          have hi4 : i' < m := by omega
          have hiw : IntKind.i64.wrap (i' : Int) = (i' : Int) := by rw [IntKind.wrap_i64]; omega
          have c1' : wr.cell? ⟨g, i' * 3 + 1, none⟩ = some (.int .i64 (ps' : Nat)) := HC.out wr HBR.out i' _ hq' 1 _ rfl
          rcases hga with ⟨rfl, rfl, rfl, _⟩ | ⟨h0, _, ⟨_, h4⟩, _⟩
          · by_cases hA : (s.size : Int) ≤ (ps' : Int)
            · have hA' : decide ((s.size : Int) ≤ (ps' : Int)) = true := by simpa using hA
              go_quiet (fail)
              go_wp2_with fail
              go_meet
              case rel => exact ⟨rfl, below_drewN HBR.out _⟩
            · have hA' : decide ((s.size : Int) ≤ (ps' : Int)) = false := by simpa using hA
              go_quiet (fail)
              go_wp2_with fail
              go_meet
              case rel => exact ⟨rfl, below_drewN HBR.out _⟩
          · have hA := hnx h0
            have hA' : decide ((ps : Int) ≤ (ps' : Int)) = false := decide_eq_false (by omega)
            have hB : ((kd : Int) == 0) = false := beq_eq_false_iff_ne.2 (fun e => by omega)
            have hA0 : ¬ (ps : Int) ≤ (ps' : Int) := by omega
            have hA1 : decide (ps ≤ ps') = false := decide_eq_false (by omega)
            clear hA hnx
            rcases h4 with ⟨h4, rfl⟩ | ⟨rfl, _, p0, r0, rfl, _⟩
            · have h5 : kd < 13 := h4
              have hC : ((kd : Int) == 13) = false := beq_eq_false_iff_ne.2 (fun e => by omega)
              go_quiet (fail)
              go_wp2_with fail
              go_meet
              case rel => exact ⟨rfl, below_drewN HBR.out _⟩
            · have hD : decide ((0 : Int) < (r0.length : Int) + 1) = true := decide_eq_true (by omega)
              go_quiet (fail)
              go_wp2_with fail
              go_meet
              case rel => exact ⟨rfl, below_drewN HBR.out _⟩
      obtain ⟨rfl, HBX⟩ := hcut
      clear c0 c1 c2
      have HRI : Hid (tk.parts ≠ [] → Rise tk.pos s.size tk.parts ∧ ∀ p, tk.parts[0]? = some p → p.pos = tk.pos) := fun hn => by
        rcases hga with ⟨_, _, h3, _⟩ | ⟨_, _, ⟨_, h4⟩, _⟩
        · exact absurd h3 hn
        · rcases h4 with ⟨_, h4⟩ | ⟨_, h4, p, r, h5, h6⟩
          · exact absurd h4 hn
          · refine ⟨h4, fun p' hp' => ?_⟩
            rw [h5] at hp'
            cases hp'
            exact h6
      clear hga htk
      have hpl : tk.parts.length ≤ 1500 := by
        by_cases hn : tk.parts = []
        · rw [hn]; simp
        · have := (HRI.out hn).1.len
          omega
      go_wp2_with fail
      go_loopw [2, 8] (fun v2 v8 wr => ∃ k : Nat, v2 = .bool false ∧ v8 = .int .i64 (k : Nat) ∧ k ≤ tk.parts.length ∧ Hid (Below w2.heap.size w2 wr)) (fun _ v8 _ => tk.parts.length - (intOf v8).toNat)
      case atStart => exact ⟨0, rfl, rfl, by omega, HBX.out⟩
      case round =>
        obtain ⟨k, rfl, rfl, hk, HBK⟩ := hrel
        obtain ⟨c1, c2⟩ := HCI.out wr HBK.out
        cases k with
        | zero =>
          by_cases hkl : 0 < tk.parts.length
          · have hkl' : (0 : Int) < (tk.parts.length : Int) := by omega
            have hn : tk.parts ≠ [] := fun e => by rw [e] at hkl; simp at hkl
            obtain ⟨gp, cp', hse, hgp, hpc⟩ := HPP.out wr HBK.out hn
            obtain ⟨rfl, _, rfl⟩ := Value.slice.inj hse
            obtain ⟨hri, hr0⟩ := HRI.out hn
            obtain ⟨p, hp⟩ : ∃ p, tk.parts[0]? = some p := ⟨tk.parts[0]'hkl, List.getElem?_eq_getElem _⟩
            have hp1 := hri.at 0 p hp
            have hpe := hr0 p hp
            rw [hpe] at hp1
            have d0 : wr.cell? ⟨gp, 0, none⟩ = some (.int .i64 (p.kind : Nat)) := hpc 0 p hp 0 _ rfl
            have d1 : wr.cell? ⟨gp, 1, none⟩ = some (.int .i64 (tk.pos : Nat)) := by rw [← hpe]; exact hpc 0 p hp 1 _ rfl
            have d2 : wr.cell? ⟨gp, 2, none⟩ = some (.int .i64 (p.n : Nat)) := hpc 0 p hp 2 _ rfl
            have d3 : wr.cell? ⟨gp, 3, none⟩ = some (.bool p.quoted) := hpc 0 p hp 3 _ rfl
            have d4 : wr.cell? ⟨gp, 4, none⟩ = some (str p.s) := hpc 0 p hp 4 _ rfl
            have HPC : Hid (∀ w, Below w2.heap.size w2 w → ∀ (k : Nat) (p : Pt), tk.parts[k]? = some p → w.cell? ⟨gp, k * 5 + 1, none⟩ = some (.int .i64 (p.pos : Nat))) := fun w hb k' p' hp' => by
              obtain ⟨gp2, cp2, e2, _, h2⟩ := HPP.out w hb hn
              obtain ⟨e3, _, _⟩ := Value.slice.inj e2
              cases e3
              exact h2 k' p' hp' 1 _ rfl
            clear hse hpc hpe hr0 hp hri
            go_upto_region 19 with fail
            obtain ⟨W5, hW5⟩ : ∃ W5, W5 = wr.alloc (.cells #[.int .i64 (p.kind : Nat), .int .i64 (tk.pos : Nat), .int .i64 (p.n : Nat), .bool p.quoted, .string ⟨p.s.toArray⟩] 49) := ⟨_, rfl⟩
            have HB5 : Hid (Below w2.heap.size w2 W5) := by rw [hW5]; exact HBK.out.alloc HBK.out.size _
            have b1 : W5.cell? ⟨wr.heap.size, 1, none⟩ = some (.int .i64 (tk.pos : Nat)) := by rw [hW5]; exact (Cel.new wr _ _).cell 1
            have HW5 : Hid (wr.alloc (.cells #[.int .i64 (p.kind : Nat), .int .i64 (tk.pos : Nat), .int .i64 (p.n : Nat), .bool p.quoted, .string ⟨p.s.toArray⟩] 49) = W5) := hW5.symm
            obtain ⟨e1, e2⟩ := HCI.out W5 HB5.out
            rw [HW5.out]
            clear hW5 HW5 d0 d1 d2 d3 d4 c1 c2
            generalize wr.heap.size = bp at *
            go_cut [179] from 142 to 179 (fun v179 wx => v179 = .bool false ∧ Hid (Below w2.heap.size w2 wx))
            case first =>
              have hge : decide ((s.size : Int) ≤ (tk.pos : Int)) = false := decide_eq_false (by omega)
              have hge0 : ¬ (s.size : Int) ≤ (tk.pos : Int) := by omega
              have hge1 : decide (s.size ≤ tk.pos) = false := decide_eq_false (by omega)
              go_quiet (fail)
              go_wp2_with fail
              go_meet
              case rel => exact ⟨rfl, below_drewN HB5.out _⟩
            obtain ⟨rfl, HBY⟩ := hcut
            go_wp2_with fail
            refine ⟨⟨1, rfl, by simp, by omega, HBY.out⟩, ?_⟩
            simp [intOf]
            omega
          · have hkl' : ¬ (0 : Int) < (tk.parts.length : Int) := by omega
            go_wp2_with fail
            refine ⟨⟨i + 1, rfl, by simp, by omega, HBK.out⟩, ?_⟩
            simp [intOf]
            omega
        | succ k' =>
          by_cases hkl : k' + 1 < tk.parts.length
          · have hkl' : (k' : Int) + 1 < (tk.parts.length : Int) := by omega
            have hk4 : (0 : Int) ≤ (k' : Int) + 1 := by omega
            have hn : tk.parts ≠ [] := fun e => by rw [e] at hkl; simp at hkl
            obtain ⟨gp, cp', hpe, hgp, hpc⟩ := HPP.out wr HBK.out hn
            obtain ⟨rfl, _, rfl⟩ := Value.slice.inj hpe
            obtain ⟨hri, hr0⟩ := HRI.out hn
            obtain ⟨p, hp⟩ : ∃ p, tk.parts[k' + 1]? = some p := ⟨tk.parts[k' + 1]'hkl, List.getElem?_eq_getElem _⟩
            have hp1 := hri.at (k' + 1) p hp
            have d0 : wr.cell? ⟨gp, (k' + 1) * 5, none⟩ = some (.int .i64 (p.kind : Nat)) := hpc (k' + 1) p hp 0 _ rfl
            have d1 : wr.cell? ⟨gp, (k' + 1) * 5 + 1, none⟩ = some (.int .i64 (p.pos : Nat)) := hpc (k' + 1) p hp 1 _ rfl
            have d2 : wr.cell? ⟨gp, (k' + 1) * 5 + 2, none⟩ = some (.int .i64 (p.n : Nat)) := hpc (k' + 1) p hp 2 _ rfl
            have d3 : wr.cell? ⟨gp, (k' + 1) * 5 + 3, none⟩ = some (.bool p.quoted) := hpc (k' + 1) p hp 3 _ rfl
            have d4 : wr.cell? ⟨gp, (k' + 1) * 5 + 4, none⟩ = some (str p.s) := hpc (k' + 1) p hp 4 _ rfl
            have HPC : Hid (∀ w, Below w2.heap.size w2 w → ∀ (k : Nat) (p : Pt), tk.parts[k]? = some p → w.cell? ⟨gp, k * 5 + 1, none⟩ = some (.int .i64 (p.pos : Nat))) := fun w hb k' p' hp' => by
              obtain ⟨gp2, cp2, e2, _, h2⟩ := HPP.out w hb hn
              obtain ⟨e3, _, _⟩ := Value.slice.inj e2
              cases e3
              exact h2 k' p' hp' 1 _ rfl
            clear hpe hpc
            go_upto_region 19 with fail
            obtain ⟨W5, hW5⟩ : ∃ W5, W5 = wr.alloc (.cells (ptC p).toArray 49) := ⟨_, rfl⟩
            have HB5 : Hid (Below w2.heap.size w2 W5) := by rw [hW5]; exact HBK.out.alloc HBK.out.size _
            have b1 : W5.cell? ⟨wr.heap.size, 1, none⟩ = some (.int .i64 (p.pos : Nat)) := by rw [hW5]; exact (Cel.new wr _ _).cell 1
            have HW5 : Hid (wr.alloc (.cells #[.int .i64 (p.kind : Nat), .int .i64 (p.pos : Nat), .int .i64 (p.n : Nat), .bool p.quoted, .string ⟨p.s.toArray⟩] 49) = W5) := hW5.symm
            obtain ⟨e1, e2⟩ := HCI.out W5 HB5.out
            rw [HW5.out]
            clear hW5 HW5 d0 d1 d2 d3 d4 c1 c2
            generalize wr.heap.size = bp at *
            go_cut [179] from 142 to 179 (fun v179 wx => v179 = .bool false ∧ Hid (Below w2.heap.size w2 wx))
            case first =>
              have hge : decide ((s.size : Int) ≤ (p.pos : Int)) = false := decide_eq_false (by omega)
              have hge0 : ¬ (s.size : Int) ≤ (p.pos : Int) := by omega
              have hge1 : decide (s.size ≤ p.pos) = false := decide_eq_false (by omega)
              obtain ⟨p', hp'⟩ : ∃ p', tk.parts[k']? = some p' := ⟨tk.parts[k']'(by omega), List.getElem?_eq_getElem _⟩
              have hnx := hri.next k' p' p hp' hp
              have x1 : W5.cell? ⟨gp, k' * 5 + 1, none⟩ = some (.int .i64 (p'.pos : Nat)) := HPC.out W5 HB5.out k' p' hp'
              have hA0 : ¬ (p.pos : Int) ≤ (p'.pos : Int) := by omega
              have hA1 : decide (p.pos ≤ p'.pos) = false := decide_eq_false (by omega)
              have hA2 : decide ((p.pos : Int) ≤ (p'.pos : Int)) = false := decide_eq_false (by omega)
              have hk0 : ((k' : Int) + 1 == 0) = false := beq_eq_false_iff_ne.2 (fun e => by omega)
              have hk1 : (0 : Int) < (k' : Int) + 1 := by omega
              have hk2 : (k' : Int) < (tk.parts.length : Int) := by omega
              have hk3 : (k' : Int) + 1 < (tk.parts.length : Int) := by omega
              have hkw : IntKind.i64.wrap (k' : Int) = (k' : Int) := by rw [IntKind.wrap_i64]; omega
              clear hnx
              go_quiet (fail)
              go_wp2_with fail
              go_meet
              case rel => exact ⟨rfl, below_drewN HB5.out _⟩
            obtain ⟨rfl, HBY⟩ := hcut
            go_wp2_with fail
            refine ⟨⟨k' + 2, rfl, by simp; omega, by omega, HBY.out⟩, ?_⟩
            simp [intOf]
            omega
          · have hkl' : ¬ (k' : Int) + 1 < (tk.parts.length : Int) := by omega
            go_wp2_with fail
            refine ⟨⟨i + 1, rfl, by simp, by omega, HBK.out⟩, ?_⟩
            simp [intOf]
            omega
    · have hlt' : ¬ (i : Int) < (m : Int) + 1 := by omega
      go_wp2_with fail
      go_ret
      exact ⟨rfl, HB2.out.trans (Below.mono HBR.out HB2.out.size)⟩
/-- The law, for every source. -/
theorem places_any (s : ByteArray) (W : World) (ea : Nat → Addr) (hE : Env W ea) (hW : (ea 64).block ≤ W.heap.size) :
    Calls Tryd.prog 4 #[.string s] W fun e w' => e = .returned (.bool true) ∧ Below W.heap.size W w' := by
  by_cases hs : s.size ≤ 1500
  · cases hx : lexL s.data.toList with
    | error x => exact places_err s W ea hE hW hs x hx
    | ok ts => exact places_ok s W ea hE hW hs ts hx
  · exact places_long s W ea hE hW (by omega)
end Go.Proofs.YtlbdecohmjpgaaaDoor

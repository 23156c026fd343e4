/- oneAtLeast, joined, at, joinTwo. -/
import Derived.Test.YtfafhjglcaikoaaGreatDoorH19
import Derived.Test.YtfafhjglcaikoaaGreatDoorH13
/-! A function's frame, a substitution. -/
namespace Go.Proofs.YtfafhjglcaikoaaGreatDoor
open Go.RowKit
attribute [local go_sem] Oper.semAt_some

variable {W W' : World} {K : Nat → Prop} {rb cb sb kb : Nat} {s : Sh} {ea : Nat → Addr} {f : List Nd → Sh → Option Cr} {g : List Nd → Sh → Option Wr}
/-- A run one deeper. -/
theorem Rn.deeper (h : Rn W K rb cb sb kb s) (n : Nat) : Rn ((W.drewN n).setCell ⟨rb, 5, none⟩ (.int .i64 ((s.dp : Int) + 1))) K rb cb sb kb { s with dp := s.dp + 1 } ∧ Stp W K ((W.drewN n).setCell ⟨rb, 5, none⟩ (.int .i64 ((s.dp : Int) + 1))) K := by
  obtain ⟨h1, h2⟩ := (h.drewN n).set 5 (.int .i64 ((s.dp : Int) + 1)) { s with dp := s.dp + 1 } (by simp [rnC]) rfl rfl rfl rfl rfl rfl
  exact ⟨h1, (stp_drewN K W n).trans h2⟩
/-- Three boxes. -/
theorem boxes3 (W : World) (c0 c1 c2 : Array Value) (t0 t1 t2 : Nat) (hK : ∀ i, K i → i < W.heap.size) :
    let w := ((W.alloc (.cells c0 t0)).alloc (.cells c1 t1)).alloc (.cells c2 t2)
    Cel w W.heap.size t0 c0 ∧ Cel w (W.heap.size + 1) t1 c1 ∧ Cel w (W.heap.size + 2) t2 c2 ∧ ¬ K W.heap.size ∧ ¬ K (W.heap.size + 1) ∧ ¬ K (W.heap.size + 2) ∧ Below W.heap.size W w := by
  intro w
  have b1 := below_new W (.cells c0 t0)
  have b2 := below_new (W.alloc (.cells c0 t0)) (.cells c1 t1)
  have b3 := below_new ((W.alloc (.cells c0 t0)).alloc (.cells c1 t1)) (.cells c2 t2)
  have e1 : (W.alloc (.cells c0 t0)).heap.size = W.heap.size + 1 := by simp
  have e2 : ((W.alloc (.cells c0 t0)).alloc (.cells c1 t1)).heap.size = W.heap.size + 2 := by simp
  have a0 := Cel.new W t0 c0
  have a1 := Cel.new (W.alloc (.cells c0 t0)) t1 c1
  have a2 := Cel.new ((W.alloc (.cells c0 t0)).alloc (.cells c1 t1)) t2 c2
  rw [e1] at a1
  rw [e2] at a2
  have l0 := a0.lt
  refine ⟨(a0.below b2 (by omega)).below b3 (by omega), a1.below b3 (by omega), a2, fun hk => by have := hK _ hk; omega, fun hk => by have := hK _ hk; omega, fun hk => by have := hK _ hk; omega, (b1.trans (b2.mono (by omega))).trans (b3.mono (by omega))⟩
set_option maxRecDepth 100000 in
set_option maxHeartbeats 4000000 in
theorem framed_any (hC : CmdC ea f) (vc va : Value) (a : List Txt) (X : List Nd) (r : Cr) (hE : Ers W ea) (h : Rn W K rb cb sb kb s) (hk : Okk s)
    (ht : Tx W va a) (ho : Off W K va) (hn : NdAt W vc X) (hov : Off W K vc) (ha : fitsB a = true) (hr : framedS f X a s = some r) :
    Calls Tryz.prog 110 #[rP rb, vc, va] W (Done ea W K rb cb sb kb r) := by
  rw [framedS_eq] at hr
  obtain ⟨q0, q1, q2, n0, n1, n2, hb3⟩ := boxes3 W #[rP rb] #[vc] #[va] 94 22 23 h.lt
  have hs3 : Stp W K (((W.alloc (.cells #[rP rb] 94)).alloc (.cells #[vc] 22)).alloc (.cells #[va] 23)) K := Stp.ofBelow hb3
  have HD : Hid (Calls Tryz.prog 121 #[rP rb, .func (.func 150) #[] #[.pointer (some ⟨W.heap.size, 0, none⟩), .pointer (some ⟨W.heap.size + 2, 0, none⟩), .pointer (some ⟨W.heap.size + 1, 0, none⟩)]] (((W.alloc (.cells #[rP rb] 94)).alloc (.cells #[vc] 22)).alloc (.cells #[va] 23)) fun e w' => Done ea W K rb cb sb kb r e w') := by
    have hF : s.F.length < 4294967296 := by have := hk.F; omega
    have hR3 := h.below hb3
    rcases deepS_some hr with ⟨hd, hrr⟩ | ⟨hd, s1, st, x, hi, hok, hno⟩
    · refine Calls.mono (deeper150_any (s1 := s) (st := 0) (x := .ok) K (fun _ h => h) _ _ _ (fun _ => True) (fun _ _ h => h) r (hE.stp h hs3) hR3 hk.dp (.inl ⟨hd, hrr⟩)) ?_
      rintro e w' ⟨⟨h1, h2⟩, _⟩
      exact ⟨h1, h2.pre hs3⟩
    · refine Calls.mono (deeper150_any (s1 := s1) (st := st) (x := x) K (fun _ h => h) _ _ _ (fun _ => True) (fun _ _ h => h) r (hE.stp h hs3) hR3 hk.dp (.inr ⟨hd, hok, hno, fun n => ?_⟩)) ?_
      · obtain ⟨hR4, hs4⟩ := hR3.deeper n
        have hs4' := hs3.trans hs4
        refine Calls.mono (frame1_any hC _ _ _ va vc a X (s1, st, x) (hE.stp h hs4') hR4 (q0.turn hs4.1 n0) (q2.turn hs4.1 n2) (q1.turn hs4.1 n1) n0 n2 n1 (ho.tx ht hs4') (ho.stp hs4') (hov.nd hn hs4') (hov.stp hs4') hF ha hi) ?_
        rintro e w' ⟨h1, h2⟩
        exact ⟨h1, h2.pre hs4, fun _ => trivial⟩
      · rintro e w' ⟨⟨h1, h2⟩, _⟩
        exact ⟨h1, h2.pre hs3⟩
  obtain ⟨ad1, cap1, rfl⟩ := ht.form
  obtain ⟨ad2, cap2, rfl⟩ := hn.form
  clear h hE ht ho hn hov hr ha hC q0 q1 q2 n0 n1 n2 hb3 hs3 hk
  go_enter Tryz.func110, Tryz.ntmps110
  go_wp2_with fail
  refine Calls.mono HD.out ?_
  rintro e w1 ⟨rfl, HB⟩
  have HB' : Hid _ := HB
  clear HB HD
  go_wp2_with fail
  go_ret2
  exact ⟨rfl, HB'.out⟩
/-- A list of one item, made anew. -/
theorem own_one (W : World) (B : Nat) (hB : B ≤ W.heap.size) (t : Txt) : (W.alloc (.cells #[str t] 9)).ownsRow B 9 1 (.slice (some ⟨W.heap.size, 0, none⟩) 1 1) 1 (txV [t]) :=
  ⟨rfl, .inr ⟨W.heap.size, 1, #[str t], rfl, hB, Cel.new W 9 #[str t], Nat.le_refl _, by decide, rfl, rfl⟩⟩
set_option maxRecDepth 100000 in
set_option maxHeartbeats 4000000 in
theorem sub1_any (hC : CmdC ea f) (b0 b1 b2 : Nat) (vc : Value) (X : List Nd) (s1 : Sh) (t : Txt) (x : Xr) (hE : Ers W ea) (h : Rn W K rb cb sb kb s) (h0 : Cel W b0 94 #[rP rb]) (h1 : Cel W b1 22 #[vc]) (h2 : Cel W b2 9 #[str []]) (n2 : ¬ K b2)
    (hn : NdAt W vc X) (hov : Off W K vc) (hr : catchS f X s = some (s1, t, x)) :
    Calls Tryz.prog 210 #[.pointer (some ⟨b0, 0, none⟩), .pointer (some ⟨b1, 0, none⟩), .pointer (some ⟨b2, 0, none⟩)] W fun e w' => e = .returned (.tuple #[.int .i64 0, xrV ea x]) ∧ Rb W (fun i => K i ∨ i = b2) rb cb sb kb s1 x w' ∧ Hid (Cel w' b2 9 #[str t]) := by
  have HC : Hid (Calls Tryz.prog 170 #[rP rb, vc] W (DoneT ea W K rb cb sb kb (s1, t, x))) := catching_any hC vc X (s1, t, x) hE h hn hov hr
  have HF : Hid (∀ w1 K1 cb1, Rn w1 K1 rb cb1 sb kb s1 → Stp W K w1 K1 → (w1.cell? ⟨b2, 0, none⟩ = some (str []) ∧ w1.frozen? ⟨b2, 0, none⟩ = false) ∧ Rn (w1.setCell ⟨b2, 0, none⟩ (str t)) K1 rb cb1 sb kb s1 ∧ Stp W (fun i => K i ∨ i = b2) (w1.setCell ⟨b2, 0, none⟩ (str t)) K1 ∧ Cel (w1.setCell ⟨b2, 0, none⟩ (str t)) b2 9 #[str t]) := fun w1 K1 cb1 q1 q2 => by
    have q3 := h2.turn q2.1 n2
    have q4 := not_stp h2.lt n2 q2
    have hT : Turn (fun i => i = b2) w1 (w1.setCell ⟨b2, 0, none⟩ (str t)) := (Turn.refl (fun i => i = b2) w1).setCell (p := ⟨b2, 0, none⟩) (fun _ => rfl) (str t)
    refine ⟨⟨q3.cell 0, q3.frozen 0⟩, q1.turn hT (fun i hi e => q4 (e ▸ hi)), ⟨(q2.1.mono (fun i hi => .inl hi)).trans hT (fun i hi _ => .inr hi), fun i hi => (q2.2 i hi).imp .inl id⟩, ?_⟩
    have := q3.set (j := 0) (str t)
    exact this
  have c0 := h0.cell 0
  have c1 := h1.cell 0
  obtain ⟨ad2, cap2, rfl⟩ := hn.form
  clear h hE h0 h1 h2 n2 hn hov hr hC
  go_enter Tryz.func210, Tryz.ntmps210
  go_wp2_with fail
  refine Calls.mono HC.out ?_
  rintro e w1 ⟨rfl, K1, cb1, hr1, hs1, hcb⟩
  obtain ⟨⟨d2, e2⟩, g1, g2, g3⟩ := HF.out _ _ _ hr1 hs1
  have HR : Hid _ := g1
  have HS : Hid _ := g2
  have HX : Hid _ := g3
  have HCB : Hid _ := hcb
  clear hr1 hs1 g1 g2 g3 HC HF hcb
  rcases xr_cases ea x with ⟨hx1, hx2⟩ | ⟨hx1, a, hx2⟩
  all_goals
    simp only [hx2]
    go_wp2_with fail
    go_ret2
    exact ⟨rfl, ⟨K1, cb1, HR.out, HS.out, (by first | exact HCB.out | exact fun _ => HCB.out hx1)⟩, HX.out⟩
theorem Rn.off_new (h : Rn W K rb cb sb kb s) (o : Obj) : Off (W.alloc o) K (.slice (some ⟨W.heap.size, 0, none⟩) 1 1) := fun b hb => by
  obtain rfl : W.heap.size = b := by simpa [Value.ownBlock] using hb
  exact ⟨by simp, fun hk => by have := h.lt _ hk; omega⟩
theorem doneW_one {w2 : World} {K' : Nat → Prop} {s1 : Sh} (h : Rn w2 K' rb cb sb kb s1) (hs : Stp W K w2 K') (t : Txt) : DoneW ea W K rb cb sb kb (s1, [t], .ok) (.returned (.tuple #[.slice (some ⟨w2.heap.size, 0, none⟩) 1 1, .nilIface])) (w2.alloc (.cells #[str t] 9)) :=
  ⟨_, rfl, own_one w2 W.heap.size hs.1.size t, K', cb, h.below (below_new _ _), hs.trans (Stp.ofBelow (below_new _ _)), fun _ => rfl, h.off_new _⟩
theorem off_nil (W : World) (K : Nat → Prop) : Off W K (.slice none 0 0) := fun b hb => by simp [Value.ownBlock] at hb
theorem doneW_err {w2 : World} {s1 : Sh} {x : Xr} (_hx : x ≠ .ok) (h : Rb W K rb cb sb kb s1 x w2) : DoneW ea W K rb cb sb kb (s1, [], x) (.returned (.tuple #[.slice none 0 0, xrV ea x])) w2 := by
  obtain ⟨K', cb', h1, h2, h3⟩ := h
  exact ⟨_, rfl, World.ownsRow_nil _ _ _ _, K', cb', h1, h2, h3, off_nil _ _⟩
theorem subS_some {c : List Nd} {r : Wr} (h : subS f c s = some r) : ((stepP s).2 ≠ .ok ∧ r = ((stepP s).1, [], (stepP s).2)) ∨ ((stepP s).2 = .ok ∧ (((stepP s).1.dp = (stepP s).1.md ∧ r = ((stepP s).1, [], .deep)) ∨
    ((stepP s).1.dp ≠ (stepP s).1.md ∧ ∃ s1 t x, catchS f c { (stepP s).1 with dp := (stepP s).1.dp + 1 } = some (s1, t, x) ∧
      (x = .ok → 1 ≤ s1.dp ∧ s1.dp ≤ 1000000 ∧ t.length < 100000 ∧ r = ({ s1 with dp := s1.dp - 1 }, [Lib.trimRightB t 10], .ok)) ∧ (x ≠ .ok → r = (s1, [], x))))) := by
  unfold subS at h
  cases hp : stepP s with
  | mk s0 y =>
    rw [hp] at h
    cases y
    case ok =>
      refine .inr ⟨rfl, ?_⟩
      simp only at h ⊢
      by_cases hd : s0.dp = s0.md
      · rw [if_pos hd] at h
        exact .inl ⟨hd, by simpa using h.symm⟩
      · rw [if_neg hd] at h
        refine .inr ⟨hd, ?_⟩
        cases hk : catchS f c { s0 with dp := s0.dp + 1 } with
        | none => simp [hk] at h
        | some q =>
          obtain ⟨s1, t, x⟩ := q
          refine ⟨s1, t, x, rfl, fun hx => ?_, fun hx => ?_⟩
          · subst hx
            simp only [hk] at h
            split at h
            · rename_i hc
              cases h
              exact ⟨hc.1, hc.2.1, hc.2.2, rfl⟩
            · cases h
          · cases x <;> first | exact absurd rfl hx | simpa [hk] using h.symm
    all_goals exact .inl ⟨by simp, by simpa using h.symm⟩
set_option maxRecDepth 100000 in
set_option maxHeartbeats 4000000 in
theorem sub_any (hC : CmdC ea f) (vc : Value) (X : List Nd) (r : Wr) (hE : Ers W ea) (h : Rn W K rb cb sb kb s) (hk : Okk s) (hn : NdAt W vc X) (hov : Off W K vc) (hr : subS f X s = some r) :
    Calls Tryz.prog 163 #[rP rb, vc] W (DoneW ea W K rb cb sb kb r) := by
  obtain ⟨W2, hW2⟩ : ∃ W2, (W.alloc (.cells #[rP rb] 94)).alloc (.cells #[vc] 22) = W2 := ⟨_, rfl⟩
  have hb2 : Below W.heap.size W W2 := by
    rw [← hW2]
    exact (below_new W _).trans ((below_new (W.alloc (.cells #[rP rb] 94)) _).mono (by simp))
  have hs2 : Stp W K W2 K := Stp.ofBelow hb2
  have hsz : W2.heap.size = W.heap.size + 2 := by rw [← hW2]; simp
  have q0 : Cel W2 W.heap.size 94 #[rP rb] := by rw [← hW2]; exact (Cel.new W 94 #[rP rb]).below (below_new _ _) (Cel.new W 94 #[rP rb]).lt
  have q1 : Cel W2 (W.heap.size + 1) 22 #[vc] := by
    rw [← hW2]
    have := Cel.new (W.alloc (.cells #[rP rb] 94)) 22 #[vc]
    simpa using this
  have n0 : ¬ K W.heap.size := fun hk => by have := h.lt _ hk; omega
  have n1 : ¬ K (W.heap.size + 1) := fun hk => by have := h.lt _ hk; omega
  have HST : Hid (Calls Tryz.prog 65 #[rP rb] W2 fun e w' => e = .returned (xrV ea (stepP s).2) ∧ Rn w' K rb cb sb kb (stepP s).1 ∧ Stp W K w' K ∧ Cel w' W.heap.size 94 #[rP rb] ∧ Cel w' (W.heap.size + 1) 22 #[vc]) := by
    refine Calls.mono (step_any (h.below hb2) (hE.stp h hs2) hk.st) ?_
    rintro e w' ⟨h1, h2, h3⟩
    exact ⟨h1, h2, hs2.trans h3, q0.turn h3.1 n0, q1.turn h3.1 n1⟩
  have hdp : (stepP s).1.dp ≤ 1000000 := by
    have := hk.dp
    unfold stepP
    split <;> exact this
  have HDP : Hid (∀ w1, (stepP s).2 = .ok → Rn w1 K rb cb sb kb (stepP s).1 → Stp W K w1 K → Cel w1 W.heap.size 94 #[rP rb] → Cel w1 (W.heap.size + 1) 22 #[vc] →
      Calls Tryz.prog 121 #[rP rb, .func (.func 210) #[] #[.pointer (some ⟨W.heap.size, 0, none⟩), .pointer (some ⟨W.heap.size + 1, 0, none⟩), .pointer (some ⟨w1.heap.size, 0, none⟩)]] (w1.alloc (.cells #[str []] 9)) fun e w' =>
        ∃ st x, e = .returned (.tuple #[.int .i64 st, xrV ea x]) ∧ ((x = .ok ∧ ∃ s1 t K', Rn w' K' rb cb sb kb s1 ∧ Stp W K w' K' ∧ w'.cell? ⟨w1.heap.size, 0, none⟩ = some (str t) ∧ t.length < 100000 ∧ r = (s1, [Lib.trimRightB t 10], .ok)) ∨ (x ≠ .ok ∧ ∃ s1, Rb W K rb cb sb kb s1 x w' ∧ r = (s1, [], x)))) := fun w1 hy g1 g2 g3 g4 => by
    have hb4 := below_new w1 (.cells #[str []] 9)
    have hs4 := g2.trans (Stp.ofBelow (K := K) hb4)
    have hR4 := g1.below hb4
    have k2 : Cel (w1.alloc (.cells #[str []] 9)) w1.heap.size 9 #[str []] := Cel.new w1 9 _
    have n2 : ¬ K w1.heap.size := fun hk => by have := g1.lt _ hk; omega
    have hsb := g2.1.size
    have key : ∀ w' K', Stp (w1.alloc (.cells #[str []] 9)) (fun i => K i ∨ i = w1.heap.size) w' K' → Stp W K w' K' := fun w' K' q => by
      refine ⟨hs4.1.trans q.1 (fun i hi hlt => hi.elim id (fun e => by omega)), fun i hi => ?_⟩
      rcases q.2 i hi with (q | q) | q
      · exact .inl q
      · exact .inr (by omega)
      · exact .inr (Nat.le_trans hs4.1.size q)
    have hne : w1.heap.size ≠ rb := fun e => n2 (e ▸ g1.Kr)
    rcases subS_some hr with ⟨h1, _⟩ | ⟨_, ⟨hd, hrr⟩ | ⟨hd, s1, t, x, hc, hok, hno⟩⟩
    · exact absurd hy h1
    · refine Calls.mono (deeper210_any (s1 := s) (st := 0) (x := .ok) K (fun _ h => h) _ _ _ (fun _ => True) (fun _ _ h => h) ((stepP s).1, 0, .deep) (hE.stp h hs4) hR4 hdp (.inl ⟨hd, rfl⟩)) ?_
      rintro e w' ⟨⟨h1, h2⟩, _⟩
      exact ⟨0, .deep, h1, .inr ⟨by simp, _, h2.pre hs4, hrr⟩⟩
    · by_cases hx : x = .ok
      · obtain ⟨hd1, hd2, htl, hrr⟩ := hok hx
        subst hx
        refine Calls.mono (deeper210_any (s1 := s1) (st := 0) (x := .ok) (fun i => K i ∨ i = w1.heap.size) (fun _ h => .inl h) _ _ _ (fun w => Cel w w1.heap.size 9 #[str t]) (fun w u hc => hc.other hne u) ({ s1 with dp := s1.dp - 1 }, 0, .ok) (hE.stp h hs4) hR4 hdp (.inr ⟨hd, fun _ => ⟨hd1, hd2, rfl⟩, fun q => absurd rfl q, fun n => ?_⟩)) ?_
        · obtain ⟨hR5, hs5⟩ := hR4.deeper n
          have hs5' := hs4.trans hs5
          refine Calls.mono (sub1_any hC _ _ _ vc X s1 t .ok (hE.stp h hs5') hR5 ((g3.below hb4 g3.lt).turn hs5.1 n0) ((g4.below hb4 g4.lt).turn hs5.1 n1) (k2.turn hs5.1 n2) n2 (hov.nd hn hs5') (hov.stp hs5') hc) ?_
          rintro e w' ⟨h1, ⟨K', cb', p1, p2, p3⟩, h3⟩
          exact ⟨h1, ⟨K', cb', p1, (stp_mono hs5 (fun _ h => .inl h)).1.trans p2.1 (fun i hi _ => hi) |> fun q => ⟨q, fun i hi => (p2.2 i hi).imp id (fun q => Nat.le_trans hs5.1.size q)⟩, p3⟩, fun _ => h3.out⟩
        · rintro e w' ⟨⟨h1, K', cb', p1, p2, p3⟩, h4⟩
          obtain rfl := p3 rfl
          exact ⟨0, .ok, h1, .inl ⟨rfl, _, t, K', p1, key _ _ p2, (h4 rfl).cell 0, htl, hrr⟩⟩
      · have hrr := hno hx
        refine Calls.mono (deeper210_any (s1 := s1) (st := 0) (x := x) (fun i => K i ∨ i = w1.heap.size) (fun _ h => .inl h) _ _ _ (fun _ => True) (fun _ _ h => h) (s1, 0, x) (hE.stp h hs4) hR4 hdp (.inr ⟨hd, fun q => absurd q hx, fun _ => rfl, fun n => ?_⟩)) ?_
        · obtain ⟨hR5, hs5⟩ := hR4.deeper n
          have hs5' := hs4.trans hs5
          refine Calls.mono (sub1_any hC _ _ _ vc X s1 t x (hE.stp h hs5') hR5 ((g3.below hb4 g3.lt).turn hs5.1 n0) ((g4.below hb4 g4.lt).turn hs5.1 n1) (k2.turn hs5.1 n2) n2 (hov.nd hn hs5') (hov.stp hs5') hc) ?_
          rintro e w' ⟨h1, ⟨K', cb', p1, p2, p3⟩, h3⟩
          exact ⟨h1, ⟨K', cb', p1, (stp_mono hs5 (fun _ h => .inl h)).1.trans p2.1 (fun i hi _ => hi) |> fun q => ⟨q, fun i hi => (p2.2 i hi).imp id (fun q => Nat.le_trans hs5.1.size q)⟩, p3⟩, fun q => absurd q hx⟩
        · rintro e w' ⟨⟨h1, K', cb', p1, p2, p3⟩, _⟩
          exact ⟨0, x, h1, .inr ⟨hx, _, ⟨K', cb', p1, key _ _ p2, p3⟩, hrr⟩⟩
  have HNS : Hid ((stepP s).2 ≠ .ok → r = ((stepP s).1, [], (stepP s).2)) := fun hy => by
    rcases subS_some hr with ⟨_, h1⟩ | ⟨h1, _⟩
    · exact h1
    · exact absurd h1 hy
  obtain ⟨ad2, cap2, rfl⟩ := hn.form
  have HW2 : Hid _ := hW2
  clear h hE hn hov hr hC q0 q1 n0 n1 hb2 hs2 hk hsz hW2 hdp
  generalize (stepP s).1 = s0 at *
  generalize (stepP s).2 = y at *
  go_enter Tryz.func163, Tryz.ntmps163
  go_wp2_with fail
  rw [HW2.out]
  refine Calls.mono HST.out ?_
  rintro e w1 ⟨rfl, g1, g2, g3, g4⟩
  rcases xr_cases ea y with ⟨hy1, hy2⟩ | ⟨hy1, a, hy2⟩
  case inr =>
    have HB : Hid _ := Rb.of (cb := cb) (x := y) g1 g2
    obtain rfl := HNS.out hy1
    clear g1 g2 g3 g4 HDP HST
    rw [hy2]
    go_wp2_with fail
    go_ret2
    have := doneW_err (ea := ea) hy1 HB.out
    rw [hy2] at this
    exact this
  have HD2 : Hid _ := HDP.out w1 hy1 g1 g2 g3 g4
  have k0 := (g3.below (below_new w1 (.cells #[.string ⟨#[]⟩] 9)) g3.lt).cell 0
  clear g1 g2 g3 g4 HDP HST HNS
  rw [hy2]
  go_wp2_with fail
  refine Calls.mono HD2.out ?_
  rintro e w2 ⟨st, x, rfl, ⟨hx1, s1, t, K', p1, p2, p3, p4, rfl⟩ | ⟨hx1, s1, HB, rfl⟩⟩
  · have HR : Hid (Rn w2 K' rb cb sb kb s1) := p1
    have HS : Hid (Stp W K w2 K') := p2
    have HT : Hid _ := trim_any ⟨t.toArray⟩ (by show t.toArray.size < _; simp; omega) w2
    clear p1 p2 HD2
    subst hx1
    rw [show xrV ea .ok = .nilIface from rfl]
    go_wp2_with fail
    refine Calls.mono HT.out ?_
    rintro e w3 ⟨rfl, hw3⟩
    obtain rfl := hw3.symm
    go_wp2_with fail
    go_ret2
    exact doneW_one HR.out HS.out _
  · obtain ⟨a, hx2⟩ : ∃ a, xrV ea x = errV a := by
      rcases xr_cases ea x with ⟨h1, _⟩ | ⟨_, h2⟩
      · exact absurd h1 hx1
      · exact h2
    have HB' : Hid _ := HB
    clear HB HD2
    rw [hx2]
    go_wp2_with fail
    go_ret2
    have := doneW_err (ea := ea) hx1 HB'.out
    rw [hx2] at this
    exact this
end Go.Proofs.YtfafhjglcaikoaaGreatDoor
/-! gather, Cat. -/
namespace Go.Proofs.YtfafhjglcaikoaaGreatDoor
open Go.RowKit Go.Shelf

/-- The value is a slice of these lists. -/
def Tss (W : World) (v : Value) (ls : List (List (List UInt8))) : Prop :=
  ∃ (g o : Nat) (ad : Option Addr) (cap : Nat), v = .slice ad ls.length cap ∧ ls.length ≤ cap ∧ (ls ≠ [] → ad = some ⟨g, o, none⟩ ∧ g < W.heap.size) ∧
    ∀ k l, ls[k]? = some l → ∃ vl, W.cell? ⟨g, o + k, none⟩ = some vl ∧ Tx W vl l
/-- The list, new; or too big. -/
def GotL (B : Nat) (a : Addr) (r : Option (List (List UInt8))) (e : Ending) (w' : World) : Prop :=
  match r with
  | some l => ∃ v', e = .returned (.tuple #[v', .nilIface]) ∧ w'.ownsRow B 9 1 v' l.length (txV l)
  | none => e = .returned (.tuple #[.slice none 0 0, bigV a])
/-- As it is, if it is not too big. -/
def bound (l : List (List UInt8)) : Option (List (List UInt8)) := if fitsB l then some l else none

theorem cat1_any (v : Value) (w : World) : Calls Tryz.prog 201 #[v] w fun e w' => e = .returned v ∧ w' = w := by
  go_enter Tryz.func201, Tryz.ntmps201
  go_wp2
  go_ret
  exact ⟨rfl, rfl⟩

set_option maxRecDepth 100000 in
set_option maxHeartbeats 4000000 in
theorem gatherL_any (v : Value) (ls : List (List (List UInt8))) (w : World) (a : Addr) (h : Tss w v ls) (hls : ls.length < 4294967296) (hz : ∀ l ∈ ls, l.length < 4294967296) (hE : Eb w a) :
    Calls Tryz.prog 200 #[v, .func (.func 201) #[] #[]] w fun e w' => GotL w.heap.size a (bound (gatAll id ls)) e w' ∧ Below w.heap.size w w' := by
  have HE : Hid (Eb w a) := hE
  have HZ : Hid (∀ l ∈ ls, l.length < 4294967296) := hz
  have HT : Hid (Tss w v ls) := h
  obtain ⟨g, o, ad, cap, rfl, hcap, hne, hce⟩ := h
  have HN : Hid (ls ≠ [] → ad = some ⟨g, o, none⟩ ∧ g < w.heap.size) := hne
  have HC : Hid (∀ k l, ls[k]? = some l → ∃ vl, w.cell? ⟨g, o + k, none⟩ = some vl ∧ Tx w vl l) := hce
  clear hne hce hz hE
  go_enter Tryz.func200, Tryz.ntmps200
  go_wp2_with fail
  go_loopw [6, 12] (fun v6 v12 wr => ∃ k : Nat, v12 = .int .i64 k ∧ k ≤ ls.length ∧ Hid (fitsB (gat id ls k) = true) ∧ Hid (wr.ownsRow w.heap.size 9 1 v6 (gat id ls k).length (txV (gat id ls k))) ∧ Below w.heap.size w wr) (fun _ v12 _ => ls.length - (intOf v12).toNat)
  case atStart => exact ⟨0, rfl, by omega, by rw [gat_zero]; exact fits_nil, by rw [gat_zero]; exact ⟨rfl, .inl ⟨rfl, rfl⟩⟩, Below.refl _ _⟩
  case round =>
    obtain ⟨k, rfl, hk, HF, HO, hbr⟩ := hrel
    by_cases hkl : k < ls.length
    · obtain ⟨l, hl⟩ : ∃ l, ls[k]? = some l := ⟨_, List.getElem?_eq_getElem hkl⟩
      obtain ⟨rfl, hg⟩ := HN.out (fun e => by rw [e] at hkl; simp at hkl)
      obtain ⟨vl, hc, htx⟩ := HC.out k l hl
      have c0 := (hbr.cell (p := ⟨g, o + k, none⟩) hg).trans hc
      have HTX : Hid (Tx wr vl l) := htx.below hbr (Nat.le_refl _)
      have HLL : Hid (l.length < 4294967296) := HZ.out l (List.mem_of_getElem? hl)
      have HS : Hid (gat id ls (k + 1) = gat id ls k ++ l) := gat_succ id ls k l hl
      obtain ⟨adl, capl, rfl⟩ := htx.form
      clear hc htx hl
      go_wp2_with fail
      refine (cat1_any _ _).mono ?_
      rintro e w1 ⟨rfl, hw1⟩
      obtain rfl := hw1.symm
      go_wp2_with fail
      cases hq : fitsB (gat id ls k ++ l)
      · refine (add_no _ _ (gat id ls k) l _ a (own_form HO.out) HTX.out HLL.out HF.out hq (Eb.below HE.out hbr (Eb.pos HE.out))).mono ?_
        rintro e w2 ⟨rfl, hb2⟩
        go_wp2_with fail
        go_ret2
        have hno : bound (gatAll id ls) = none := by
          unfold bound
          rw [gat_fits id ls (k + 1) (by rw [HS.out]; exact hq)]
          rfl
        rw [hno]
        exact ⟨rfl, hbr.trans (hb2.mono hbr.size)⟩
      · refine (add_yes w.heap.size _ _ (gat id ls k) l _ hbr.size HO.out HTX.out HF.out hq).mono ?_
        rintro e w2 ⟨v2, rfl, ho2, hb2⟩
        have HO2 : Hid _ := ho2
        have HQ : Hid _ := hq
        clear ho2 hq
        go_wp2_with fail
        exact ⟨⟨k + 1, by simp, by omega, by rw [HS.out]; exact HQ.out, by rw [HS.out]; exact HO2.out, hbr.trans hb2⟩, by simp [intOf]; omega⟩
    · have hkz : k = ls.length := by omega
      subst hkz
      go_wp2_with fail
      go_ret2
      have hyes : bound (gatAll id ls) = some (gatAll id ls) := by
        unfold bound
        rw [← gat_all, HF.out]
        rfl
      rw [hyes]
      refine ⟨⟨_, rfl, ?_⟩, hbr⟩
      rw [← gat_all]
      exact HO.out

set_option maxHeartbeats 1000000 in
theorem cat_any (v : Value) (ls : List (List (List UInt8))) (w : World) (a : Addr) (h : Tss w v ls) (hls : ls.length < 4294967296) (hz : ∀ l ∈ ls, l.length < 4294967296) (hE : Eb w a) :
    Calls Tryz.prog 149 #[v] w fun e w' => GotL w.heap.size a (bound (gatAll id ls)) e w' ∧ Below w.heap.size w w' := by
  have HC : Hid _ := gatherL_any v ls w a h hls hz hE
  clear h hE hz
  cases hb : bound (gatAll id ls) with
  | none =>
    rw [hb] at HC
    go_enter Tryz.func149, Tryz.ntmps149
    go_wp2_with fail
    refine Calls.mono HC.out ?_
    rintro e w1 ⟨rfl, hb1⟩
    go_wp2_with fail
    go_ret2
    exact ⟨rfl, hb1⟩
  | some l =>
    rw [hb] at HC
    go_enter Tryz.func149, Tryz.ntmps149
    go_wp2_with fail
    refine Calls.mono HC.out ?_
    rintro e w1 ⟨⟨v1, rfl, ho⟩, hb1⟩
    go_wp2_with fail
    go_ret2
    exact ⟨⟨_, rfl, ho⟩, hb1⟩
end Go.Proofs.YtfafhjglcaikoaaGreatDoor
namespace Go.Proofs.YtfafhjglcaikoaaGreatDoor
open Go.RowKit Go.Shelf

set_option maxHeartbeats 1000000 in
theorem one_any (v : Value) (ns : List (List UInt8)) (w : World) (h : Tx w v ns) :
    Calls Tryz.prog 241 #[v] w fun e w' => ∃ v', e = .returned v' ∧ Tx w' v' (oneB ns) ∧ Below w.heap.size w w' := by
  have HT : Hid (Tx w v ns) := h
  obtain ⟨ad, cap, rfl⟩ := h.form
  clear h
  by_cases h0 : ns.length = 0
  · have e0 : ns = [] := List.eq_nil_of_length_eq_zero h0
    subst e0
    clear h0
    go_enter Tryz.func241, Tryz.ntmps241
    go_wp2_with fail
    go_ret
    exact ⟨_, rfl, Tx.one w [], (Below.refl _ w).alloc (Nat.le_refl _) _⟩
  · have e1 : oneB ns = ns := by unfold oneB; rw [if_neg h0]
    rw [e1]
    have h1 : ¬ (ns.length : Int) = 0 := by omega
    have h2 : ((ns.length : Int) == 0) = false := beq_eq_false_iff_ne.2 h1
    go_enter Tryz.func241, Tryz.ntmps241
    go_wp2_with fail
    go_ret
    exact ⟨_, rfl, HT.out, Below.refl _ _⟩

theorem ret_int {a b : Int} (h : a = b) : Ending.returned (.int .i64 a) = .returned (.int .i64 b) := by rw [h]
set_option maxHeartbeats 1000000 in
theorem joined_any (a b : Nat) (w : World) (ha : a < 4294967296) (hb : b < 4294967296) :
    Calls Tryz.prog 277 #[.int .i64 a, .int .i64 b] w fun e w' => e = .returned (.int .i64 (joinedN a b : Nat)) ∧ w' = w := by
  by_cases h1 : a = 1
  · subst h1
    go_enter Tryz.func277, Tryz.ntmps277
    go_wp2_with fail
    go_ret
    exact ⟨ret_int (by unfold joinedN; rw [if_pos (Or.inl rfl)]; omega), rfl⟩
  · by_cases h2 : b = 1
    · subst h2
      have e1 : ((a : Int) == 1) = false := by simp; omega
      go_enter Tryz.func277, Tryz.ntmps277
      go_wp2_with fail
      go_ret
      exact ⟨ret_int (by unfold joinedN; rw [if_pos (Or.inr rfl)]; omega), rfl⟩
    · have e1 : ((a : Int) == 1) = false := by simp; omega
      have e2 : ((b : Int) == 1) = false := by simp; omega
      go_enter Tryz.func277, Tryz.ntmps277
      go_wp2_with fail
      go_ret
      exact ⟨ret_int (by unfold joinedN; rw [if_neg (by omega)]; omega), rfl⟩

set_option maxHeartbeats 1000000 in
theorem at_any (v : Value) (ns : List (List UInt8)) (i : Nat) (w : World) (h : Tx w v ns) (hl : ns.length < 4294967296) (hi : ns.length = 1 ∨ i < ns.length) :
    Calls Tryz.prog 278 #[v, .int .i64 i] w fun e w' => e = .returned (.string ⟨(atB ns i).toArray⟩) ∧ w' = w := by
  have hne : ns ≠ [] := fun e => by rw [e] at hi; simp at hi
  obtain ⟨g, o, cap, rfl, h1, h2, h3⟩ := h.inRow hne
  clear hne h
  · by_cases h0 : ns.length = 1
    · obtain ⟨n, rfl⟩ := List.length_eq_one_iff.1 h0
      have c0 := h3 0 n rfl
      have e1 : atB [n] i = n := rfl
      rw [e1]
      clear h0 h3 h2 hi
      simp only [Nat.add_zero] at c0
      go_enter Tryz.func278, Tryz.ntmps278
      go_wp2_with fail
      go_ret
      exact ⟨rfl, rfl⟩
    · have hil : i < ns.length := by omega
      have c0 := h3 i ns[i] (List.getElem?_eq_getElem hil)
      have e1 : atB ns i = ns[i] := by
        unfold atB
        rw [if_neg h0, List.getD_eq_getElem?_getD, List.getElem?_eq_getElem hil]
        rfl
      rw [e1]
      generalize ns[i] = x at c0
      have e2 : ((ns.length : Int) == 1) = false := by simp; omega
      clear h3 h2 hi e1
      go_enter Tryz.func278, Tryz.ntmps278
      go_wp2_with fail
      go_ret
      exact ⟨rfl, rfl⟩

theorem bytes_appL (x y : List UInt8) : (⟨x.toArray⟩ : ByteArray) ++ ⟨y.toArray⟩ = ⟨(x ++ y).toArray⟩ := by
  apply ByteArray.ext
  rw [ByteArray.data_append]
  simp
theorem atB_mem (l : List (List UInt8)) (i : Nat) (h : l.length = 1 ∨ i < l.length) : atB l i ∈ l := by
  unfold atB
  split
  · next h1 =>
    obtain ⟨n, rfl⟩ := List.length_eq_one_iff.1 h1
    simp
  · next h1 =>
    have hi : i < l.length := by omega
    rw [List.getD_eq_getElem?_getD, List.getElem?_eq_getElem hi]
    simp

set_option maxRecDepth 100000 in
set_option maxHeartbeats 4000000 in
theorem joinTwo_any (va vb : Value) (A C : List (List UInt8)) (w : World) (a : Addr) (ha : Tx w va A) (hc : Tx w vb C) (hA : 1 ≤ A.length) (hC : 1 ≤ C.length) (hAl : A.length < 4294967296) (hCl : C.length < 4294967296)
    (hAz : ∀ s ∈ A, s.length < 4294967296) (hCz : ∀ s ∈ C, s.length < 4294967296) (hE : Eb w a) :
    Calls Tryz.prog 242 #[va, vb] w fun e w' => GotL w.heap.size a (bound (jtB A C)) e w' ∧ Below w.heap.size w w' := by
  have HE : Hid (Eb w a) := hE
  have HA : Hid (Tx w va A) := ha
  have HC : Hid (Tx w vb C) := hc
  have HAZ : Hid (∀ s ∈ A, s.length < 4294967296) := hAz
  have HCZ : Hid (∀ s ∈ C, s.length < 4294967296) := hCz
  obtain ⟨ada, capa, rfl⟩ := ha.form
  obtain ⟨adc, capc, rfl⟩ := hc.form
  clear ha hc hE hAz hCz
  have hjl := joined_le A.length C.length
  have hJ : ∃ N, N = joinedN A.length C.length := ⟨_, rfl⟩
  obtain ⟨N, hN⟩ := hJ
  have HN : Hid (N = joinedN A.length C.length) := hN
  have hN32 : N < 4294967296 := by omega
  clear hN hjl
  go_enter Tryz.func242, Tryz.ntmps242
  go_wp2_with fail
  refine (joined_any A.length C.length _ hAl hCl).mono ?_
  rintro e w1 ⟨rfl, hw1⟩
  obtain rfl := hw1.symm
  rw [← HN.out]
  go_wp2_with fail
  go_loopw [6, 14] (fun v6 v14 wr => ∃ k : Nat, v14 = .int .i64 k ∧ k ≤ N ∧ Hid (fitsB ((jtB A C).take k) = true) ∧ Hid (wr.ownsRow w.heap.size 9 1 v6 ((jtB A C).take k).length (txV ((jtB A C).take k))) ∧ Below w.heap.size w wr) (fun _ v14 _ => N - (intOf v14).toNat)
  case atStart => exact ⟨0, rfl, by omega, fits_nil, ⟨rfl, .inl ⟨rfl, rfl⟩⟩, Below.refl _ _⟩
  case round =>
    obtain ⟨k, rfl, hk, HF, HO, hbr⟩ := hrel
    by_cases hkl : k < N
    · have hkj : k < joinedN A.length C.length := by rw [← HN.out]; exact hkl
      have HS : Hid ((jtB A C).take (k + 1) = (jtB A C).take k ++ [atB A k ++ atB C k]) := jt_take A C k hkj
      have ja := joined_at _ _ k hkj hA
      have jc := joined_at' _ _ k hkj hC
      have HMA : Hid _ := at_any _ A k wr (HA.out.below hbr (Nat.le_refl _)) hAl ja
      have HMC : Hid _ := at_any _ C k wr (HC.out.below hbr (Nat.le_refl _)) hCl jc
      have hsa := HAZ.out _ (atB_mem A k ja)
      have hsc := HCZ.out _ (atB_mem C k jc)
      clear hkj ja jc
      generalize atB A k = x at HS HMA hsa
      generalize atB C k = y at HS HMC hsc
      have hzx : (⟨x.toArray⟩ : ByteArray).size < 4294967296 := by rw [str_size']; exact hsa
      have hzy : (⟨y.toArray⟩ : ByteArray).size < 4294967296 := by rw [str_size']; exact hsc
      go_wp2_with fail
      refine Calls.mono HMA.out ?_
      rintro e w2 ⟨rfl, hw2⟩
      obtain rfl := hw2.symm
      go_wp2_with fail
      refine Calls.mono HMC.out ?_
      rintro e w3 ⟨rfl, hw3⟩
      obtain rfl := hw3.symm
      go_wp2_with fail
      rw [bytes_appL]
      have hba : Below w.heap.size w (wr.alloc (.cells #[.string ⟨(x ++ y).toArray⟩] 9)) := hbr.alloc hbr.size _
      cases hq : fitsB ((jtB A C).take k ++ [x ++ y])
      · refine (add_no _ _ ((jtB A C).take k) [x ++ y] _ a (own_form HO.out) (Tx.one wr (x ++ y)) (by simp) HF.out hq (Eb.below HE.out hba (Eb.pos HE.out))).mono ?_
        rintro e w4 ⟨rfl, hb4⟩
        go_wp2_with fail
        go_ret2
        have hno : bound (jtB A C) = none := by
          unfold bound
          rw [fits_take _ (k + 1) (by rw [HS.out]; exact hq)]
          rfl
        rw [hno]
        exact ⟨rfl, hba.trans (hb4.mono hba.size)⟩
      · refine (add_yes w.heap.size _ _ ((jtB A C).take k) [x ++ y] _ hba.size (HO.out.alloc _) (Tx.one wr (x ++ y)) HF.out hq).mono ?_
        rintro e w4 ⟨v4, rfl, ho4, hb4⟩
        have HO4 : Hid _ := ho4
        have HQ : Hid _ := hq
        clear ho4 hq
        go_wp2_with fail
        exact ⟨⟨k + 1, by simp, by omega, by rw [HS.out]; exact HQ.out, by rw [HS.out]; exact HO4.out, hba.trans hb4⟩, by simp [intOf]; omega⟩
    · have hkz : k = N := by omega
      subst hkz
      have hall : (jtB A C).take k = jtB A C := List.take_of_length_le (by rw [jt_length, ← HN.out]; exact Nat.le_refl _)
      rw [hall] at HF HO
      go_wp2_with fail
      go_ret2
      have hyes : bound (jtB A C) = some (jtB A C) := by
        unfold bound
        rw [HF.out]
        rfl
      rw [hyes]
      exact ⟨⟨_, rfl, HO.out⟩, hbr⟩
end Go.Proofs.YtfafhjglcaikoaaGreatDoor

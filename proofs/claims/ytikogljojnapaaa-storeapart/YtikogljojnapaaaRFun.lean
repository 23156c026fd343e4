/- The document's store is told: SetFun. -/
import Derived.Test.YtikogljojnapaaaRSet
namespace Go.Proofs.Ytikogljojnapaaa
open Go.RowKit

/-- The loop of the document's SetFun, as a plain function. -/
def setGo {α : Type} (k : Txt) (d : α) : Bool → List (Txt × α) → List (Txt × α)
  | done, [] => if done then [] else [(k, d)]
  | done, y :: r => (if !done && !bytesBefore y.1 k then [(k, d)] else []) ++ (if y.1 == k then [] else [y]) ++ setGo k d (done || !bytesBefore y.1 k) r
theorem setGo_true {α : Type} (k : Txt) (d : α) : ∀ F : List (Txt × α), setGo k d true F = delM F k
  | [] => rfl
  | y :: r => by
    unfold setGo
    simp only [Bool.not_true, Bool.false_and, Bool.true_or, setGo_true k d r]
    cases e : (y.1 == k) <;> simp [delM, e]
theorem bb_irr : ∀ a : List UInt8, bytesBefore a a = false
  | [] => rfl
  | a :: r => by simp [bytesBefore, bb_irr r]
theorem bb_trans : ∀ a b c : List UInt8, bytesBefore a b = true → bytesBefore b c = true → bytesBefore a c = true
  | [], [], _, h, _ => by simp [bytesBefore] at h
  | [], _ :: _, [], _, h => by simp [bytesBefore] at h
  | [], _ :: _, _ :: _, _, _ => rfl
  | _ :: _, [], _, h, _ => by simp [bytesBefore] at h
  | _ :: _, _ :: _, [], _, h => by simp [bytesBefore] at h
  | a :: r, b :: s, c :: t, h1, h2 => by
    simp only [bytesBefore, Bool.or_eq_true, Bool.and_eq_true, decide_eq_true_eq, beq_iff_eq] at h1 h2 ⊢
    rcases h1 with h1 | ⟨rfl, h1⟩ <;> rcases h2 with h2 | ⟨rfl, h2⟩
    · left
      rw [UInt8.lt_iff_toNat_lt] at *
      omega
    · exact .inl h1
    · exact .inl h2
    · exact .inr ⟨rfl, bb_trans r s t h1 h2⟩
theorem setGo_false {α : Type} (k : Txt) (d : α) : ∀ F : List (Txt × α), F.Pairwise (fun p q => bytesBefore p.1 q.1 = true) → setGo k d false F = putM F k d
  | [], _ => rfl
  | y :: r, hF => by
    obtain ⟨hy, hr⟩ := List.pairwise_cons.1 hF
    unfold setGo putM
    cases e : bytesBefore y.1 k with
    | true =>
      have hne : (y.1 == k) = false := by
        simp only [beq_eq_false_iff_ne, ne_eq]
        intro h
        rw [h, bb_irr] at e
        cases e
      have ih := setGo_false k d r hr
      simp only [Bool.not_false, Bool.not_true, Bool.and_false, Bool.false_or, Bool.false_eq_true, if_false, hne, ih]
      have : delM (y :: r) k = y :: delM r k := by simp [delM, hne]
      rw [this, insM, if_neg (by rw [bb_asym _ _ e]; simp)]
      rfl
    | false =>
      have hlt : ∀ p ∈ r, (p.1 == k) = false := by
        intro p hp
        simp only [beq_eq_false_iff_ne, ne_eq]
        intro h
        have h1 := hy p hp
        rw [h] at h1
        rw [h1] at e
        cases e
      have hdr : delM r k = r := by
        unfold delM
        rw [List.filter_eq_self]
        intro p hp
        rw [hlt p hp]
        rfl
      simp only [Bool.not_false, Bool.and_true, if_true, Bool.false_or, setGo_true, hdr]
      cases e2 : (y.1 == k) with
      | true =>
        have : delM (y :: r) k = r := by
          have h1 : delM (y :: r) k = delM r k := by simp [delM, e2]
          rw [h1, hdr]
        have hyk : y.1 = k := by simpa using e2
        rw [this]
        simp only [if_true, List.append_nil]
        cases r with
        | nil => rfl
        | cons z r =>
          have hz := hy z (by simp)
          rw [hyk] at hz
          rw [insM, if_pos hz]
          rfl
      | false =>
        have : delM (y :: r) k = y :: r := by
          have h1 : delM (y :: r) k = y :: delM r k := by simp [delM, e2]
          rw [h1, hdr]
        rw [this, insM, if_pos (bb_tri _ _ e (by simpa using e2))]
        simp
theorem setGo_drop {α : Type} (k : Txt) (d : α) (b : Bool) {F : List (Txt × α)} {i : Nat} {y : Txt × α} (h : F[i]? = some y) : setGo k d b (F.drop i) = (if !b && !bytesBefore y.1 k then [(k, d)] else []) ++ (if y.1 == k then [] else [y]) ++ setGo k d (b || !bytesBefore y.1 k) (F.drop (i + 1)) := by
  have hl := (List.getElem?_eq_some_iff.1 h).1
  have e : F.drop i = y :: F.drop (i + 1) := by
    rw [List.drop_eq_getElem_cons hl, (List.getElem?_eq_some_iff.1 h).2]
  rw [e]
  rfl
theorem info74 : (Try.prog.info? 74).map (fun i => (i.zero, i.size, i.bytes)) = some (some (.agg #[.string ⟨#[]⟩, .slice none 0 0]), 2, 40) := by kernel_rfl
/-- Functions of one's own, the rows of nodes anywhere. -/
def FnOwn (W : World) (B : Nat) (K : Nat → Prop) (v : Value) (O : Fns) : Prop := W.ownsRow B 74 2 v O.length (prCs O) ∧ ∀ p ∈ O, On W (fun i => K i ∨ B ≤ i) p.2.1 p.2.2
theorem FnOwn.nil (W : World) (B : Nat) (K : Nat → Prop) : FnOwn W B K (.slice none 0 0) [] := ⟨World.ownsRow_nil _ _ _ _, fun p hp => by simp at hp⟩
theorem FnOwn.below {W W' : World} {B : Nat} {K : Nat → Prop} {v : Value} {O : Fns} (h : FnOwn W B K v O) (hb : Below W.heap.size W W') : FnOwn W' B K v O :=
  ⟨owns_turn h.1 (Turn.ofBelow (S := fun _ => False) hb) (fun _ _ h => h), fun p hp => (h.2 p hp).turn (Turn.ofBelow (S := fun _ => False) hb) (fun _ _ h => h)⟩
/-- One more behind. -/
theorem FnOwn.snoc {W w4 : World} {B : Nat} {K : Nat → Prop} {v v' pv : Value} {O : Fns} {n : Txt} {l : List Nd} (h : FnOwn W B K v O) (hp : On W (fun i => K i ∨ B ≤ i) pv l)
    (hown : w4.ownsRow B 74 2 v' (O.length + 1) (prCs O ++ [str n, pv])) (hg : W.grownBy w4 v.ownBlock) : FnOwn w4 B K v' (O ++ [(n, pv, l)]) := by
  have hT := Turn.ofGrown hg
  have key : ∀ {u : Value} {Y : List Nd}, On W (fun i => K i ∨ B ≤ i) u Y → On w4 (fun i => K i ∨ B ≤ i) u Y := fun ho => ho.turn hT (fun b hb e' => owns_apart2 h.1 ho.1 (by decide) b e' hb)
  refine ⟨by rw [prCs_snoc, List.length_append]; exact hown, fun p hq => ?_⟩
  rcases List.mem_append.1 hq with hq | hq
  · exact key (h.2 p hq)
  · simp only [List.mem_singleton] at hq
    subst hq
    exact key hp
theorem On.form {W : World} {K : Nat → Prop} {v : Value} {l : List Nd} (h : On W K v l) : ∃ ad cap, v = .slice ad l.length cap := owns_slice h.1
theorem FnOwn.add {W w4 : World} {B : Nat} {K : Nat → Prop} {v v' pv : Value} {O : Fns} {n : Txt} {l : List Nd} {o : Obj} (h : FnOwn W B K v O) (hB : B ≤ W.heap.size) (hp : On W (fun i => K i ∨ B ≤ i) pv l)
    (hown : w4.ownsRow B 74 2 v' (O.length + 1) (prCs O ++ [str n, pv])) (hg : (W.alloc o).grownBy w4 v.ownBlock) : FnOwn w4 B K v' (O ++ [(n, pv, l)]) ∧ Below B W w4 := by
  have hb := below_new W o
  have h3 := h.below hb
  exact ⟨h3.snoc (hp.turn (Turn.ofBelow (S := fun _ => False) hb) (fun _ _ h => h)) hown hg, grown_own (Nat.le_trans hB hb.size) (hb.mono hB) h3.1 hg⟩
variable {W W' : World} {K K' S : Nat → Prop} {xb : Nat} {vv av fv : Value} {P : Vrs} {A : List Txt} {Q : Fns}
theorem Rs.fun_row (h : Rs W K xb vv av fv P A Q) {i : Nat} {p : Txt × Value × List Nd} (hp : Q[i]? = some p) : ∃ g cap, fv = .slice (some ⟨g, 0, none⟩) Q.length cap ∧ W.cell? ⟨g, i * 2, none⟩ = some (str p.1) ∧ W.cell? ⟨g, i * 2 + 1, none⟩ = some p.2.1 := by
  obtain ⟨g, cap, hv, _, d0, d1⟩ := pr_at h.fr hp
  exact ⟨g, cap, hv, d0, d1⟩
set_option maxRecDepth 100000 in
set_option maxHeartbeats 4000000 in
theorem rsetFun_any (h : Rs W K xb vv av fv P A Q) (k : Txt) (lv : Value) (l : List Nd) (ht : NdAt W lv l) (hl : l.length < 4294967296) (hQ : Q.length < 60000) (hris : (cont Q).Pairwise fun p q => bytesBefore p.1 q.1 = true) :
    Calls Try.prog 33 #[xP xb, str k, lv] W fun e w' => e = .returned (.tuple #[]) ∧ ∃ fv' Q' K', Rs w' K' xb vv av fv' P A Q' ∧ cont Q' = putM (cont Q) k l ∧ Stx xb W K w' K' := by
  obtain ⟨i0, hi0, hz0, hz1, hz2⟩ := info_parts info74
  have HR : Hid (∀ W', Below W.heap.size W W' → Rs W' K xb vv av fv P A Q) := fun W' hb => h.below hb
  have HT : Hid (∀ W', Below W.heap.size W W' → NdAt W' lv l) := fun W' hb => ht.below hb (Nat.le_refl _)
  have HLT : Hid (∀ i, K i → i < W.heap.size) := h.lt
  have HG : Hid (setGo k l false (cont Q) = putM (cont Q) k l) := setGo_false k l _ hris
  have HCQ : Hid (∀ (i : Nat) (p : Txt × Value × List Nd), Q[i]? = some p → (cont Q)[i]? = some (p.1, p.2.2)) := fun i p hp => by
    unfold cont
    rw [List.getElem?_map, hp]
    rfl
  obtain ⟨adl, capl, rfl⟩ := ht.form
  obtain ⟨adf, capf, rfl⟩ := owns_slice h.fr
  clear h ht hris
  go_enter Try.func33, Try.ntmps33
  go_wp2_with fail
  go_loopw [6, 7, 8] (fun v6 v7 v8 wr => ∃ (i : Nat) (b : Bool) (O : Fns), v8 = .int .i64 i ∧ v7 = .bool b ∧ i ≤ Q.length ∧ Hid (FnOwn wr W.heap.size K v6 O ∧ cont O ++ setGo k l b ((cont Q).drop i) = putM (cont Q) k l ∧ O.length ≤ 2 * i + 1) ∧ Below W.heap.size W wr) (fun _ _ v8 _ => Q.length - (intOf v8).toNat)
  case atStart => exact ⟨0, false, [], rfl, rfl, Nat.zero_le _, ⟨FnOwn.nil _ _ _, HG.out, Nat.zero_le _⟩, Below.refl _ _⟩
  case round =>
    obtain ⟨i, b, O, rfl, rfl, hi, HI, hbr⟩ := hrel
    have hzr := hbr.size
    have x0 : wr.cell? ⟨xb, 2, none⟩ = some (.slice adf Q.length capf) := (HR.out _ hbr).xc.cell 2
    obtain ⟨ado, capo, rfl⟩ := owns_slice HI.out.1.1
    have hol := HI.out.2.2
    by_cases hil : i < Q.length
    · obtain ⟨p, hp⟩ := mem_iff_some hil
      obtain ⟨g, cap, hv, d0, d1⟩ := (HR.out _ hbr).fun_row hp
      cases hv
      have HPT : Hid (∀ W', Below W.heap.size W W' → On W' (fun i => K i ∨ W.heap.size ≤ i) p.2.1 p.2.2) := fun W' hb => ((HR.out _ hb).ft p (List.mem_of_getElem? hp)).mono (fun _ h => .inl h)
      have HCE : Hid (∀ W', Below W.heap.size W W' → W'.cell? ⟨xb, 2, none⟩ = some (.slice (some ⟨g, 0, none⟩) Q.length capf) ∧ W'.cell? ⟨g, i * 2, none⟩ = some (str p.1) ∧ W'.cell? ⟨g, i * 2 + 1, none⟩ = some p.2.1) := fun W' hb => by
        obtain ⟨g', cap', hv', q0, q1⟩ := (HR.out _ hb).fun_row hp
        cases hv'
        exact ⟨(HR.out _ hb).xc.cell 2, q0, q1⟩
      obtain ⟨adp, capp, hvp⟩ := (HPT.out _ hbr).form
      have HVP : Hid (p.2.1 = .slice adp p.2.2.length capp) := hvp
      have HDR : Hid (setGo k l b ((cont Q).drop i) = (if !b && !bytesBefore p.1 k then [(k, l)] else []) ++ (if p.1 == k then [] else [(p.1, p.2.2)]) ++ setGo k l (b || !bytesBefore p.1 k) ((cont Q).drop (i + 1))) := setGo_drop k l b (HCQ.out i p hp)
      rw [hvp] at d1
      clear hp hvp
      by_cases hnew : b = false ∧ bytesBefore p.1 k = false
      · obtain ⟨rfl, hbb⟩ := hnew
        have hbl : Op.bytesLess p.1 k = false := by rw [bl_eq]; exact hbb
        rw [hbb] at HDR
        cases hq : (p.1 == k) with
        | true =>
          rw [hq] at HDR
          go_wp2_with fail
          refine (nodes_any _ l wr (HT.out _ hbr) hl).mono ?_
          rintro e w3 ⟨nv, rfl, hoN, hb3'⟩
          obtain ⟨ad3, cap3, rfl⟩ := owns_slice hoN
          have hb3 : Below W.heap.size W w3 := hbr.trans (hb3'.mono hbr.size)
          have HF3 : Hid (FnOwn w3 W.heap.size K (.slice ado O.length capo) O) := HI.out.1.below hb3'
          have HN3 : Hid (On w3 (fun i => K i ∨ W.heap.size ≤ i) (.slice ad3 l.length cap3) l) := ⟨owns_lower hoN (Nat.zero_le _), fun b hb => .inr (Nat.le_trans hzr (hoN.lt b hb).1)⟩
          have hoA : (w3.alloc (.cells #[str k, .slice ad3 l.length cap3] 74)).ownsRow W.heap.size 74 2 (.slice ado O.length capo) O.length (prCs O) := HF3.out.1.alloc _
          have hz3 := hb3.size
          clear hoN hb3'
          go_wp2_with (at_builtin; refine wpList_append_own_at _ rfl _ _ 30 rfl W.heap.size 74 i0 _ 2 40 Try.underlying30 hi0 hz0 hz1 hz2 rfl (by decide) _ _ _ rfl hoA ⟨w3.heap.size, 0, none⟩ 1 1 [str k, .slice ad3 l.length cap3] rfl rfl (cells_new w3 _ 74) (vaC_one _ _ _) (by have := maxLen_big; omega) (by omega) (Nat.le_trans hz3 (below_new _ _).size) ?_; intro v5 w5 hown5 hgrow5 _ _; have HF5 : Hid (FnOwn w5 W.heap.size K v5 (O ++ [(k, Value.slice ad3 l.length cap3, l)]) ∧ Below W.heap.size w3 w5) := HF3.out.add hz3 HN3.out hown5 hgrow5; have hb5 : Below W.heap.size W w5 := hb3.trans HF5.out.2; have c5 := (HCE.out _ hb5).1; have c6 := (HCE.out _ hb5).2.1; clear hown5 hgrow5)
          refine ⟨⟨i + 1, true, _, by simp, rfl, by omega, ⟨HF5.out.1, ?_, by rw [List.length_append]; simp; omega⟩, hb5⟩, by simp [intOf]; omega⟩
          have e1 := HI.out.2.1
          rw [HDR.out] at e1
          rw [← e1]
          simp [cont]
        | false =>
          rw [hq] at HDR
          go_wp2_with fail
          refine (nodes_any _ l wr (HT.out _ hbr) hl).mono ?_
          rintro e w3 ⟨nv, rfl, hoN, hb3'⟩
          obtain ⟨ad3, cap3, rfl⟩ := owns_slice hoN
          have hb3 : Below W.heap.size W w3 := hbr.trans (hb3'.mono hbr.size)
          have HF3 : Hid (FnOwn w3 W.heap.size K (.slice ado O.length capo) O) := HI.out.1.below hb3'
          have HN3 : Hid (On w3 (fun i => K i ∨ W.heap.size ≤ i) (.slice ad3 l.length cap3) l) := ⟨owns_lower hoN (Nat.zero_le _), fun b hb => .inr (Nat.le_trans hzr (hoN.lt b hb).1)⟩
          have hoA : (w3.alloc (.cells #[str k, .slice ad3 l.length cap3] 74)).ownsRow W.heap.size 74 2 (.slice ado O.length capo) O.length (prCs O) := HF3.out.1.alloc _
          have hz3 := hb3.size
          clear hoN hb3'
          go_wp2_with (first | (at_builtin; refine wpList_append_own_at _ rfl _ _ 30 rfl W.heap.size 74 i0 _ 2 40 Try.underlying30 hi0 hz0 hz1 hz2 rfl (by decide) _ _ _ rfl hoA ⟨w3.heap.size, 0, none⟩ 1 1 [str k, .slice ad3 l.length cap3] rfl rfl (cells_new w3 _ 74) (vaC_one _ _ _) (by have := maxLen_big; omega) (by omega) (Nat.le_trans hz3 (below_new _ _).size) ?_; intro v5 w5 hown5 hgrow5 _ _; obtain ⟨ad5, cap5, rfl⟩ := owns_slice hown5; have HF5 : Hid (FnOwn w5 W.heap.size K (.slice ad5 (O.length + 1) cap5) (O ++ [(k, Value.slice ad3 l.length cap3, l)]) ∧ Below W.heap.size w3 w5) := HF3.out.add hz3 HN3.out hown5 hgrow5; have hb5 : Below W.heap.size W w5 := hb3.trans HF5.out.2; have hz5 := hb5.size; have c5 := (HCE.out _ hb5).1; have c6 := (HCE.out _ hb5).2.1; have c7 := (HCE.out _ hb5).2.2; rw [HVP.out] at c7; have hoB : (w5.alloc (.cells #[str p.1, .slice adp p.2.2.length capp] 74)).ownsRow W.heap.size 74 2 (.slice ad5 (O.length + 1) cap5) (O ++ [(k, Value.slice ad3 l.length cap3, l)]).length (prCs (O ++ [(k, Value.slice ad3 l.length cap3, l)])) := HF5.out.1.1.alloc _; clear hown5 hgrow5) | (at_builtin; refine wpList_append_own_at _ rfl _ _ 30 rfl W.heap.size 74 i0 _ 2 40 Try.underlying30 hi0 hz0 hz1 hz2 rfl (by decide) _ _ _ rfl hoB ⟨w5.heap.size, 0, none⟩ 1 1 [str p.1, .slice adp p.2.2.length capp] rfl rfl (cells_new w5 _ 74) (vaC_one _ _ _) (by rw [List.length_append]; have := maxLen_big; simp; omega) (by rw [List.length_append]; simp; omega) (Nat.le_trans hz5 (below_new _ _).size) ?_; intro v8 w8 hown8 hgrow8 _ _; have HF8 : Hid (FnOwn w8 W.heap.size K v8 ((O ++ [(k, Value.slice ad3 l.length cap3, l)]) ++ [(p.1, Value.slice adp p.2.2.length capp, p.2.2)]) ∧ Below W.heap.size w5 w8) := HF5.out.1.add hz5 (by rw [← HVP.out]; exact HPT.out _ hb5) hown8 hgrow8; have hb8 : Below W.heap.size W w8 := hb5.trans HF8.out.2; clear hown8 hgrow8))
          refine ⟨⟨i + 1, true, _, by simp, rfl, by omega, ⟨HF8.out.1, ?_, by rw [List.length_append, List.length_append]; simp; omega⟩, hb8⟩, by simp [intOf]; omega⟩
          have e1 := HI.out.2.1
          rw [HDR.out] at e1
          rw [← e1]
          simp [cont]
      · have HDR2 : Hid (setGo k l b ((cont Q).drop i) = (if p.1 == k then [] else [(p.1, p.2.2)]) ++ setGo k l b ((cont Q).drop (i + 1))) := by
          unfold Hid
          rw [HDR.out]
          cases b with
          | true => simp
          | false =>
            have hbb : bytesBefore p.1 k = true := by
              cases e : bytesBefore p.1 k with
              | true => rfl
              | false => exact absurd ⟨rfl, e⟩ hnew
            rw [hbb]
            simp
        have hoB : (wr.alloc (.cells #[str p.1, .slice adp p.2.2.length capp] 74)).ownsRow W.heap.size 74 2 (.slice ado O.length capo) O.length (prCs O) := HI.out.1.1.alloc _
        clear HDR
        cases b with
        | true =>
          clear hnew
          cases hq : (p.1 == k) with
          | true =>
            rw [hq] at HDR2
            go_wp2_with fail
            refine ⟨⟨i + 1, true, O, by simp, rfl, by omega, ⟨HI.out.1, ?_, by omega⟩, hbr⟩, by simp [intOf]; omega⟩
            have e1 := HI.out.2.1
            rw [HDR2.out] at e1
            exact e1
          | false =>
            rw [hq] at HDR2
            go_wp2_with (at_builtin; refine wpList_append_own_at _ rfl _ _ 30 rfl W.heap.size 74 i0 _ 2 40 Try.underlying30 hi0 hz0 hz1 hz2 rfl (by decide) _ _ _ rfl hoB ⟨wr.heap.size, 0, none⟩ 1 1 [str p.1, .slice adp p.2.2.length capp] rfl rfl (cells_new wr _ 74) (vaC_one _ _ _) (by have := maxLen_big; omega) (by omega) (Nat.le_trans hzr (below_new _ _).size) ?_; intro v8 w8 hown8 hgrow8 _ _; have HF8 : Hid (FnOwn w8 W.heap.size K v8 (O ++ [(p.1, Value.slice adp p.2.2.length capp, p.2.2)]) ∧ Below W.heap.size wr w8) := HI.out.1.add hzr (by rw [← HVP.out]; exact HPT.out _ hbr) hown8 hgrow8; have hb8 : Below W.heap.size W w8 := hbr.trans HF8.out.2; clear hown8 hgrow8)
            refine ⟨⟨i + 1, true, _, by simp, rfl, by omega, ⟨HF8.out.1, ?_, by rw [List.length_append]; simp; omega⟩, hb8⟩, by simp [intOf]; omega⟩
            have e1 := HI.out.2.1
            rw [HDR2.out] at e1
            rw [← e1]
            simp [cont]
        | false =>
          have hbl : Op.bytesLess p.1 k = true := by
            rw [bl_eq]
            cases e : bytesBefore p.1 k with
            | true => rfl
            | false => exact absurd ⟨rfl, e⟩ hnew
          clear hnew
          cases hq : (p.1 == k) with
          | true =>
            rw [hq] at HDR2
            go_wp2_with fail
            refine ⟨⟨i + 1, false, O, by simp, rfl, by omega, ⟨HI.out.1, ?_, by omega⟩, hbr⟩, by simp [intOf]; omega⟩
            have e1 := HI.out.2.1
            rw [HDR2.out] at e1
            exact e1
          | false =>
            rw [hq] at HDR2
            go_wp2_with (at_builtin; refine wpList_append_own_at _ rfl _ _ 30 rfl W.heap.size 74 i0 _ 2 40 Try.underlying30 hi0 hz0 hz1 hz2 rfl (by decide) _ _ _ rfl hoB ⟨wr.heap.size, 0, none⟩ 1 1 [str p.1, .slice adp p.2.2.length capp] rfl rfl (cells_new wr _ 74) (vaC_one _ _ _) (by have := maxLen_big; omega) (by omega) (Nat.le_trans hzr (below_new _ _).size) ?_; intro v8 w8 hown8 hgrow8 _ _; have HF8 : Hid (FnOwn w8 W.heap.size K v8 (O ++ [(p.1, Value.slice adp p.2.2.length capp, p.2.2)]) ∧ Below W.heap.size wr w8) := HI.out.1.add hzr (by rw [← HVP.out]; exact HPT.out _ hbr) hown8 hgrow8; have hb8 : Below W.heap.size W w8 := hbr.trans HF8.out.2; clear hown8 hgrow8)
            refine ⟨⟨i + 1, false, _, by simp, rfl, by omega, ⟨HF8.out.1, ?_, by rw [List.length_append]; simp; omega⟩, hb8⟩, by simp [intOf]; omega⟩
            have e1 := HI.out.2.1
            rw [HDR2.out] at e1
            rw [← e1]
            simp [cont]
    · have hie : i = Q.length := by omega
      subst hie
      have HEND : Hid (cont O ++ (if b then [] else [(k, l)]) = putM (cont Q) k l) := by
        have e1 := HI.out.2.1
        rw [List.drop_eq_nil_of_le (by rw [cont_length]; exact Nat.le_refl _)] at e1
        exact e1
      have HFIN : Hid (∀ (w : World) (v : Value) (O' : Fns), FnOwn w W.heap.size K v O' → Below W.heap.size W w → Rs (w.setCell ⟨xb, 2, none⟩ v) (Kn W w K) xb vv av v P A O' ∧ Stx xb W K (w.setCell ⟨xb, 2, none⟩ v) (Kn W w K) ∧ w.frozen? ⟨xb, 2, none⟩ = false ∧ w.cell? ⟨xb, 2, none⟩ = some (.slice adf Q.length capf)) := fun w v O' hf hb => by
        have hR := HR.out _ hb
        refine ⟨hR.setF (fun _ h => .inl h) (Kn.lt HLT.out hb.size) (owns_lower hf.1 (Nat.zero_le _)) (fun b hb => .inr ⟨(hf.1.lt b hb).1, (hf.1.lt b hb).2⟩) (fun p hp => ?_), ⟨(Turn.ofBelow hb).trans (turn_set _ _ _ _) (fun _ hi _ => hi), fun i hi => hi.imp id (fun h => h.1), fun _ h => .inl h⟩, hR.xc.frozen 2, hR.xc.cell 2⟩
        refine ⟨(hf.2 p hp).1, fun b hb => ?_⟩
        rcases (hf.2 p hp).2 b hb with h | h
        · exact .inl h
        · exact .inr ⟨h, ((hf.2 p hp).1.lt b hb).2⟩
      cases b with
      | true =>
        obtain ⟨r1, r2, f0, _⟩ := HFIN.out _ _ _ HI.out.1 hbr
        go_wp2_with fail
        go_end0
        refine ⟨rfl, _, O, _, r1, ?_, r2⟩
        have := HEND.out
        simp only [if_true, List.append_nil] at this
        exact this
      | false =>
        go_wp2_with fail
        refine (nodes_any _ l wr (HT.out _ hbr) hl).mono ?_
        rintro e w3 ⟨nv, rfl, hoN, hb3'⟩
        obtain ⟨ad3, cap3, rfl⟩ := owns_slice hoN
        have hb3 : Below W.heap.size W w3 := hbr.trans (hb3'.mono hbr.size)
        have HF3 : Hid (FnOwn w3 W.heap.size K (.slice ado O.length capo) O) := HI.out.1.below hb3'
        have HN3 : Hid (On w3 (fun i => K i ∨ W.heap.size ≤ i) (.slice ad3 l.length cap3) l) := ⟨owns_lower hoN (Nat.zero_le _), fun b hb => .inr (Nat.le_trans hzr (hoN.lt b hb).1)⟩
        have hoA : (w3.alloc (.cells #[str k, .slice ad3 l.length cap3] 74)).ownsRow W.heap.size 74 2 (.slice ado O.length capo) O.length (prCs O) := HF3.out.1.alloc _
        have hz3 := hb3.size
        clear hoN hb3'
        go_wp2_with (at_builtin; refine wpList_append_own_at _ rfl _ _ 30 rfl W.heap.size 74 i0 _ 2 40 Try.underlying30 hi0 hz0 hz1 hz2 rfl (by decide) _ _ _ rfl hoA ⟨w3.heap.size, 0, none⟩ 1 1 [str k, .slice ad3 l.length cap3] rfl rfl (cells_new w3 _ 74) (vaC_one _ _ _) (by have := maxLen_big; omega) (by omega) (Nat.le_trans hz3 (below_new _ _).size) ?_; intro v5 w5 hown5 hgrow5 _ _; obtain ⟨ad5, cap5, rfl⟩ := owns_slice hown5; have HF5 : Hid (FnOwn w5 W.heap.size K (.slice ad5 (O.length + 1) cap5) (O ++ [(k, Value.slice ad3 l.length cap3, l)]) ∧ Below W.heap.size w3 w5) := HF3.out.add hz3 HN3.out hown5 hgrow5; have hb5 : Below W.heap.size W w5 := hb3.trans HF5.out.2; have f5 := (HFIN.out _ _ _ HF5.out.1 hb5).2.2.1; have c5 := (HFIN.out _ _ _ HF5.out.1 hb5).2.2.2; clear hown5 hgrow5)
        go_end0
        obtain ⟨r1, r2, _⟩ := HFIN.out _ _ _ HF5.out.1 hb5
        refine ⟨rfl, _, _, _, r1, ?_, r2⟩
        have := HEND.out
        rw [← this]
        simp [cont]
end Go.Proofs.Ytikogljojnapaaa

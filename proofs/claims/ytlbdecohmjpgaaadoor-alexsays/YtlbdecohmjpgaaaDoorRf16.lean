/- The program's tokens, as the document has them; tokens that are the same. -/
import Derived.Test.YtlbdecohmjpgaaaDoorPurB
import Derived.Test.YtlbdecohmjpgaaaDoorRf11
import Derived.Test.YtlbdecohmjpgaaaDoorFirst
import Derived.Deep.RegionHeld3
import Derived.BigQuiet
namespace Go.Proofs.YtlbdecohmjpgaaaDoor
open Go.RowKit
attribute [local go_sem] Oper.semAt_some

theorem take_one {α : Type} (L : List α) (i : Nat) (h : i < L.length) : L.take (i + 1) = L.take i ++ [L[i]] := by rw [List.take_succ_eq_append_getElem h]
theorem below_drew' (B : Nat) (W : World) : Below B W W.drew := ⟨rfl, rfl, rfl, Nat.le_refl _, fun _ _ => rfl⟩
theorem row3 {W : World} {B : Nat} {v : Value} {K : List (Value × Tk)} (h : W.ownsRow B 45 3 v K.length (tkCs K)) (hne : K ≠ []) : ∃ g cap, v = .slice (some ⟨g, 0, none⟩) K.length cap ∧ ∀ i q, K[i]? = some q → ∀ j u, (tkC q)[j]? = some u → W.cell? ⟨g, i * 3 + j, none⟩ = some u := by
  rcases h.2 with ⟨_, h0⟩ | ⟨g, cap, cur, hv, hb, hc, h1, _, h2, h3⟩
  · exact absurd (List.eq_nil_of_length_eq_zero h0) hne
  · refine ⟨g, cap, hv, fun i q hi j u hu => ?_⟩
    have hf := flat_get3 K i q hi j u hu
    have hlt := (List.getElem?_eq_some_iff.1 hf).1
    rw [tkCs_length] at hlt
    have e1 : W.cell? ⟨g, i * 3 + j, none⟩ = cur[i * 3 + j]? := by simp [World.cell?, hc]
    rw [e1, ← Array.getElem?_toList, ← List.getElem?_take_of_lt hlt, h3]
    exact hf
set_option maxRecDepth 100000 in
set_option maxHeartbeats 8000000 in
theorem made_any {W : World} {B : Nat} {v : Value} {K : List (Value × Tk)} (h : TkOwn W B v K) (hK : K.length ≤ 10000) (hP : ∀ q ∈ K, q.2.parts.length ≤ 10000) :
    Calls Tryd.prog 13 #[v] W fun e w' => ∃ v' K', e = .returned v' ∧ K'.map Prod.snd = K.map Prod.snd ∧ RTk w' W.heap.size v' K' ∧ Below W.heap.size W w' := by
  obtain ⟨i0, hi, hz0, hz1, hz2⟩ := info_parts infoTR
  obtain ⟨j0, hj, hy0, hy1, hy2⟩ := info_parts infoR
  obtain ⟨ad, cap, rfl⟩ := h.form
  have HG : Hid (∀ w, Below W.heap.size W w → ∀ (i : Nat) (q : Value × Tk), K[i]? = some q → ∃ g, ad = some ⟨g, 0, none⟩ ∧ (∀ j u, (tkC q)[j]? = some u → w.cell? ⟨g, i * 3 + j, none⟩ = some u)) := fun w hb i q hq => by
    have hw := h.below hb
    obtain ⟨g, c2, e1, r1⟩ := hw.get (fun e => by rw [e] at hq; cases hq)
    obtain ⟨rfl, _, _⟩ := Value.slice.inj e1
    exact ⟨g, rfl, fun j u hu => r1 i q hq j u hu⟩
  have HP : Hid (∀ w, Below W.heap.size W w → ∀ (i : Nat) (q : Value × Tk), K[i]? = some q → PtOwn w B q.1 q.2.parts) := fun w hb i q hq => (h.below hb).parts q (List.mem_of_getElem? hq)
  have HPL : Hid (∀ q ∈ K, q.2.parts.length ≤ 10000) := hP
  clear h hP
  go_enter Tryd.func13, Tryd.ntmps13
  go_wp2_with fail
  go_loopw [3, 4, 5, 6, 7] (fun v3 v4 _ _ _ wr => ∃ (i : Nat) (K' : List (Value × Tk)), v4 = .int .i64 (i : Nat) ∧ i ≤ K.length ∧ K'.length = i ∧ Hid (K'.map Prod.snd = (K.take i).map Prod.snd) ∧ Hid (RTk wr W.heap.size v3 K') ∧ Hid (Below W.heap.size W wr)) (fun _ v4 _ _ _ _ => K.length - (intOf v4).toNat)
  case atStart => exact ⟨0, [], rfl, Nat.zero_le _, rfl, rfl, RTk.nil _ _, Below.refl _ _⟩
  case round =>
    obtain ⟨i, K', rfl, hiK, hKl, HM, HR, HB⟩ := hrel
    obtain ⟨ad3, cap3, rfl⟩ := HR.out.form
    rw [hKl] at HR ⊢
    by_cases hlt : i < K.length
    · have hlt' : (i : Int) < (K.length : Int) := by omega
      obtain ⟨q, hq⟩ : ∃ q, K[i]? = some q := ⟨K[i]'hlt, List.getElem?_eq_getElem _⟩
      obtain ⟨g, rfl, hc⟩ := HG.out wr HB.out i q hq
      have HHC : Hid (∀ w, Below W.heap.size W w → w.cell? ⟨g, i * 3 + 2, none⟩ = some q.1) := fun w hb => by
        obtain ⟨g', e, hc'⟩ := HG.out w hb i q hq
        cases e
        exact hc' 2 _ rfl
      have HPP : Hid (∀ w, Below W.heap.size W w → PtOwn w B q.1 q.2.parts) := fun w hb => HP.out w hb i q hq
      have c0 : wr.cell? ⟨g, i * 3, none⟩ = some (.int .i64 (q.2.kind : Nat)) := hc 0 _ rfl
      have c1 : wr.cell? ⟨g, i * 3 + 1, none⟩ = some (.int .i64 (q.2.pos : Nat)) := hc 1 _ rfl
      have hpl : q.2.parts.length ≤ 10000 := HPL.out q (List.mem_of_getElem? hq)
      have HQ : Hid ((K.take (i + 1)).map Prod.snd = (K.take i).map Prod.snd ++ [q.2]) := by
        unfold Hid
        rw [take_one K i hlt, List.map_append, List.map_singleton]
        rw [List.getElem?_eq_getElem hlt] at hq
        rw [Option.some.inj hq]
      obtain ⟨qv, kd, ps, X⟩ := q
      simp only at c0 c1 hpl HQ HHC HPP
      have hsz : W.heap.size ≤ wr.heap.size := HB.out.size
      clear hc hq HG HP
      obtain ⟨pa, pc, rfl⟩ := (HPP.out wr HB.out).form
      obtain ⟨wo, hwo⟩ : ∃ wo, wo = wr := ⟨_, rfl⟩
      subst hwo
      go_wp2_with fail
      go_region_held3 (fun w' => w'.cell? ⟨g, i * 3, none⟩ = some (.int .i64 (kd : Nat)) ∧ w'.cell? ⟨g, i * 3 + 1, none⟩ = some (.int .i64 (ps : Nat))) (go_keep) (first | fail)
      obtain ⟨Y0, hY0⟩ : ∃ Y0, Y0 = (wo.alloc (.cells #[.int .i64 (kd : Nat), .int .i64 (ps : Nat), .slice none 0 0] 45)).drew := ⟨_, rfl⟩
      obtain ⟨tb, htb⟩ : ∃ tb, tb = wo.heap.size := ⟨_, rfl⟩
      have HBY : Hid (Below tb wo Y0) := by rw [hY0, htb]; exact (below_new wo _).trans (below_drew' _ _)
      have HCY : Hid (Cel Y0 tb 45 #[.int .i64 (kd : Nat), .int .i64 (ps : Nat), .slice none 0 0]) := by rw [hY0, htb]; exact Cel.new wo _ _
      have HZY : Hid (tb + 1 ≤ Y0.heap.size) := by rw [hY0, htb]; simp [Hid, World.drew]
      have HTB : Hid (tb = wo.heap.size) := htb
      rw [← hY0, ← htb]
      have hsz2 : W.heap.size ≤ tb := by omega
      clear hY0 htb c0 c1
      go_wp2_with fail
      go_loopw [6, 7] (fun v6 _ w2 => ∃ (k : Nat) (a2 : Option Addr) (c2 : Nat), v6 = .int .i64 (k : Nat) ∧ k ≤ X.length ∧ Hid (Cel w2 tb 45 #[.int .i64 (kd : Nat), .int .i64 (ps : Nat), .slice a2 k c2]) ∧ Hid (RPt w2 (tb + 1) (.slice a2 k c2) (X.take k)) ∧ Hid (Below tb wo w2) ∧ Hid (tb + 1 ≤ w2.heap.size)) (fun v6 _ _ => X.length - (intOf v6).toNat)
      case atStart => exact ⟨0, none, 0, rfl, Nat.zero_le _, HCY.out, RPt.nil _ _, HBY.out, HZY.out⟩
      case round =>
        obtain ⟨k, a2, c2, rfl, hk, HC2, HR2, HB2, HZ2⟩ := hrel
        clear HCY HBY HZY
        have hb2 : Below W.heap.size W wr := HB.out.trans (HB2.out.mono (by omega))
        have cp := HHC.out wr hb2
        have hz2' := HZ2.out
        by_cases hlk : k < X.length
        · have hlk' : (k : Int) < (X.length : Int) := by omega
          obtain ⟨x, hx⟩ : ∃ x, X[k]? = some x := ⟨X[k]'hlk, List.getElem?_eq_getElem _⟩
          obtain ⟨pg, pc', e1, hg⟩ := (HPP.out wr hb2).get (fun e => by rw [e] at hlk; simp at hlk)
          obtain ⟨rfl, _, _⟩ := Value.slice.inj e1
          have m0 : wr.cell? ⟨pg, k * 5, none⟩ = some (.int .i64 (x.kind : Nat)) := hg k x hx 0 _ rfl
          have m1 : wr.cell? ⟨pg, k * 5 + 1, none⟩ = some (.int .i64 (x.pos : Nat)) := hg k x hx 1 _ rfl
          have m2 : wr.cell? ⟨pg, k * 5 + 2, none⟩ = some (.int .i64 (x.n : Nat)) := hg k x hx 2 _ rfl
          have m3 : wr.cell? ⟨pg, k * 5 + 3, none⟩ = some (.bool x.quoted) := hg k x hx 3 _ rfl
          have m4 : wr.cell? ⟨pg, k * 5 + 4, none⟩ = some (str x.s) := hg k x hx 4 _ rfl
          have HX : Hid (X.take (k + 1) = X.take k ++ [x]) := by
            unfold Hid
            rw [take_one X k hlk]
            rw [List.getElem?_eq_getElem hlk] at hx
            rw [Option.some.inj hx]
          have t2 : wr.cell? ⟨tb, 2, none⟩ = some (.slice a2 k c2) := HC2.out.cell 2
          have tf := HC2.out.frozen 2
          have htl := HC2.out.lt
          have hkl : (X.take k).length = k := by rw [List.length_take]; omega
          have HR2' : Hid (wr.ownsRow (tb + 1) 72 5 (.slice a2 k c2) k (ptCs (X.take k))) := by
            have := HR2.out
            unfold RPt at this
            rw [hkl] at this
            exact this
          clear hg hx e1 hb2 hkl
          obtain ⟨xk, xp, xn, xq, xs⟩ := x
          simp only at m0 m1 m2 m3 m4
          go_wp2_with (at_builtin; refine wpList_append_own_at _ rfl _ _ 43 rfl (tb + 1) 72 j0 _ 5 48 Tryd.underlying43 hj hy0 hy1 hy2 rfl (by decide) _ _ _ rfl (World.ownsRow.alloc (World.ownsRow.alloc HR2'.out _) _) ⟨wr.heap.size + 1, 0, none⟩ 1 1 (ptC (⟨xk, xp, xn, xq, xs⟩ : Pt)) rfl rfl (cells_new2 _ _ _ _) (by simp [Value.oneCell']) (by have := maxLen_big; omega) (by omega) (by simp; omega) ?_; intro v7 w7 hown hgrow hx1 hx2; clear hx1 hx2; have hC7 : Cel w7 tb 45 #[.int .i64 (kd : Nat), .int .i64 (ps : Nat), .slice a2 k c2] := kept2 HC2.out HR2'.out hgrow (by decide); have u2 : w7.cell? ⟨tb, 2, none⟩ = some (.slice a2 k c2) := hC7.cell 2; have uf := hC7.frozen 2; obtain ⟨a7, c7, rfl⟩ := owns_slice hown; have HC7 : Hid (Cel w7 tb 45 #[.int .i64 (kd : Nat), .int .i64 (ps : Nat), .slice a2 k c2]) := hC7; clear hC7)
          have hb7 : Below (tb + 1) wr w7 := grown_own (by simp; omega) (((Below.refl _ wr).alloc hz2' _).alloc (by simp; omega) _) (World.ownsRow.alloc (World.ownsRow.alloc HR2'.out _) _) hgrow
          have hr7 : RPt w7 (tb + 1) (.slice a7 (k + 1) c7) (X.take (k + 1)) := by
            have hl : (X.take k ++ [(⟨xk, xp, xn, xq, xs⟩ : Pt)]).length = k + 1 := by rw [List.length_append, List.length_take]; simp; omega
            rw [HX.out]
            unfold RPt
            rw [ptCs_append, ptCs_one, hl]
            exact hown
          have hT8 : Turn (fun g => g = tb) w7 (w7.setCell ⟨tb, 2, none⟩ (.slice a7 (k + 1) c7)) := Turn.setCell (S := fun g => g = tb) (p := ⟨tb, 2, none⟩) (Turn.refl _ w7) (fun _ => rfl) _
          refine ⟨⟨k + 1, a7, c7, by simp, by omega, HC7.out.set (j := 2) _, hr7.turn hT8 (fun _ e => by omega), (HB2.out.trans (hb7.mono (by omega))).setCell (p := ⟨tb, 2, none⟩) (Nat.le_refl _) _, Nat.le_trans hz2' (Nat.le_trans hb7.size hT8.size)⟩, by simp [intOf]; omega⟩
        · have hlk' : ¬ (k : Int) < (X.length : Int) := by omega
          have HXk : Hid (X.take k = X) := List.take_of_length_le (by omega)
          have hkX : k = X.length := by omega
          have HKX : Hid (k = X.length) := hkX
          have t0 : wr.cell? ⟨tb, 0, none⟩ = some (.int .i64 (kd : Nat)) := HC2.out.cell 0
          have t1 : wr.cell? ⟨tb, 1, none⟩ = some (.int .i64 (ps : Nat)) := HC2.out.cell 1
          have t2 : wr.cell? ⟨tb, 2, none⟩ = some (.slice a2 k c2) := HC2.out.cell 2
          have HRo : Hid (RTk wr W.heap.size (.slice ad3 i cap3) K') := HR.out.below (by rw [← HTB.out]; exact HB2.out)
          have HRo' : Hid (wr.ownsRow W.heap.size 45 3 (.slice ad3 i cap3) i (tkCs K')) := by
            have := HRo.out.row
            rw [hKl] at this
            exact this
          have hzr : W.heap.size ≤ wr.heap.size := hb2.size
          have HBW : Hid (Below W.heap.size W wr) := hb2
          have HRP : Hid (RPt wr W.heap.size (.slice a2 k c2) X) := by
            have := HR2.out
            rw [HXk.out] at this
            exact this.lower (by omega)
          clear hkX hb2
          go_wp2_with (at_builtin; refine wpList_append_own_at _ rfl _ _ 28 rfl W.heap.size 45 i0 _ 3 40 Tryd.underlying28 hi hz0 hz1 hz2 rfl (by decide) _ _ _ rfl (World.ownsRow.alloc HRo'.out _) ⟨wr.heap.size, 0, none⟩ 1 1 (tkC (.slice a2 k c2, ⟨kd, ps, X⟩)) rfl rfl (cells_new _ _ _) (by simp [Value.oneCell']) (by have := maxLen_big; omega) (by omega) (by simp; omega) ?_; intro v6 w6 hown hgrow hx1 hx2; clear hx1 hx2)
          have hb6 : Below W.heap.size wr w6 := grown_own (by simp; omega) ((Below.refl _ wr).alloc hzr _) (World.ownsRow.alloc HRo'.out _) hgrow
          have hown' : w6.ownsRow W.heap.size 45 3 v6 (K'.length + 1) (tkCs K' ++ tkC (.slice a2 k c2, ⟨kd, ps, X⟩)) := by rw [hKl]; exact hown
          have hK6 : RTk w6 W.heap.size v6 (K' ++ [(.slice a2 k c2, ⟨kd, ps, X⟩)]) := RTk.snoc (HRo.out.below (below_new wr _)) (HRP.out.below (below_new wr _)) hown' hgrow
          refine ⟨⟨i + 1, K' ++ [(Value.slice a2 k c2, (⟨kd, ps, X⟩ : Tk))], by simp, by omega, by rw [List.length_append, hKl]; rfl, ?_, hK6, HBW.out.trans hb6⟩, by simp [intOf]; omega⟩
          unfold Hid
          rw [HQ.out, List.map_append, HM.out]
          rfl
    · have hlt' : ¬ (i : Int) < (K.length : Int) := by omega
      have HMK : Hid (K'.map Prod.snd = K.map Prod.snd) := by
        have := HM.out
        rw [List.take_of_length_le (by omega)] at this
        exact this
      clear HM
      go_wp2_with fail
      go_ret
      have hR := HR.out
      exact ⟨_, rfl, K', HMK.out, hR, HB.out⟩
set_option maxRecDepth 100000 in
set_option maxHeartbeats 4000000 in
theorem sameTokens_any {W : World} {B1 B2 : Nat} {v1 v2 : Value} {K1 K2 : List (Value × Tk)} (h1 : RTk W B1 v1 K1) (h2 : RTk W B2 v2 K2) (hE : K1.map Prod.snd = K2.map Prod.snd) (hK : K1.length ≤ 10000) (hP : ∀ q ∈ K1, q.2.parts.length ≤ 10000) :
    Calls Tryd.prog 12 #[v1, v2] W fun e w' => e = .returned (.bool true) ∧ ∃ m, w' = W.drewN m := by
  obtain ⟨a1, c1, rfl⟩ := h1.form
  obtain ⟨a2, c2, rfl⟩ := h2.form
  have hl : K2.length = K1.length := by have := congrArg List.length hE; simp at this; omega
  rw [hl]
  have HG : Hid (∀ (k : Nat), k < K1.length → ∃ g1 g2 kd ps p1 d1 p2 d2 n X, X.length = n ∧ n ≤ 10000 ∧ a1 = some ⟨g1, 0, none⟩ ∧ a2 = some ⟨g2, 0, none⟩ ∧ ∀ m, (W.drewN m).cell? ⟨g1, k * 3, none⟩ = some (.int .i64 ((kd : Nat) : Int)) ∧ (W.drewN m).cell? ⟨g2, k * 3, none⟩ = some (.int .i64 ((kd : Nat) : Int)) ∧ (W.drewN m).cell? ⟨g1, k * 3 + 1, none⟩ = some (.int .i64 ((ps : Nat) : Int)) ∧ (W.drewN m).cell? ⟨g2, k * 3 + 1, none⟩ = some (.int .i64 ((ps : Nat) : Int)) ∧ (W.drewN m).cell? ⟨g1, k * 3 + 2, none⟩ = some (.slice p1 n d1) ∧ (W.drewN m).cell? ⟨g2, k * 3 + 2, none⟩ = some (.slice p2 n d2) ∧ RPt (W.drewN m) B1 (.slice p1 n d1) X ∧ RPt (W.drewN m) B2 (.slice p2 n d2) X) := fun k hk => by
    have hk2 : k < K2.length := by omega
    have e1 : K1[k]? = some K1[k] := List.getElem?_eq_getElem _
    have e2 : K2[k]? = some K2[k] := List.getElem?_eq_getElem _
    have hs : (K1[k]).2 = (K2[k]).2 := by
      have := congrArg (fun L => L[k]?) hE
      simp only [List.getElem?_map, e1, e2, Option.map_some] at this
      exact Option.some.inj this
    have r1 := h1.parts _ (List.mem_of_getElem? e1)
    have r2 := h2.parts _ (List.mem_of_getElem? e2)
    rw [← hs] at r2
    have hpl := hP _ (List.mem_of_getElem? e1)
    obtain ⟨g1, f1, q1, s1⟩ := row3 h1.row (fun e => by rw [e] at hk; simp at hk)
    obtain ⟨g2, f2, q2, s2⟩ := row3 h2.row (fun e => by rw [e] at hk2; simp at hk2)
    obtain ⟨rfl, _, _⟩ := Value.slice.inj q1
    obtain ⟨rfl, _, _⟩ := Value.slice.inj q2
    have x0 := s1 k _ e1 0 _ rfl
    have x1 := s1 k _ e1 1 _ rfl
    have x2 := s1 k _ e1 2 _ rfl
    have y0 := s2 k _ e2 0 _ rfl
    have y1 := s2 k _ e2 1 _ rfl
    have y2 := s2 k _ e2 2 _ rfl
    rw [← hs] at y0 y1
    obtain ⟨p1, d1, hv1⟩ := r1.form
    obtain ⟨p2, d2, hv2⟩ := r2.form
    rw [hv1] at x2 r1
    rw [hv2] at y2 r2
    exact ⟨g1, g2, _, _, p1, d1, p2, d2, _, _, rfl, hpl, rfl, rfl, fun m => ⟨x0, y0, x1, y1, x2, y2, r1, r2⟩⟩
  have hne : ((K1.length : Int) == (K1.length : Int)) = true := beq_self_eq_true _
  clear h1 h2 hE hl hP
  go_enter Tryd.func12, Tryd.ntmps12
  go_wp2_with fail
  go_loopw [4, 5, 6] (fun v4 v5 _ wr => ∃ k m : Nat, v4 = .bool false ∧ v5 = .int .i64 (k : Nat) ∧ k ≤ K1.length ∧ wr = W.drewN m) (fun _ v5 _ _ => K1.length - (intOf v5).toNat)
  case atStart => exact ⟨0, 0, rfl, rfl, Nat.zero_le _, rfl⟩
  case round =>
    obtain ⟨k, m, rfl, rfl, hk, rfl⟩ := hrel
    by_cases hlt : k < K1.length
    · have hlt' : (k : Int) < (K1.length : Int) := by omega
      obtain ⟨g1, g2, kd, ps, p1, d1, p2, d2, n, X, hX, hn, rfl, rfl, hc⟩ := HG.out k hlt
      have HC : Hid (∀ m, (W.drewN m).cell? ⟨g1, k * 3, none⟩ = some (.int .i64 ((kd : Nat) : Int)) ∧ (W.drewN m).cell? ⟨g2, k * 3, none⟩ = some (.int .i64 ((kd : Nat) : Int)) ∧ (W.drewN m).cell? ⟨g1, k * 3 + 1, none⟩ = some (.int .i64 ((ps : Nat) : Int)) ∧ (W.drewN m).cell? ⟨g2, k * 3 + 1, none⟩ = some (.int .i64 ((ps : Nat) : Int)) ∧ (W.drewN m).cell? ⟨g1, k * 3 + 2, none⟩ = some (.slice p1 n d1) ∧ (W.drewN m).cell? ⟨g2, k * 3 + 2, none⟩ = some (.slice p2 n d2) ∧ RPt (W.drewN m) B1 (.slice p1 n d1) X ∧ RPt (W.drewN m) B2 (.slice p2 n d2) X) := hc
      have HSP : Hid (∀ m, Calls Tryd.prog 29 #[.slice p1 n d1, .slice p2 n d2] (W.drewN m) fun e w' => e = .returned (.bool true) ∧ ∃ j, w' = (W.drewN m).drewN j) := fun m => sameParts_any (hc m).2.2.2.2.2.2.1 (hc m).2.2.2.2.2.2.2 (by omega)
      clear hc hX
      obtain ⟨x0, y0, x1, y1, x2, y2, _, _⟩ := HC.out m
      obtain ⟨Wm, hWm⟩ : ∃ Wm, Wm = W.drewN m := ⟨_, rfl⟩
      have HSM : Hid (∀ n', Calls Tryd.prog 29 #[.slice p1 n d1, .slice p2 n d2] (Wm.drewN n') fun e w' => e = .returned (.bool true) ∧ ∃ j, w' = (Wm.drewN n').drewN j) := fun n' => by rw [hWm, World.drewN_drewN]; exact HSP.out _
      have HWM : Hid (Wm = W.drewN m) := hWm
      rw [← hWm] at x0 y0 x1 y1 x2 y2 ⊢
      clear hWm HSP
      go_wp2_with fail
      go_quiet (first | (go_at_call 29; exact Calls.quiet_of (HSM.out _)))
      obtain ⟨W5, hW5⟩ : ∃ W5, W5 = Wm.drewN nq := ⟨_, rfl⟩
      obtain ⟨m2, H5⟩ : ∃ m2, Hid (W5 = W.drewN m2) := ⟨m + nq, by rw [hW5, HWM.out, World.drewN_drewN]; rfl⟩
      have z0 : W5.cell? ⟨g1, k * 3, none⟩ = some (.int .i64 ((kd : Nat) : Int)) := by rw [hW5]; exact x0
      have z1 : W5.cell? ⟨g2, k * 3, none⟩ = some (.int .i64 ((kd : Nat) : Int)) := by rw [hW5]; exact y0
      have z2 : W5.cell? ⟨g1, k * 3 + 1, none⟩ = some (.int .i64 ((ps : Nat) : Int)) := by rw [hW5]; exact x1
      have z3 : W5.cell? ⟨g2, k * 3 + 1, none⟩ = some (.int .i64 ((ps : Nat) : Int)) := by rw [hW5]; exact y1
      rw [← hW5]
      clear hW5 x0 y0 x1 y1 x2 y2 HSM
      go_wp2_with fail
      go_quiet (fail)
      go_wp2_with fail
      refine ⟨⟨k + 1, m2 + nq, rfl, by simp, by omega, ?_⟩, by simp [intOf]; omega⟩
      rw [H5.out, World.drewN_drewN]
    · have hlt' : ¬ (k : Int) < (K1.length : Int) := by omega
      go_wp2_with fail
      go_ret
      exact ⟨rfl, m, rfl⟩
end Go.Proofs.YtlbdecohmjpgaaaDoor

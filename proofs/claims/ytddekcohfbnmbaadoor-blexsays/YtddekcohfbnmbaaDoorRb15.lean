/- The program's tokens, as the document has them; tokens that are the same. -/
import Derived.Test.YtddekcohfbnmbaaDoorRb3
import Derived.Test.YtddekcohfbnmbaaDoorFirst
import Derived.Deep.RegionHeld3
import Derived.Deep.RegionHeldLaw
import Derived.Deep.AppendLies
import Derived.BigQuiet
namespace Go.Proofs.YtddekcohfbnmbaaDoor
open Go.RowKit
attribute [local go_sem] Oper.semAt_some

theorem take_one {α : Type} (L : List α) (i : Nat) (h : i < L.length) : L.take (i + 1) = L.take i ++ [L[i]] := by rw [List.take_succ_eq_append_getElem h]
theorem RbOwn.get {W : World} {B : Nat} {v : Value} {K : List Tb} (h : RbOwn W B v K) (hne : K ≠ []) : ∃ g cap, v = .slice (some ⟨g, 0, none⟩) K.length cap ∧ ∀ i q, K[i]? = some q → ∀ j u, (tbC q)[j]? = some u → W.cell? ⟨g, i * 5 + j, none⟩ = some u := by
  rcases h.2 with ⟨_, h0⟩ | ⟨g, cap, cur, hv, hb, hc, h1, _, h2, h3⟩
  · exact absurd (List.eq_nil_of_length_eq_zero h0) hne
  · refine ⟨g, cap, hv, fun i q hi j u hu => ?_⟩
    have hf := flat_get5 K i q hi j u hu
    have hlt := (List.getElem?_eq_some_iff.1 hf).1
    rw [tbCs_length] at hlt
    have e1 : W.cell? ⟨g, i * 5 + j, none⟩ = cur[i * 5 + j]? := by simp [World.cell?, hc]
    rw [e1, ← Array.getElem?_toList, ← List.getElem?_take_of_lt hlt, h3]
    exact hf
set_option maxRecDepth 100000 in
set_option maxHeartbeats 8000000 in
theorem made_any {W : World} {B : Nat} {v : Value} {K : List Tb} (h : TbOwn W B v K) (hK : K.length ≤ 10000) :
    Calls Tryd.prog 12 #[v] W fun e w' => ∃ v', e = .returned v' ∧ RbOwn w' W.heap.size v' K ∧ Below W.heap.size W w' := by
  obtain ⟨i0, hi, hz0, hz1, hz2⟩ := info_parts infoTB
  obtain ⟨ad, cap, rfl⟩ := h.form
  have HG : Hid (∀ w, Below W.heap.size W w → ∀ (i : Nat) (q : Tb), K[i]? = some q → ∃ g, ad = some ⟨g, 0, none⟩ ∧ (∀ j u, (tbC q)[j]? = some u → w.cell? ⟨g, i * 5 + j, none⟩ = some u)) := fun w hb i q hq => by
    have hw := h.below hb
    obtain ⟨g, c2, e1, r1⟩ := hw.get (fun e => by rw [e] at hq; cases hq)
    obtain ⟨rfl, _, _⟩ := Value.slice.inj e1
    exact ⟨g, rfl, fun j u hu => r1 i q hq j u hu⟩
  clear h
  go_enter Tryd.func12, Tryd.ntmps12
  go_wp2_with fail
  go_loopw [3, 4] (fun v3 v4 wr => ∃ (i : Nat), v4 = .int .i64 (i : Nat) ∧ i ≤ K.length ∧ Hid (RbOwn wr W.heap.size v3 (K.take i)) ∧ Hid (Below W.heap.size W wr)) (fun _ v4 _ => K.length - (intOf v4).toNat)
  case atStart => exact ⟨0, rfl, Nat.zero_le _, RbOwn.nil _ _, Below.refl _ _⟩
  case round =>
    obtain ⟨i, rfl, hiK, HR, HB⟩ := hrel
    obtain ⟨ad3, cap3, rfl⟩ := HR.out.form
    have hKl : (K.take i).length = i := by rw [List.length_take]; omega
    rw [hKl] at HR ⊢
    by_cases hlt : i < K.length
    · have hlt' : (i : Int) < (K.length : Int) := by omega
      obtain ⟨q, hq⟩ : ∃ q, K[i]? = some q := ⟨K[i]'hlt, List.getElem?_eq_getElem _⟩
      obtain ⟨g, rfl, hc⟩ := HG.out wr HB.out i q hq
      have c0 : wr.cell? ⟨g, i * 5, none⟩ = some (.int .i64 (q.kind : Nat)) := hc 0 _ rfl
      have c1 : wr.cell? ⟨g, i * 5 + 1, none⟩ = some (.int .i64 (q.pos : Nat)) := hc 1 _ rfl
      have c2 : wr.cell? ⟨g, i * 5 + 2, none⟩ = some (.int .i64 (q.n : Nat)) := hc 2 _ rfl
      have c3 : wr.cell? ⟨g, i * 5 + 3, none⟩ = some (str q.s) := hc 3 _ rfl
      have c4 : wr.cell? ⟨g, i * 5 + 4, none⟩ = some (.bool q.glue) := hc 4 _ rfl
      have HQ : Hid (K.take (i + 1) = K.take i ++ [q]) := by
        unfold Hid
        rw [take_one K i hlt]
        rw [List.getElem?_eq_getElem hlt] at hq
        rw [Option.some.inj hq]
      have HR' : Hid (wr.ownsRow W.heap.size 55 5 (.slice ad3 i cap3) i (tbCs (K.take i))) := by
        have := HR.out
        unfold RbOwn at this
        rw [hKl] at this
        exact this
      have hzr : W.heap.size ≤ wr.heap.size := HB.out.size
      have HGC0 : Hid (∀ w, Below W.heap.size W w → w.cell? ⟨g, i * 5, none⟩ = some (.int .i64 (q.kind : Nat)) ∧ w.cell? ⟨g, i * 5 + 1, none⟩ = some (.int .i64 (q.pos : Nat)) ∧ w.cell? ⟨g, i * 5 + 2, none⟩ = some (.int .i64 (q.n : Nat)) ∧ w.cell? ⟨g, i * 5 + 3, none⟩ = some (str q.s) ∧ w.cell? ⟨g, i * 5 + 4, none⟩ = some (.bool q.glue)) := fun w hb => by
        obtain ⟨g', e', hc'⟩ := HG.out w hb i q hq
        cases e'
        exact ⟨hc' 0 _ rfl, hc' 1 _ rfl, hc' 2 _ rfl, hc' 3 _ rfl, hc' 4 _ rfl⟩
      obtain ⟨qk, qp, qn, qs, qg⟩ := q
      simp only at c0 c1 c2 c3 c4 HGC0
      clear hc hq HG HR
      have HGC : Hid (∀ w, Below W.heap.size W w → w.cell? ⟨g, i * 5, none⟩ = some (.int .i64 (qk : Nat)) ∧ w.cell? ⟨g, i * 5 + 1, none⟩ = some (.int .i64 (qp : Nat)) ∧ w.cell? ⟨g, i * 5 + 2, none⟩ = some (.int .i64 (qn : Nat)) ∧ w.cell? ⟨g, i * 5 + 3, none⟩ = some (str qs) ∧ w.cell? ⟨g, i * 5 + 4, none⟩ = some (.bool qg)) := HGC0.out
      clear HGC0
      have HR6 : Hid ((wr.alloc (.cells #[.int .i64 (qk : Nat), .int .i64 (qp : Nat), .int .i64 (qn : Nat), str qs, .bool qg] 55)).drew.ownsRow W.heap.size 55 5 (.slice ad3 i cap3) i (tbCs (K.take i))) := World.ownsRow.alloc HR'.out _
      have HN6 : Hid (∀ j u, (tbC ⟨qk, qp, qn, qs, qg⟩)[j]? = some u → (wr.alloc (.cells #[.int .i64 (qk : Nat), .int .i64 (qp : Nat), .int .i64 (qn : Nat), str qs, .bool qg] 55)).drew.cell? ((⟨wr.heap.size, 0, none⟩ : Addr).add j) = some u) := cells_new wr (tbC ⟨qk, qp, qn, qs, qg⟩) _
      have HB6 : Hid (Below W.heap.size wr (wr.alloc (.cells #[.int .i64 (qk : Nat), .int .i64 (qp : Nat), .int .i64 (qn : Nat), str qs, .bool qg] 55)).drew) := ((Below.refl _ wr).alloc hzr _).trans (below_drew _ _)
      have HG6 : Hid (∀ w6, (wr.alloc (.cells #[.int .i64 (qk : Nat), .int .i64 (qp : Nat), .int .i64 (qn : Nat), str qs, .bool qg] 55)).drew.grownBy w6 (Value.slice ad3 i cap3).ownBlock → Below W.heap.size W w6) := fun w6 hg => HB.out.trans (grown_own (by simp [World.drew]; omega) HB6.out HR6.out hg)
      go_wp2_with fail
      go_region_held_law (fun w' => w'.cell? ⟨g, i * 5, none⟩ = some (.int .i64 (qk : Nat)) ∧ w'.cell? ⟨g, i * 5 + 1, none⟩ = some (.int .i64 (qp : Nat)) ∧ w'.cell? ⟨g, i * 5 + 2, none⟩ = some (.int .i64 (qn : Nat)) ∧ w'.cell? ⟨g, i * 5 + 3, none⟩ = some (str qs) ∧ w'.cell? ⟨g, i * 5 + 4, none⟩ = some (.bool qg)) (first | go_keep | exact HGC.out _ (HG6.out _ (by assumption)))
        ((refine step_append_lies _ (by rfl) _ _ 28 (by rfl) W.heap.size 55 i0 _ 5 48 Tryd.underlying28 hi hz0 hz1 hz2 rfl (by decide) _ _ _ (by rfl) HR6.out ⟨wr.heap.size, 0, none⟩ 1 1 (tbC ⟨qk, qp, qn, qs, qg⟩) (by rfl) rfl HN6.out (by simp [Value.oneCell']) (by decide) (by have := maxLen_big; omega) (by omega) (by simp [World.drew]; omega) _ rfl ?_; intro g6 cap6 w6 hown hgrow hat hlt6))
      have HB7 : Hid (Below W.heap.size W w6) := HG6.out _ hgrow
      have hK6 : RbOwn w6 W.heap.size (.slice (some ⟨g6, 0, none⟩) (i + 1) cap6) (K.take (i + 1)) := by
        unfold RbOwn
        rw [HQ.out, tbCs_append, tbCs_one, List.length_append, hKl]
        exact hown
      have HK6 : Hid (RbOwn w6 W.heap.size (.slice (some ⟨g6, 0, none⟩) (i + 1) cap6) (K.take (i + 1))) := hK6
      clear hown hgrow hat hlt6 hK6 HR6 HN6 HB6 HG6 HGC HR' c0 c1 c2 c3 c4 HQ
      go_wp2_with fail
      exact ⟨⟨i + 1, by simp, by omega, HK6.out, HB7.out⟩, by simp [intOf]; omega⟩
    · have hlt' : ¬ (i : Int) < (K.length : Int) := by omega
      have HRK : Hid (RbOwn wr W.heap.size (.slice ad3 i cap3) K) := by
        have := HR.out
        rw [List.take_of_length_le (by omega)] at this
        exact this
      clear HR
      go_wp2_with fail
      go_ret
      exact ⟨_, rfl, HRK.out, HB.out⟩
set_option maxRecDepth 100000 in
set_option maxHeartbeats 4000000 in
theorem sameTokens_any {W : World} {B1 B2 : Nat} {v1 v2 : Value} {K : List Tb} (h1 : RbOwn W B1 v1 K) (h2 : RbOwn W B2 v2 K) (hK : K.length ≤ 10000) :
    Calls Tryd.prog 11 #[v1, v2] W fun e w' => e = .returned (.bool true) ∧ ∃ m, w' = W.drewN m := by
  obtain ⟨a1, c1, rfl⟩ := h1.form
  obtain ⟨a2, c2, rfl⟩ := h2.form
  have HG : Hid (∀ (k : Nat), k < K.length → ∃ g1 g2 kd ps n gl s, a1 = some ⟨g1, 0, none⟩ ∧ a2 = some ⟨g2, 0, none⟩ ∧ ∀ m, (W.drewN m).cell? ⟨g1, k * 5, none⟩ = some (.int .i64 ((kd : Nat) : Int)) ∧ (W.drewN m).cell? ⟨g2, k * 5, none⟩ = some (.int .i64 ((kd : Nat) : Int)) ∧ (W.drewN m).cell? ⟨g1, k * 5 + 1, none⟩ = some (.int .i64 ((ps : Nat) : Int)) ∧ (W.drewN m).cell? ⟨g2, k * 5 + 1, none⟩ = some (.int .i64 ((ps : Nat) : Int)) ∧ (W.drewN m).cell? ⟨g1, k * 5 + 2, none⟩ = some (.int .i64 ((n : Nat) : Int)) ∧ (W.drewN m).cell? ⟨g2, k * 5 + 2, none⟩ = some (.int .i64 ((n : Nat) : Int)) ∧ (W.drewN m).cell? ⟨g1, k * 5 + 3, none⟩ = some (.string s) ∧ (W.drewN m).cell? ⟨g2, k * 5 + 3, none⟩ = some (.string s) ∧ (W.drewN m).cell? ⟨g1, k * 5 + 4, none⟩ = some (.bool gl) ∧ (W.drewN m).cell? ⟨g2, k * 5 + 4, none⟩ = some (.bool gl)) := fun k hk => by
    have e1 : K[k]? = some K[k] := List.getElem?_eq_getElem _
    obtain ⟨g1, f1, q1, s1⟩ := h1.get (fun e => by rw [e] at hk; simp at hk)
    obtain ⟨g2, f2, q2, s2⟩ := h2.get (fun e => by rw [e] at hk; simp at hk)
    obtain ⟨rfl, _, _⟩ := Value.slice.inj q1
    obtain ⟨rfl, _, _⟩ := Value.slice.inj q2
    exact ⟨g1, g2, _, _, _, _, _, rfl, rfl, fun m => ⟨s1 k _ e1 0 _ rfl, s2 k _ e1 0 _ rfl, s1 k _ e1 1 _ rfl, s2 k _ e1 1 _ rfl, s1 k _ e1 2 _ rfl, s2 k _ e1 2 _ rfl, s1 k _ e1 3 _ rfl, s2 k _ e1 3 _ rfl, s1 k _ e1 4 _ rfl, s2 k _ e1 4 _ rfl⟩⟩
  have hne : ((K.length : Int) == (K.length : Int)) = true := beq_self_eq_true _
  clear h1 h2
  go_enter Tryd.func11, Tryd.ntmps11
  go_wp2_with fail
  go_loopw [4, 5] (fun v2 v3 wr => ∃ k m : Nat, v2 = .bool false ∧ v3 = .int .i64 (k : Nat) ∧ k ≤ K.length ∧ wr = W.drewN m) (fun _ v3 _ => K.length - (intOf v3).toNat)
  case atStart => exact ⟨0, 0, rfl, rfl, Nat.zero_le _, rfl⟩
  case round =>
    obtain ⟨k, m, rfl, rfl, hk, rfl⟩ := hrel
    by_cases hlt : k < K.length
    · have hlt' : (k : Int) < (K.length : Int) := by omega
      obtain ⟨g1, g2, kd, ps, n, gl, s, rfl, rfl, hc⟩ := HG.out k hlt
      obtain ⟨x0, y0, x1, y1, x2, y2, x3, y3, x4, y4⟩ := hc m
      obtain ⟨Wm, hWm⟩ : ∃ Wm, Wm = W.drewN m := ⟨_, rfl⟩
      have HWM : Hid (Wm = W.drewN m) := hWm
      rw [← hWm] at x0 y0 x1 y1 x2 y2 x3 y3 x4 y4 ⊢
      clear hWm hc HG
      go_wp2_with fail
      go_quiet (fail)
      go_wp2_with fail
      refine ⟨⟨k + 1, m + nq, rfl, by simp, by omega, ?_⟩, by simp [intOf]; omega⟩
      rw [HWM.out, World.drewN_drewN]
    · have hlt' : ¬ (k : Int) < (K.length : Int) := by omega
      go_wp2_with fail
      go_ret
      exact ⟨rfl, m, rfl⟩
end Go.Proofs.YtddekcohfbnmbaaDoor

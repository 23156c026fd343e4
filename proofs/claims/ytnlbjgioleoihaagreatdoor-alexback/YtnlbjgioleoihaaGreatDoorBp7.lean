/- The same parts, but for places: the law's own function. -/
import Derived.Test.YtnlbjgioleoihaaGreatDoorBp5
import Derived.Deep.RegionHeld3
import Derived.BigQuiet
namespace Go.Proofs.YtnlbjgioleoihaaGreatDoor
open Go.RowKit
attribute [local go_sem] Oper.semAt_some

set_option maxRecDepth 100000 in
set_option maxHeartbeats 8000000 in
theorem samePt_any {W : World} {B1 B2 : Nat} {v1 v2 : Value} {X1 X2 : List Pt} (h1 : PtOwn W B1 v1 X1) (h2 : PtOwn W B2 v2 X2) (hE : X1.map strip = X2.map strip) (hl : X1.length ≤ 100000) :
    Calls Tryz.prog 7 #[v1, v2] W fun e w' => e = .returned (.bool true) ∧ ∃ m, w' = W.drewN m := by
  obtain ⟨a1, c1, rfl⟩ := h1.form
  obtain ⟨a2, c2, rfl⟩ := h2.form
  have hl2 : X2.length = X1.length := by have := congrArg List.length hE; simp at this; omega
  rw [hl2]
  have HG : Hid (∀ (k : Nat), k < X1.length → ∃ g1 g2 kd n q s, a1 = some ⟨g1, 0, none⟩ ∧ a2 = some ⟨g2, 0, none⟩ ∧ ∀ m, (W.drewN m).cell? ⟨g1, k * 5, none⟩ = some (.int .i64 ((kd : Nat) : Int)) ∧ (W.drewN m).cell? ⟨g2, k * 5, none⟩ = some (.int .i64 ((kd : Nat) : Int)) ∧ (W.drewN m).cell? ⟨g1, k * 5 + 2, none⟩ = some (.int .i64 ((n : Nat) : Int)) ∧ (W.drewN m).cell? ⟨g2, k * 5 + 2, none⟩ = some (.int .i64 ((n : Nat) : Int)) ∧ (W.drewN m).cell? ⟨g1, k * 5 + 3, none⟩ = some (.bool q) ∧ (W.drewN m).cell? ⟨g2, k * 5 + 3, none⟩ = some (.bool q) ∧ (W.drewN m).cell? ⟨g1, k * 5 + 4, none⟩ = some (.string s) ∧ (W.drewN m).cell? ⟨g2, k * 5 + 4, none⟩ = some (.string s)) := fun k hk => by
    have hk2 : k < X2.length := by omega
    have e1 : X1[k]? = some X1[k] := List.getElem?_eq_getElem _
    have e2 : X2[k]? = some X2[k] := List.getElem?_eq_getElem _
    have hs : strip X1[k] = strip X2[k] := by
      have := congrArg (fun L => L[k]?) hE
      simp only [List.getElem?_map, e1, e2, Option.map_some] at this
      exact Option.some.inj this
    obtain ⟨g1, f1, q1, s1⟩ := h1.get (fun e => by rw [e] at hk; simp at hk)
    obtain ⟨g2, f2, q2, s2⟩ := h2.get (fun e => by rw [e] at hk2; simp at hk2)
    obtain ⟨rfl, _, _⟩ := Value.slice.inj q1
    obtain ⟨rfl, _, _⟩ := Value.slice.inj q2
    have t0 : X1[k].kind = X2[k].kind := by have := congrArg Pt.kind hs; exact this
    have t2 : X1[k].n = X2[k].n := by have := congrArg Pt.n hs; exact this
    have t3 : X1[k].quoted = X2[k].quoted := by have := congrArg Pt.quoted hs; exact this
    have t4 : X1[k].s = X2[k].s := by have := congrArg Pt.s hs; exact this
    have y0 := s2 k _ e2 0 _ rfl
    have y2 := s2 k _ e2 2 _ rfl
    have y3 := s2 k _ e2 3 _ rfl
    have y4 := s2 k _ e2 4 _ rfl
    rw [← t0] at y0
    rw [← t2] at y2
    rw [← t3] at y3
    rw [← t4] at y4
    exact ⟨g1, g2, _, _, _, _, rfl, rfl, fun m => ⟨s1 k _ e1 0 _ rfl, y0, s1 k _ e1 2 _ rfl, y2, s1 k _ e1 3 _ rfl, y3, s1 k _ e1 4 _ rfl, y4⟩⟩
  have hne : ((X1.length : Int) == (X1.length : Int)) = true := beq_self_eq_true _
  clear h1 h2 hE hl2
  go_enter Tryz.func7, Tryz.ntmps7
  go_wp2_with fail
  go_loopw [4, 5] (fun v4 v5 wr => ∃ k m : Nat, v4 = .bool false ∧ v5 = .int .i64 (k : Nat) ∧ k ≤ X1.length ∧ wr = W.drewN m) (fun _ v5 _ => X1.length - (intOf v5).toNat)
  case atStart => exact ⟨0, 0, rfl, rfl, Nat.zero_le _, rfl⟩
  case round =>
    obtain ⟨k, m, rfl, rfl, hk, rfl⟩ := hrel
    by_cases hlt : k < X1.length
    · have hlt' : (k : Int) < (X1.length : Int) := by omega
      obtain ⟨g1, g2, kd, n, q, s, rfl, rfl, hc⟩ := HG.out k hlt
      obtain ⟨x0, y0, x2, y2, x3, y3, x4, y4⟩ := hc m
      obtain ⟨Wm, hWm⟩ : ∃ Wm, Wm = W.drewN m := ⟨_, rfl⟩
      have HWM : Hid (Wm = W.drewN m) := hWm
      rw [← hWm] at x0 y0 x2 y2 x3 y3 x4 y4 ⊢
      clear hWm hc HG
      go_wp2_with fail
      go_quiet (fail)
      go_wp2_with fail
      refine ⟨⟨k + 1, m + nq, rfl, by simp, by omega, ?_⟩, by simp [intOf]; omega⟩
      rw [HWM.out, World.drewN_drewN]
    · have hlt' : ¬ (k : Int) < (X1.length : Int) := by omega
      go_wp2_with fail
      go_ret
      exact ⟨rfl, m, rfl⟩
end Go.Proofs.YtnlbjgioleoihaaGreatDoor

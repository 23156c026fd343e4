/- The chapter's examples. -/
import Derived.Test.YtddekcohfbnmbaaDoorRd9
import Derived.Test.YtddekcohfbnmbaaDoorSee
namespace Go.Proofs.YtddekcohfbnmbaaDoor
open Go.RowKit
attribute [local go_sem] Oper.semAt_some

theorem flat_get5 (K : List Tb) (i : Nat) (q : Tb) (hq : K[i]? = some q) (j : Nat) (u : Value) (hu : (tbC q)[j]? = some u) : (tbCs K)[i * 5 + j]? = some u := by
  have := flat_at 5 (K.map tbC) (fun cs hcs => by obtain ⟨x, _, rfl⟩ := List.mem_map.1 hcs; rfl) i (tbC q) (by rw [List.getElem?_map, hq]; rfl) j u hu
  rw [show tbCs K = (K.map tbC).flatMap id by simp [tbCs, List.flatMap_map]]
  exact this
theorem TbOwn.get {W : World} {B : Nat} {v : Value} {K : List Tb} (h : TbOwn W B v K) (hne : K ≠ []) : ∃ g cap, v = .slice (some ⟨g, 0, none⟩) K.length cap ∧ ∀ i q, K[i]? = some q → ∀ j u, (tbC q)[j]? = some u → W.cell? ⟨g, i * 5 + j, none⟩ = some u := by
  rcases h.2 with ⟨_, h0⟩ | ⟨g, cap, cur, hv, hb, hc, h1, _, h2, h3⟩
  · exact absurd (List.eq_nil_of_length_eq_zero h0) hne
  · refine ⟨g, cap, hv, fun i q hi j u hu => ?_⟩
    have hf := flat_get5 K i q hi j u hu
    have hlt := (List.getElem?_eq_some_iff.1 hf).1
    rw [tbCs_length] at hlt
    have e1 : W.cell? ⟨g, i * 5 + j, none⟩ = cur[i * 5 + j]? := by simp [World.cell?, hc]
    rw [e1, ← Array.getElem?_toList, ← List.getElem?_take_of_lt hlt, h3]
    exact hf
def srcA : List UInt8 := [120, 61, 40, 97, 32, 39, 98, 39, 39, 99, 39, 41]
def srcB : List UInt8 := [36, 35, 120, 94, 36, 34, 121]
def srcC : List UInt8 := [36]
def tokA : List Tb := [⟨18, 0, 0, [120], false⟩, ⟨16, 1, 0, [], true⟩, ⟨6, 2, 0, [], true⟩, ⟨18, 3, 0, [97], true⟩, ⟨19, 5, 0, [98, 39, 99], false⟩, ⟨7, 11, 0, [], true⟩, ⟨0, 12, 0, [], true⟩]
def tokB : List Tb := [⟨21, 0, 0, [120], false⟩, ⟨15, 3, 0, [], true⟩, ⟨22, 4, 0, [121], true⟩, ⟨0, 7, 0, [], true⟩]
theorem lexA : lexL srcA = .ok tokA := by kernel_rfl
theorem lexB : lexL srcB = .ok tokB := by kernel_rfl
theorem lexC : lexL srcC = .error ⟨0, 0⟩ := by kernel_rfl
set_option maxRecDepth 100000 in
set_option maxHeartbeats 4000000 in
theorem first_any (W : World) (ea : Nat → Addr) (hE : Env W ea) (hW : (ea 64).block ≤ W.heap.size) :
    Calls Tryd.prog 7 #[] W fun e w' => e = .returned (.bool true) ∧ Below W.heap.size W w' := by
  have HL : Hid (∀ (l : List UInt8) (w : World), l.length ≤ 8192 → Below W.heap.size W w → Calls Tryd.prog 8 #[.string ⟨l.toArray⟩] w fun e w' => ∃ v ev, e = .returned (.tuple #[v, ev]) ∧ LexV w ea (lexL l) v ev w' ∧ Below w.heap.size w w') := fun l w hl hb => lex_any ⟨l.toArray⟩ w ea (hE.below hb) (Nat.le_trans hW hb.size) hl
  have HE : Hid (∀ w, Below W.heap.size W w → Env w ea) := fun w hb => hE.below hb
  clear hE
  have LA := HL.out srcA W (by decide) (Below.refl _ _)
  rw [lexA] at LA
  have HLA : Hid _ := LA
  clear LA
  go_enter Tryd.func7, Tryd.ntmps7
  go_wp2_with fail
  refine Calls.mono HLA.out ?_
  rintro e w1 ⟨v1, ev1, rfl, ⟨rfl, hO1⟩, hb1⟩
  obtain ⟨ad1, cap1, rfl⟩ := hO1.form
  have HO1 : Hid (TbOwn w1 W.heap.size (.slice ad1 7 cap1) tokA) := hO1
  have HB1 : Hid (Below W.heap.size W w1) := hb1
  clear hO1 hb1 HLA
  have LB := HL.out srcB w1 (by decide) HB1.out
  rw [lexB] at LB
  have HLB : Hid _ := LB
  clear LB
  rw [show tokA.length = 7 from rfl]
  go_wp2_with fail
  refine Calls.mono HLB.out ?_
  rintro e w2 ⟨v2, ev2, rfl, ⟨rfl, hO2⟩, hb2⟩
  obtain ⟨ad2, cap2, rfl⟩ := hO2.form
  have HO2 : Hid (TbOwn w2 w1.heap.size (.slice ad2 4 cap2) tokB) := hO2
  have HO12 : Hid (TbOwn w2 W.heap.size (.slice ad1 7 cap1) tokA) := HO1.out.below hb2
  have HB2 : Hid (Below W.heap.size W w2) := HB1.out.trans (Below.mono hb2 HB1.out.size)
  clear hO2 hb2 HLB HO1
  have LC := HL.out srcC w2 (by decide) HB2.out
  rw [lexC] at LC
  have HLC : Hid _ := LC
  clear LC
  rw [show tokB.length = 4 from rfl]
  go_wp2_with fail
  refine Calls.mono HLC.out ?_
  rintro e w3 ⟨v3, ev3, rfl, ⟨rfl, q3, rfl, hx3⟩, hb3⟩
  have HX3 : Hid (Cel w3 q3 83 #[.int .i64 0, errV (ea (gOf 0))]) := hx3
  obtain ⟨g1, c1, hv1, hg1⟩ := (HO12.out.below hb3).get (by simp [tokA])
  obtain ⟨g2, c2, hv2, hg2⟩ := (HO2.out.below hb3).get (by simp [tokB])
  obtain ⟨rfl, -, rfl⟩ := Value.slice.inj hv1
  obtain ⟨rfl, -, rfl⟩ := Value.slice.inj hv2
  have HB3 : Hid (Below W.heap.size W w3) := HB2.out.trans (Below.mono hb3 HB2.out.size)
  have a1 : w3.cell? ⟨g1, 20, none⟩ = some (.int .i64 19) := hg1 4 _ rfl 0 _ rfl
  have a2 : w3.cell? ⟨g1, 23, none⟩ = some (.string ⟨#[98, 39, 99]⟩) := hg1 4 _ rfl 3 _ rfl
  have a3 : w3.cell? ⟨g1, 9, none⟩ = some (.bool true) := hg1 1 _ rfl 4 _ rfl
  have a4 : w3.cell? ⟨g1, 24, none⟩ = some (.bool false) := hg1 4 _ rfl 4 _ rfl
  have b1 : w3.cell? ⟨g2, 0, none⟩ = some (.int .i64 21) := hg2 0 _ rfl 0 _ rfl
  have b2 : w3.cell? ⟨g2, 10, none⟩ = some (.int .i64 22) := hg2 2 _ rfl 0 _ rfl
  have b3 : w3.cell? ⟨g2, 13, none⟩ = some (.string ⟨#[121]⟩) := hg2 2 _ rfl 3 _ rfl
  clear hx3 hb3 HLC HO12 HO2 HB2 hv1 hv2 hg1 hg2
  go_wp2_with fail
  refine (placed_any 106 0 (by decide) _).mono ?_
  rintro e w5 ⟨f5, rfl, hf5, _, hb5⟩
  have HB5 : Hid (Below W.heap.size W w5) := HB3.out.trans (Below.mono hb5 HB3.out.size)
  have HSA : Hid _ := same_any w5 ea (HE.out _ HB5.out) 5 (by omega) (ea (gOf 0)) rfl q3 0 (HX3.out.below hb5 HX3.out.lt) f5 hf5 106 rfl
  clear hf5 hb5 HX3 HB3 a1 a2 a3 a4 b1 b2 b3
  go_wp2_with fail
  refine Calls.mono HSA.out ?_
  rintro e w6 ⟨rfl, hb6⟩
  have HB6 : Hid (Below W.heap.size W w6) := HB5.out.trans (Below.mono hb6 HB5.out.size)
  clear hb6 HSA HB5
  go_wp2_with fail
  go_ret
  exact ⟨rfl, HB6.out⟩
end Go.Proofs.YtddekcohfbnmbaaDoor

/- Are nodes few, of few bytes; are two lists of nodes the same. -/
import Derived.Test.YtaildeglikhkaaaGreatDoorMem
import Derived.ProofKit
import Derived.SliceStrings
import Derived.ChangeSlices
import Derived.ChangeSame
import Derived.SizedLaws
import Derived.OpenShut
import Derived.BigQuiet
/-! A list of nodes that came in, as the walks want it. -/
namespace Go.Proofs.YtaildeglikhkaaaGreatDoor
open Go.ChangeShapes Go.WideShapes Go.ChangeAt Go.RowKit

theorem laidOut3 : laidOutB Tryz.prog = true := by kernel_rfl
theorem cells3 : Tryz.prog.cellsOf 3 = 1 := by kernel_rfl
theorem cells9 : Tryz.prog.cellsOf 9 = 1 := by kernel_rfl
theorem cells28 : Tryz.prog.cellsOf 50 = 5 := by kernel_rfl
theorem bytes28 : Tryz.prog.bytesOf 50 = 48 := by kernel_rfl
theorem under28 : ∃ f0 f1 f2 f3 f4, Tryz.prog.underlying 50 = some (.struct #[f0, f1, f2, f3, f4]) ∧ (f0.type = 3 ∧ f0.offset = 0) ∧ (f1.type = 3 ∧ f1.offset = 1) ∧ (f2.type = 3 ∧ f2.offset = 2) ∧ (f3.type = 3 ∧ f3.offset = 3) ∧ (f4.type = 9 ∧ f4.offset = 4) := ⟨_, _, _, _, _, Tryz.underlying50, ⟨rfl, rfl⟩, ⟨rfl, rfl⟩, ⟨rfl, rfl⟩, ⟨rfl, rfl⟩, ⟨rfl, rfl⟩⟩
theorem five_of {cs : List Value} (h : cs.length = 5) : ∃ c0 c1 c2 c3 c4, cs = [c0, c1, c2, c3, c4] := by
  match cs, h with
  | [c0, c1, c2, c3, c4], _ => exact ⟨c0, c1, c2, c3, c4, rfl⟩
/-- Numbers of a node are within the machine's. -/
def I64 (n : Int) : Prop := -9223372036854775808 ≤ n ∧ n ≤ 9223372036854775807
structure NdIn (x : Nd) : Prop where
  kind : I64 x.kind
  n : I64 x.n
  k : I64 x.k
  size : I64 x.size
  s : x.s.length ≤ 140737488351232
theorem i64_wf {n : Int} (h : (Lit.int .i64 n).wf = true) : I64 n := by
  have h1 : (decide (IntKind.i64.min ≤ n) && decide (n ≤ IntKind.i64.max)) = true := h
  rw [show IntKind.i64.min = -9223372036854775808 by decide, show IntKind.i64.max = 9223372036854775807 by decide, Bool.and_eq_true] at h1
  exact ⟨of_decide_eq_true h1.1, of_decide_eq_true h1.2⟩
theorem weights_all {H : Type} (t : TypeId) (n : Nat) : ∀ (l : List (DataW H)) (d : DataW H), d ∈ l → n ∈ d.weights Tryz.prog t → n ∈ DataW.weightsAll Tryz.prog t l
  | [], _, h, _ => by simp at h
  | e :: l, d, h, hn => by
    unfold DataW.weightsAll
    rw [List.mem_append]
    rcases List.mem_cons.1 h with rfl | h
    · exact .inl hn
    · exact .inr (weights_all t n l d h hn)
/-- One node. -/
theorem nd_one {H : Type} {enc : TypeId × Value → H} {W : World} {n : Nat} {a : Addr} {y : DataW H × List MemPlace} (h : (W.cells? 0 a 5).bind (DataW.trod enc Tryz.prog W 0 (fun _ => true) true n 50) = some y) :
    ∃ p : Nd, (∀ i u, (ndC p)[i]? = some u → W.cell? (a.add i) = some u) ∧ p.s.length ∈ y.1.weights Tryz.prog 50 ∧ (p.s.length ≤ 140737488351232 → NdIn p) := by
  rw [Option.bind_eq_some_iff] at h
  obtain ⟨cs, hcs, hy⟩ := h
  obtain ⟨_, hlen, hc⟩ := World.cells?_some hcs
  obtain ⟨f0, f1, f2, f3, f4, hu, ⟨t0, o0⟩, ⟨t1, o1⟩, ⟨t2, o2⟩, ⟨t3, o3⟩, ⟨t4, o4⟩⟩ := under28
  obtain ⟨xs, m, _, hyx, hl, hxl, hf⟩ := DataW.trod_struct hu hy
  obtain ⟨c0, c1, c2, c3, c4, rfl⟩ := five_of hlen
  have g0 := hf 0 f0 rfl
  have g1 := hf 1 f1 rfl
  have g2 := hf 2 f2 rfl
  have g3 := hf 3 f3 rfl
  have g4 := hf 4 f4 rfl
  rw [t0, o0, cells3] at g0
  rw [t1, o1, cells3] at g1
  rw [t2, o2, cells3] at g2
  rw [t3, o3, cells3] at g3
  rw [t4, o4, cells9] at g4
  have hx : ∀ i, i < 5 → ∃ z, xs[i]? = some z := fun i hi => ⟨_, List.getElem?_eq_getElem (by rw [hxl]; exact hi)⟩
  obtain ⟨z0, e0⟩ := hx 0 (by omega)
  obtain ⟨z1, e1⟩ := hx 1 (by omega)
  obtain ⟨z2, e2⟩ := hx 2 (by omega)
  obtain ⟨z3, e3⟩ := hx 3 (by omega)
  obtain ⟨z4, e4⟩ := hx 4 (by omega)
  rw [e0] at g0
  rw [e1] at g1
  rw [e2] at g2
  rw [e3] at g3
  rw [e4] at g4
  obtain ⟨k, hk, _, wk⟩ := DataW.trod_int Tryz.underlying3 g0
  obtain ⟨q, hq, _, wq⟩ := DataW.trod_int Tryz.underlying3 g1
  obtain ⟨r, hr, _, wr⟩ := DataW.trod_int Tryz.underlying3 g2
  obtain ⟨z, hz, _, wz⟩ := DataW.trod_int Tryz.underlying3 g3
  obtain ⟨s, hs, hz4, ws⟩ := DataW.trod_string Tryz.underlying9 g4
  simp at hk hq hs hr hz
  subst hk hq hs hr hz
  refine ⟨⟨k, q, r, z, s.data.toList⟩, fun i u hiu => ?_, ?_, fun hsl => ⟨i64_wf wk, i64_wf wq, i64_wf wr, i64_wf wz, hsl⟩⟩
  rotate_left
  · rw [hyx]
    unfold DataW.weights
    rw [hu]
    refine DataW.weights_mem_each (j := 4) (t := 9) (d := .lit (.string s.data.toList)) ?_ ?_ _ ?_
    · simp [t4]
    · rw [List.getElem?_map, e4, hz4]
      rfl
    · simp [DataW.weights]
  have hi : i < 5 := by
    have := (List.getElem?_eq_some_iff.1 hiu).1
    simpa using this
  rw [hc i hi]
  exact hiu
/-- A list of nodes. -/
theorem open_nd {H : Type} {enc : TypeId × Value → H} {W : World} {a0 : Option Addr} {len cap fuel : Nat} {d : DataW H} {p : List MemPlace}
    (hf : DataW.trod enc Tryz.prog W 0 (fun _ => true) true fuel 22 [.slice a0 len cap] = some (d, p)) (hw : ∀ n ∈ d.weights Tryz.prog 22, n ≤ reachBytes) :
    ∃ X : List Nd, NdAt W (.slice a0 len cap) X ∧ (∀ x ∈ X, NdIn x) ∧ X.length ≤ 140737488351232 := by
  have hreach : reachBytes = 140737488351232 := by decide
  rcases DataW.trod_slice Tryz.underlying22 hf with ⟨hcs, _⟩ | ⟨a, len', cap', elems, rest, n, _, hcs, hd, hb, hl, hm, hlen, hel, _, _⟩
  · simp at hcs
    obtain ⟨rfl, rfl, rfl⟩ := hcs
    exact ⟨[], NdAt.nil _, fun p hp => by simp at hp, by simp⟩
  · simp at hcs
    obtain ⟨rfl, rfl, rfl⟩ := hcs
    rw [cells28] at hel
    simp only [Prod.mk.injEq] at hd
    obtain ⟨rfl, _⟩ := hd
    have hwt : ∀ n, n ∈ ((elems.map (·.1)).length + (rest.map (·.1)).length) * Tryz.prog.bytesOf 50 :: (DataW.weightsAll Tryz.prog 50 (elems.map (·.1)) ++ DataW.weightsAll Tryz.prog 50 (rest.map (·.1))) → n ≤ reachBytes := by
      intro n hn
      refine hw n ?_
      unfold DataW.weights
      rw [Tryz.underlying22]
      exact hn
    have hln := hwt _ (List.mem_cons_self ..)
    rw [bytes28, List.length_map] at hln
    have each : ∀ i, i < len → ∃ q : Nd, (∀ j u, (ndC q)[j]? = some u → W.cell? ((a.add (i * 5)).add j) = some u) ∧ NdIn q := by
      intro i hi
      have h := hel i hi
      rw [List.getElem?_eq_getElem (show i < elems.length by omega)] at h
      obtain ⟨q, h1, h2, h3⟩ := nd_one h
      have h4 := hwt _ (List.mem_cons_of_mem _ (List.mem_append_left _ (weights_all 50 q.s.length (elems.map (·.1)) _ (List.mem_map.2 ⟨_, List.getElem_mem (show i < elems.length by omega), rfl⟩) h2)))
      exact ⟨q, h1, h3 (by omega)⟩
    by_cases h0 : len = 0
    · subst h0
      exact ⟨[], .inl ⟨rfl, .inr ⟨_, cap, rfl⟩⟩, fun p hp => by simp at hp, by simp⟩
    · obtain ⟨b, off, spot⟩ := a
      have hspot : spot = none := by
        obtain ⟨q, h1, _⟩ := each 0 (by omega)
        simpa [Addr.add] using World.cell?_spot (h1 0 _ rfl)
      subst hspot
      obtain ⟨f, hfn⟩ : ∃ f : Nat → Nd, ∀ i, i < len → (∀ j u, (ndC (f i))[j]? = some u → W.cell? (((⟨b, off, none⟩ : Addr).add (i * 5)).add j) = some u) ∧ NdIn (f i) :=
        ⟨fun i => if h : i < len then (each i h).choose else ⟨0, 0, 0, 0, []⟩, fun i hi => by
          have h := (each i hi).choose_spec
          simpa only [dif_pos hi] using h⟩
      refine ⟨(List.range len).map f, .inr ⟨b, off, cap, by simp, by simpa using hl, ?_, fun j cs hj i u hu => ?_⟩, fun p hp => ?_, by simp; omega⟩
      · exact World.block_lt_of_cell? W (((⟨b, off, none⟩ : Addr).add (0 * 5)).add 0) ((hfn 0 (by omega)).1 0 _ rfl)
      · have hjl : j < len := by
          have := (List.getElem?_eq_some_iff.1 hj).1
          simpa using this
        rw [List.getElem?_map, List.getElem?_map, List.getElem?_range hjl] at hj
        simp only [Option.map_some, Option.some.injEq] at hj
        subst hj
        have h := (hfn j hjl).1 i u hu
        simp only [Addr.add_lit] at h
        exact h
      · obtain ⟨i, hi, rfl⟩ := List.mem_map.1 hp
        exact (hfn i (List.mem_range.1 hi)).2
end Go.Proofs.YtaildeglikhkaaaGreatDoor
namespace Go.Proofs.YtaildeglikhkaaaGreatDoor
open Go.RowKit
attribute [local go_sem] Oper.semAt_some

def sumS : List Nd → Nat
  | [] => 0
  | x :: l => x.s.length + sumS l
theorem sumS_snoc (l : List Nd) (x : Nd) : sumS (l ++ [x]) = sumS l + x.s.length := by
  induction l with
  | nil => simp [sumS]
  | cons y l ih => simp only [List.cons_append, sumS, ih]; omega
theorem sumS_le (b : Nat) : ∀ (l : List Nd), (∀ x ∈ l, x.s.length ≤ b) → sumS l ≤ l.length * b
  | [], _ => by simp [sumS]
  | x :: l, h => by
    have h1 := h x (by simp)
    have h2 := sumS_le b l (fun y hy => h y (by simp [hy]))
    rw [sumS, List.length_cons, Nat.succ_mul]
    omega
def lightL (X : List Nd) : Bool := decide (X.length ≤ 200) && decide (sumS (X.take 201) ≤ 9000)
set_option maxRecDepth 100000 in
set_option maxHeartbeats 1000000 in
theorem light_any (v : Value) (X : List Nd) (W : World) (h : NdAt W v X) (hin : ∀ x ∈ X, x.s.length ≤ 140737488351232) (hl : X.length ≤ 140737488351232) :
    Calls Tryz.prog 7 #[v] W fun e w' => e = .returned (.bool (lightL X)) ∧ w' = W := by
  have HL : Hid (∀ k, sumS (X.take k) ≤ (X.take k).length * 140737488351232) := fun k => sumS_le _ _ (fun x hx => hin x (List.mem_of_mem_take hx))
  have HH : Hid (NdAt W v X) := h
  obtain ⟨ad, cap, rfl⟩ := h.form
  clear h hin
  go_enter Tryz.func7, Tryz.ntmps7
  go_wp2_with fail
  go_loopw [3, 4] (fun v3 v4 wr => ∃ i : Nat, v4 = .int .i64 i ∧ i ≤ X.length ∧ i ≤ 201 ∧ v3 = .int .i64 (sumS (X.take i) : Nat) ∧ W = wr) (fun _ v4 _ => X.length - (intOf v4).toNat)
  case atStart => exact ⟨0, rfl, by omega, by omega, by simp [sumS], rfl⟩
  case round =>
    obtain ⟨i, rfl, hi, hi2, rfl, hwr⟩ := hrel
    subst hwr
    have hb : Hid (sumS (X.take i) ≤ 56576470318841856) := by
      have h1 := HL.out i
      have h2 : (X.take i).length ≤ 201 := by rw [List.length_take]; omega
      have h3 := Nat.mul_le_mul h2 (Nat.le_refl 140737488351232)
      unfold Hid
      omega
    obtain ⟨S, hS⟩ : ∃ S, sumS (X.take i) = S := ⟨_, rfl⟩
    have HS : Hid (sumS (X.take i) = S) := hS
    have hb2 : S ≤ 56576470318841856 := by rw [← hS]; exact hb.out
    rw [hS]
    clear hS hb
    by_cases hlt : i < X.length
    · have hlt' : (i : Int) < (X.length : Int) := by omega
      by_cases h200 : i ≤ 200
      · have h200' : (i : Int) ≤ 200 := by omega
        obtain ⟨x, hx⟩ : ∃ x, X[i]? = some x := ⟨_, List.getElem?_eq_getElem hlt⟩
        obtain ⟨g, o, cap', hv, hg, c0, c1, c2, c3, c4⟩ := HH.out.at hx
        cases hv
        have HN : Hid (sumS (X.take (i + 1)) = S + x.s.length) := by
          unfold Hid
          rw [List.take_add_one, hx, ← HS.out]
          exact sumS_snoc _ _
        have hxl : x.s.length ≤ 56576470318841856 := by
          have h1 := HL.out (i + 1)
          rw [HN.out] at h1
          have h2 : (X.take (i + 1)).length ≤ 201 := by rw [List.length_take]; omega
          have h3 := Nat.mul_le_mul h2 (Nat.le_refl 140737488351232)
          omega
        clear hx c0 c1 c2 c3
        go_wp2_with fail
        refine ⟨⟨i + 1, by simp, by omega, by omega, ?_, trivial⟩, by simp [intOf]; omega⟩
        rw [HN.out]
        simp
      · have h200' : ¬ (i : Int) ≤ 200 := by omega
        have hlen : ¬ (X.length : Int) ≤ 200 := by omega
        have hlenN : ¬ X.length ≤ 200 := by omega
        have HF : Hid (lightL X = false) := by unfold Hid lightL; rw [decide_eq_false (by omega)]; rfl
        go_wp2_with fail
        go_ret
        exact ⟨by rw [HF.out]; rfl, rfl⟩
    · have hlt' : ¬ (i : Int) < (X.length : Int) := by omega
      have hiz : i = X.length := by omega
      by_cases hlen : (X.length : Int) ≤ 200
      · have HF : Hid (lightL X = decide ((S : Int) ≤ 9000)) := by
          unfold Hid lightL
          rw [decide_eq_true (by omega), Bool.true_and]
          have e : sumS (X.take 201) = S := by rw [← HS.out, hiz, List.take_of_length_le (by omega), List.take_length]
          rw [e]
          exact decide_eq_decide.2 (by omega)
        go_wp2_with fail
        go_ret
        exact ⟨by rw [HF.out]; rfl, rfl⟩
      · have HF : Hid (lightL X = false) := by unfold Hid lightL; rw [decide_eq_false (by omega)]; rfl
        go_wp2_with fail
        go_ret
        exact ⟨by rw [HF.out]; rfl, rfl⟩
theorem light_few (X : List Nd) (h : lightL X = true) : X.length ≤ 200 := by
  unfold lightL at h
  simp only [Bool.and_eq_true, decide_eq_true_eq] at h
  exact h.1
end Go.Proofs.YtaildeglikhkaaaGreatDoor

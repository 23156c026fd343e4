/- How deep a program goes. -/
import Derived.Test.YtgabodcbhjcmiaaDoorDepPlain
import Derived.Sort.CutIn
namespace Go.Proofs.YtgabodcbhjcmiaaDoor
open Go.RowKit
attribute [local go_sem] Oper.semAt_some

def depA (D : List Int) : Array Value := (D.map (Value.int .i64)).toArray
def DepAt (W : World) (b : Nat) (D : List Int) : Prop := Cel W b 3 (depA D)
theorem DepAt.at {W : World} {b : Nat} {D : List Int} (h : DepAt W b D) {j : Nat} {d : Int} (hj : D[j]? = some d) : W.cell? ⟨b, j, none⟩ = some (.int .i64 d) := by
  rw [Cel.cell h]
  simp [depA, hj]
theorem DepAt.set {W : World} {b : Nat} {D : List Int} (h : DepAt W b D) (j : Nat) (v : Int) : DepAt (W.setCell ⟨b, j, none⟩ (.int .i64 v)) b (D.set j v) := by
  have := Cel.set h (j := j) (.int .i64 v)
  unfold DepAt depA
  rw [List.map_set]
  simpa [depA] using this
theorem info3 : (Tryd.prog.info? 3).map (fun i => (i.zero, i.size, i.bytes)) = some (some (.int .i64 0), 1, 8) := by kernel_rfl
theorem made_int (n : Nat) : madeCells (Value.int .i64 0).cells (n * 1) = depA (List.replicate n 0) := by
  unfold madeCells depA
  apply Array.ext
  · simp
  · intro i h1 h2
    simp [Value.cells, Nat.mod_one]
theorem make_deps (n : Nat) (hn : n < 4294967296) (w : World) : (Instr.makeSlice 31 (.int .i64 (n : Int)) (.int .i64 (n : Int))).run Tryd.prog w = .ok (.slice (some ⟨w.heap.size, 0, none⟩) n n) (w.alloc (.cells (depA (List.replicate n 0)) 3)) := by
  obtain ⟨i0, hi0, hz0, hz1, hz2⟩ := info_parts info3
  have h := run_make (P := Tryd.prog) w 31 3 i0 _ Tryd.underlying31 hi0 hz0 .i64 .i64 (n : Int) (n : Int) (by omega) (Int.le_refl _) (by rw [hz2]; omega) (by omega)
  rw [hz1, show ((n : Int)).toNat = n by omega, made_int] at h
  exact h
theorem take_one {α : Type} {l : List α} {k : Nat} {x : α} (h : l[k]? = some x) : l.take (k + 1) = l.take k ++ [x] := by rw [List.take_add_one, h]; rfl
theorem dep_start (n : Nat) (h : 0 < n) : (List.replicate n (0 : Int)).set 0 1 = dep0 n := by
  obtain ⟨m, rfl⟩ : ∃ m, n = m + 1 := ⟨n - 1, by omega⟩
  simp [dep0, List.replicate_succ]

theorem Cel.own {W W' : World} {row : Option Nat} {b : Nat} {t : TypeId} {cs : Array Value} (h : Cel W b t cs) (hg : W.grownBy W' row) (hr : ∀ r, row = some r → ∃ o : Obj, W.heap[r]? = some o ∧ o.isCells = false) : Cel W' b t cs :=
  (grownBy_keeps_cells hg hr h rfl).trans h
/-- How things stand between two rounds. -/
structure DepS (w : World) (len : Nat) (Ds : List Nat) (D : List Int) (W : World) : Prop where
  dep : DepAt W w.heap.size D
  var : Cel W (w.heap.size + 1) 31 #[.slice (some ⟨w.heap.size, 0, none⟩) len len]
  bel : Below w.heap.size w W
  mks : Mk W w.heap.size Ds
theorem Mk.lt {W : World} {B : Nat} {Ds : List Nat} (h : Mk W B Ds) {D : Nat} (hD : D ∈ Ds) : D < W.heap.size := (Array.getElem?_eq_some_iff.1 (h.2 D hD).2).1
theorem DepS.grown {w : World} {len : Nat} {Ds : List Nat} {D : List Int} {W W' : World} {row : Option Nat} {B : Nat} (h : DepS w len Ds D W) (hg : W.grownBy W' row) (hr : ∀ r, row = some r → B ≤ r ∧ ∃ o : Obj, W.heap[r]? = some o ∧ o.isCells = false) (hlt : ∀ d ∈ Ds, d < B) (hB : w.heap.size ≤ B) : DepS w len Ds D W' := by
  have hr' : ∀ r, row = some r → ∃ o : Obj, W.heap[r]? = some o ∧ o.isCells = false := fun r e => (hr r e).2
  refine ⟨Cel.own h.dep hg hr', h.var.own hg hr', h.bel.grown hg h.bel.size (fun q e => by have := (hr q e).1; omega), h.mks.1, fun d hd => ⟨(h.mks.2 d hd).1, ?_⟩⟩
  refine (hg.block d (h.mks.lt hd) (fun e => ?_)).trans (h.mks.2 d hd).2
  have := (hr d e.symm).1
  have := hlt d hd
  omega
theorem DepS.alloc {w : World} {len : Nat} {Ds : List Nat} {D : List Int} {W : World} (h : DepS w len Ds D W) (o : Obj) : DepS w len Ds D (W.alloc o) :=
  h.grown (B := W.heap.size) (World.grownBy_alloc W o none) (fun r e => by cases e) (fun d hd => h.mks.lt hd) h.bel.size
theorem DepS.store {w : World} {len : Nat} {Ds : List Nat} {D : List Int} {W : World} (h : DepS w len Ds D W) (p : Nat) (v : Int) : DepS w len Ds (D.set p v) (W.setCell ⟨w.heap.size, p, none⟩ (.int .i64 v)) := by
  refine ⟨h.dep.set p v, h.var.other (by omega) _, h.bel.setCell (p := ⟨w.heap.size, p, none⟩) (Nat.le_refl _) _, h.mks.1, fun d hd => ⟨(h.mks.2 d hd).1, ?_⟩⟩
  refine (Below.heap_setCell _ _ _ _ (fun e => ?_)).trans (h.mks.2 d hd).2
  have e' : d = w.heap.size := e
  subst e'
  have h1 := (h.mks.2 _ hd).2
  rw [show W.heap[w.heap.size]? = _ from h.dep] at h1
  simp at h1
theorem DepS.mark {w : World} {len : Nat} {Ds : List Nat} {D : List Int} {W : World} (h : DepS w len Ds D W) (d : Nat) (hd : w.heap.size ≤ d) (hn : ∀ d' ∈ Ds, d' < d) (hh : W.heap[d]? = some (.deferred (some []))) : DepS w len (d :: Ds) D W :=
  ⟨h.dep, h.var, h.bel, List.nodup_cons.2 ⟨fun hm => by have := hn d hm; omega, h.mks.1⟩, fun d' hd' => by
    rcases List.mem_cons.1 hd' with rfl | hd'
    · exact ⟨hd, hh⟩
    · exact h.mks.2 d' hd'⟩
theorem DepS.drew {w : World} {len : Nat} {Ds : List Nat} {D : List Int} {W : World} (h : DepS w len Ds D W) (m : Nat) : DepS w len Ds D (W.drewN m) := ⟨h.dep, h.var, ⟨h.bel.os, h.bel.tape, h.bel.output, h.bel.size, h.bel.block⟩, h.mks⟩

set_option maxRecDepth 100000 in
set_option maxHeartbeats 2000000 in
theorem depth_in (n : Nat) (hn : 3 ≤ n) (g o cap : Nat) (X : List Nd) (w : World) (h0 : 0 < X.length) (hl : X.length < 4294967296) (hX : ∀ x ∈ X, -9223372036854775808 ≤ x.size ∧ x.k ≤ 9223372036854775807) (hN : NdAt w (.slice (some ⟨g, o, none⟩) X.length cap) X) :
    CallsIn Fence.wide n Tryd.prog 18 #[.slice (some ⟨g, o, none⟩) X.length cap] w fun e w' => e = .returned (.int .i64 (depthL X)) ∧ Below w.heap.size w w' := by
  have h1 : 1 ≤ n := by omega
  have hmk := make_deps X.length hl
  obtain ⟨len, hlen⟩ : ∃ len, X.length = len := ⟨_, rfl⟩
  rw [hlen] at h0 hl hN hmk ⊢
  have HN : Hid (∀ W', Below w.heap.size w W' → NdAt W' (.slice (some ⟨g, o, none⟩) len cap) X) := fun W' hb => hN.below hb (Nat.le_refl _)
  have hne : ¬ len = 0 := by omega
  refine callsIn_of_wp_marks Tryd.func18 rfl trivial ?_ rfl
  simp only [Tryd.ntmps18, List.size_toArray, List.length_cons, List.length_nil, Nat.reduceAdd, Nat.reduceSub, Array.replicate_succ, Array.replicate_zero, List.push_toArray, List.append_toArray, List.nil_append, List.cons_append]
  gi_upto_region 4 with fail
  obtain ⟨w1, hw1⟩ : ∃ w1, w1 = (w.alloc (.cells (depA (List.replicate len 0)) 3)).alloc (.cells #[.slice (some ⟨w.heap.size, 0, none⟩) len len] 31) := ⟨_, rfl⟩
  have hb1 : Below w.heap.size w w1 := by rw [hw1]; exact (below_new w _).alloc (below_new w _).size _
  have hD1 : DepAt w1 w.heap.size (List.replicate len 0) := by
    rw [hw1]
    exact (Cel.new w 3 _).turn (Turn.ofBelow (S := fun _ => False) (below_new _ _)) (fun h => h)
  have hC1 : Cel w1 (w.heap.size + 1) 31 #[.slice (some ⟨w.heap.size, 0, none⟩) len len] := by
    rw [hw1, show w.heap.size + 1 = (w.alloc (.cells (depA (List.replicate len 0)) 3)).heap.size by simp]
    exact Cel.new _ 31 _
  rw [← hw1]
  have c0 : w1.cell? ⟨w.heap.size, 0, none⟩ = some (.int .i64 0) := hD1.at (by simp [h0])
  have f0 : w1.frozen? ⟨w.heap.size, 0, none⟩ = false := Cel.frozen hD1 0
  have c1 : w1.cell? ⟨w.heap.size + 1, 0, none⟩ = some (.slice (some ⟨w.heap.size, 0, none⟩) len len) := hC1.cell 0
  have hD2 := hD1.set 0 1
  rw [dep_start len h0] at hD2
  have hC2 := hC1.other (b' := w.heap.size) (j := 0) (by omega) (.int .i64 1)
  have hb2 := hb1.setCell (p := ⟨w.heap.size, 0, none⟩) (Nat.le_refl _) (.int .i64 1)
  have HS : Hid (DepS w len [] (dep0 len) (w1.setCell ⟨w.heap.size, 0, none⟩ (.int .i64 1))) := ⟨hD2, hC2, hb2, Mk.nil _ _⟩
  clear hw1 hD1 hC1 hD2 hC2 hb1 hb2 hmk hN
  gi_wp2
  clear c0 f0 c1
  refine wpIn_loop (fun a' W => ∃ (i : Nat) (D : List Int) (Ds : List Nat) (u4 u5 u9 u17 u18 u19 u20 u21 u22 u23 u24 u25 u26 u33 : Value), u17 = .int .i64 i ∧ i ≤ len ∧ D.length = len ∧ Hid (DepOk D ∧ depG X (len - i) i D = depG X len 0 (dep0 len)) ∧ Hid (DepS w len Ds D W) ∧
    a' = { tmps := #[.slice (some ⟨g, o, none⟩) len cap, undef, .int .i64 0, .pointer (some ⟨w.heap.size + 1, 0, none⟩), u4, u5, undef, .slice (some ⟨g, o, none⟩) len cap, .int .i64 len, u9, .slice (some ⟨g, o, none⟩) len cap, .int .i64 len, .slice (some ⟨w.heap.size, 0, none⟩) len len, .slice (some ⟨w.heap.size, 0, none⟩) len len, .pointer (some ⟨w.heap.size, 0, none⟩), .slice (some ⟨w.heap.size, 0, none⟩) len len, .int .i64 len, u17, u18, u19, u20, u21, u22, u23, u24, u25, u26, undef, undef, undef, undef, undef, undef, u33, undef, undef], defers := marksOf Ds })
    (fun a' _ => len - (intOf (a'.tmps.getD 17 undef)).toNat) ?start ?round
  case start => exact ⟨0, dep0 len, [], _, _, _, _, _, _, _, _, _, _, _, _, _, _, rfl, by omega, dep0_len len h0, ⟨dep0_ok len, rfl⟩, HS.out, rfl⟩
  case round =>
    rintro a' W ⟨i, D, Ds, u4, u5, u9, u17, u18, u19, u20, u21, u22, u23, u24, u25, u26, u33, rfl, hi, hDl, HG, HD, rfl⟩
    clear HS
    have hv : W.cell? ⟨w.heap.size + 1, 0, none⟩ = some (.slice (some ⟨w.heap.size, 0, none⟩) len len) := HD.out.var.cell 0
    by_cases hlt : i < len
    · have hlt' : (i : Int) < (len : Int) := by omega
      obtain ⟨d, hd⟩ : ∃ d, D[i]? = some d := ⟨_, List.getElem?_eq_getElem (by omega)⟩
      have ci : W.cell? ⟨w.heap.size, i, none⟩ = some (.int .i64 d) := HD.out.dep.at hd
      have hdb := HG.out.1 i d hd
      obtain ⟨x, hx⟩ : ∃ x, X[i]? = some x := ⟨_, List.getElem?_eq_getElem (by omega)⟩
      have hx2 := hX x (List.mem_of_getElem? hx)
      have HX : Hid (X[i]? = some x) := hx
      have Hdi : Hid (D[i]? = some d) := hd
      clear hx hd
      by_cases hz : d = 0
      · subst hz
        gi_wp2
        have HG2 : Hid (DepOk D ∧ depG X (len - (i + 1)) (i + 1) D = depG X len 0 (dep0 len)) := by
          refine ⟨HG.out.1, ?_⟩
          rw [← HG.out.2, show len - i = (len - (i + 1)) + 1 by omega, depG, Hdi.out]
          simp
        exact ⟨⟨i + 1, D, Ds, _, _, _, _, _, _, _, _, _, _, _, _, _, _, by simp, by omega, hDl, HG2, HD.out.alloc _, rfl⟩, by simp [intOf]; omega⟩
      · gi_wp2
        refine ⟨trivial, ?_⟩
        refine (callsIn_wide.2 (kidPlaces_any _ _ _ _ _)).mono ?_
        rintro e w3 ⟨rfl, hw3⟩
        have HD3 : Hid (DepS w len Ds D w3) := by unfold Hid; rw [hw3]; exact ((HD.out.alloc _).alloc _).alloc _
        have hsz : (W.alloc (.cells #[.int .i64 d] 3)).heap.size = W.heap.size + 1 := by simp
        rw [hsz]
        have C5 : Cel w3 W.heap.size 3 #[.int .i64 d] := by
          rw [hw3]
          exact ((Cel.new W 3 _).turn (Turn.ofBelow (S := fun _ => False) (below_new _ _)) (fun h => h)).turn (Turn.ofBelow (S := fun _ => False) (below_new _ _)) (fun h => h)
        have Cl : Cel w3 (W.heap.size + 1) 25 #[.slice (some ⟨g, o, none⟩) len cap] := by
          rw [hw3, show W.heap.size + 1 = (W.alloc (.cells #[.int .i64 d] 3)).heap.size by simp]
          exact (Cel.new _ 25 _).turn (Turn.ofBelow (S := fun _ => False) (below_new _ _)) (fun h => h)
        have Ci : Cel w3 (W.heap.size + 1 + 1) 3 #[.int .i64 i] := by
          rw [hw3, show W.heap.size + 1 + 1 = ((W.alloc (.cells #[.int .i64 d] 3)).alloc (.cells #[.slice (some ⟨g, o, none⟩) len cap] 25)).heap.size by simp]
          exact Cel.new _ 3 _
        have hlt3 : ∀ e ∈ Ds, e < w3.heap.size := fun e he => HD3.out.mks.lt he
        have HC : Hid (Cel w3 W.heap.size 3 #[.int .i64 d] ∧ Cel w3 (W.heap.size + 1) 25 #[.slice (some ⟨g, o, none⟩) len cap] ∧ Cel w3 (W.heap.size + 1 + 1) 3 #[.int .i64 i]) := ⟨C5, Cl, Ci⟩
        have hws : w.heap.size ≤ w3.heap.size := HD3.out.bel.size
        have hvl := HD.out.var.lt
        clear hw3 C5 Cl Ci hsz HD ci hv
        gi_wp2
        refine wpIn_range_own rfl h1 (gf := 42) (lb := #[.pointer (some ⟨W.heap.size + 1 + 1, 0, none⟩), .pointer (some ⟨W.heap.size + 1, 0, none⟩)]) (by first | rfl | simp [Act.eval]) trivial (enters_of Tryd.func42 (by kernel_rfl) rfl)
          (encs := fun p : Nat => #[.int .i64 (p : Nat)]) (xs := kidPl X i) (fun A => A.cell? ⟨W.heap.size + 1 + 1, 0, none⟩ = some (.int .i64 i) ∧ A.cell? ⟨W.heap.size + 1, 0, none⟩ = some (.slice (some ⟨g, o, none⟩) X.length cap) ∧ NdAt A (.slice (some ⟨g, o, none⟩) X.length cap) X)
          (fun l J W' r1 r2 r3 r4 => places_in (n - 1) (by omega) l (W.heap.size + 1 + 1) (W.heap.size + 1) X i x g o cap HX.out (by omega) hx2.1 hx2.2 J r1 r2 r3 W' r4) (fun _ => rfl)
          (fun k A => DepS w len Ds (setAll (d + 1) ((kidPl X i).take k) D) A ∧ Cel A W.heap.size 3 #[.int .i64 d] ∧ Cel A (W.heap.size + 1) 25 #[.slice (some ⟨g, o, none⟩) len cap] ∧ Cel A (W.heap.size + 1 + 1) 3 #[.int .i64 i])
          ?own ?reads ?draws ⟨HD3.out, HC.out⟩
          (fun p a' _ => a' = { tmps := #[.slice (some ⟨g, o, none⟩) len cap, undef, .int .i64 0, .pointer (some ⟨w.heap.size + 1, 0, none⟩), .int .i64 i, .pointer (some ⟨W.heap.size, 0, none⟩), .int .i64 (p : Nat), .slice (some ⟨g, o, none⟩) len cap, .int .i64 len, u9, .slice (some ⟨g, o, none⟩) len cap, .int .i64 len, .slice (some ⟨w.heap.size, 0, none⟩) len len, .slice (some ⟨w.heap.size, 0, none⟩) len len, .pointer (some ⟨w.heap.size, 0, none⟩), .slice (some ⟨w.heap.size, 0, none⟩) len len, .int .i64 len, .int .i64 i, .bool true, .int .i64 i, .pointer (some ⟨w.heap.size, i, none⟩), .int .i64 d, .int .i64 d, .bool false, .slice (some ⟨g, o, none⟩) len cap, .int .i64 i, .func (.func 42) #[] #[.pointer (some ⟨W.heap.size + 1 + 1, 0, none⟩), .pointer (some ⟨W.heap.size + 1, 0, none⟩)], .int .i64 (p : Nat), undef, undef, undef, undef, undef, u33, undef, undef], defers := [] })
          ?axown ?assign ?body ?done
        case own =>
          rintro k A A' row ⟨a1, a2, a3, a4⟩ hg hr
          have hr' : ∀ r, row = some r → ∃ o : Obj, A.heap[r]? = some o ∧ o.isCells = false := fun r e => (hr r e).2
          exact ⟨a1.grown hg hr hlt3 hws, a2.own hg hr', a3.own hg hr', a4.own hg hr'⟩
        case reads =>
          rintro k A ⟨a1, a2, a3, a4⟩
          rw [hlen]
          exact ⟨a4.cell 0, a3.cell 0, HN.out A a1.bel⟩
        case draws =>
          rintro k A m ⟨a1, a2, a3, a4⟩
          exact ⟨a1.drew m, a2, a3, a4⟩
        case axown => exact fun p a' _ _ _ _ h _ _ => h
        case assign =>
          rintro l k p A K hp hI hK
          gi_wp2
          exact hK _ _ (KeepsFrom.refl _ _) hI rfl
        case body =>
          rintro l k p a' A hp ⟨a1, a2, a3, a4⟩ rfl
          have hpb := kidPl_bounds X i p (List.mem_of_getElem? hp)
          have hpl : p < len := by omega
          have hpl' : (p : Int) < (len : Int) := by omega
          have hDl2 : (setAll (d + 1) ((kidPl X i).take k) D).length = len := by rw [setAll_len]; exact hDl
          obtain ⟨q, hq⟩ : ∃ q, (setAll (d + 1) ((kidPl X i).take k) D)[p]? = some q := ⟨_, List.getElem?_eq_getElem (by omega)⟩
          have b1 : A.cell? ⟨w.heap.size, p, none⟩ = some (.int .i64 q) := a1.dep.at hq
          have b2 : A.frozen? ⟨w.heap.size, p, none⟩ = false := Cel.frozen a1.dep p
          have b3 : A.cell? ⟨w.heap.size + 1, 0, none⟩ = some (.slice (some ⟨w.heap.size, 0, none⟩) len len) := a1.var.cell 0
          have b4 : A.cell? ⟨W.heap.size, 0, none⟩ = some (.int .i64 d) := a2.cell 0
          have HST : Hid (DepS w len Ds (setAll (d + 1) ((kidPl X i).take (k + 1)) D) (A.setCell ⟨w.heap.size, p, none⟩ (.int .i64 (d + 1)))) := by
            unfold Hid
            rw [take_one hp, setAll_snoc]
            exact a1.store p (d + 1)
          have HCT : Hid (Cel (A.setCell ⟨w.heap.size, p, none⟩ (.int .i64 (d + 1))) W.heap.size 3 #[.int .i64 d] ∧ Cel (A.setCell ⟨w.heap.size, p, none⟩ (.int .i64 (d + 1))) (W.heap.size + 1) 25 #[.slice (some ⟨g, o, none⟩) len cap] ∧ Cel (A.setCell ⟨w.heap.size, p, none⟩ (.int .i64 (d + 1))) (W.heap.size + 1 + 1) 3 #[.int .i64 i]) := ⟨a2.other (by omega) _, a3.other (by omega) _, a4.other (by omega) _⟩
          clear a1 a2 a3 a4 hq hp
          gi_wp2
          exact ⟨(KeepsOthers.setCell _ _ _).from _, HST.out, HCT.out⟩
        case done =>
          rintro M A hM ⟨a1, a2, a3, a4⟩ hh
          rw [List.take_length] at a1
          have HM : Hid (DepS w len (M :: Ds) (setAll (d + 1) (kidPl X i) D) A) := a1.mark M (by omega) (fun e he => by have := hlt3 e he; omega) hh
          have HG2 : Hid (DepOk (setAll (d + 1) (kidPl X i) D) ∧ depG X (len - (i + 1)) (i + 1) (setAll (d + 1) (kidPl X i) D) = depG X len 0 (dep0 len)) := by
            refine ⟨DepOk.all (by omega) _ _ HG.out.1 (fun p hp => by have := kidPl_bounds X i p hp; omega), ?_⟩
            rw [← HG.out.2, show len - i = (len - (i + 1)) + 1 by omega, depG, Hdi.out]
            simp only
            rw [if_neg hz]
          have HL2 : Hid ((setAll (d + 1) (kidPl X i) D).length = len) := by unfold Hid; rw [setAll_len]; exact hDl
          change Exit.inBlock 2 _ Exit.normal (Act.mk _ (marksOf (M :: Ds))) A
          clear a1 a2 a3 a4 hh
          gi_wp2
          exact ⟨⟨i + 1, _, M :: Ds, _, _, _, _, _, _, _, _, _, _, _, _, _, _, by simp, by omega, HL2.out, HG2, HM.out, rfl⟩, by simp [intOf]; omega⟩
    · have hie : i = len := by omega
      subst hie
      gi_wp2
      obtain ⟨y, l, hyl⟩ : ∃ y l, D = y :: l := by
        cases D with
        | nil => simp at hDl; omega
        | cons y l => exact ⟨y, l, rfl⟩
      have HY : Hid (maxL y l = depthL X) := by
        have h2 := HG.out.2
        rw [Nat.sub_self, depG, hyl] at h2
        unfold Hid depthL
        rw [if_neg (by omega), hlen, ← h2]
        rfl
      have hll : l.length + 1 = i := by rw [← hDl, hyl]; simp
      have hmx := max_any w.heap.size y l i W (fun j z hz => HD.out.dep.at (by rw [hyl]; exact hz)) (by omega)
      rw [hll, HY.out] at hmx
      refine ⟨trivial, ?_⟩
      refine (callsIn_wide.2 hmx).mono ?_
      rintro e w4 ⟨rfl, rfl⟩
      clear hv hmx
      gi_wp2
      exact leaves_marks Ds _ HD.out.mks (fun W' hb' _ => ⟨_, results_tmp rfl _ _ _, rfl, HD.out.bel.trans hb'⟩)
/-- How deep a program goes, as the plain lists say. -/
theorem depth_any (v : Value) (X : List Nd) (w : World) (hN : NdAt w v X) (hl : X.length < 4294967296) (hX : ∀ x ∈ X, -9223372036854775808 ≤ x.size ∧ x.k ≤ 9223372036854775807) :
    Calls Tryd.prog 18 #[v] w fun e w' => e = .returned (.int .i64 (depthL X)) ∧ Below w.heap.size w w' := by
  by_cases h0 : X.length = 0
  · have HZ : Hid (depthL X = 0) := by unfold Hid depthL; rw [if_pos h0]
    obtain ⟨ad, cap, rfl⟩ := hN.form
    rw [h0]
    go_enter Tryd.func18, Tryd.ntmps18
    go_wp2_with fail
    go_ret
    exact ⟨by rw [HZ.out]; rfl, Below.refl _ _⟩
  · obtain ⟨x, hx⟩ : ∃ x, X[0]? = some x := ⟨_, List.getElem?_eq_getElem (by omega)⟩
    obtain ⟨g, o, cap, rfl, _⟩ := hN.at hx
    exact callsIn_wide.1 (depth_in 3 (Nat.le_refl _) g o cap X w (by omega) hl hX hN)
end Go.Proofs.YtgabodcbhjcmiaaDoor

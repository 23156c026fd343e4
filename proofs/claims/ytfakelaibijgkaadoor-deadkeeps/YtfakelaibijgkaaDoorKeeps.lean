/- DeadKeeps: what is ever reached is kept. -/
import Derived.Test.YtfakelaibijgkaaDoorDe11
import Derived.Test.YtfakelaibijgkaaDoorKeepP
import Derived.Test.YtfakelaibijgkaaDoorKeepS
import Derived.Test.YtfakelaibijgkaaDoorOpenL
import Derived.Test.YtfakelaibijgkaaDoorOwn5
namespace Go.Proofs.YtfakelaibijgkaaDoor
open Go.RowKit
attribute [local go_sem] Oper.semAt_some

theorem Tx.get {W : World} {v : Value} {ps : List Txt} (h : Tx W v ps) {k : Nat} {p : Txt} (hk : ps[k]? = some p) : ∃ g o cap, v = .slice (some ⟨g, o, none⟩) ps.length cap ∧ g < W.heap.size ∧ W.cell? ⟨g, o + k, none⟩ = some (.string ⟨p.toArray⟩) := by
  rcases h with ⟨_, rfl⟩ | ⟨ad, cap, rfl, _, h3⟩
  · simp at hk
  · obtain ⟨g, o, rfl, hg, hc⟩ := h3 (by rintro rfl; simp at hk)
    exact ⟨g, o, cap, rfl, hg, hc k p hk⟩
theorem Tx.form {W : World} {v : Value} {ps : List Txt} (h : Tx W v ps) : ∃ ad cap, v = .slice ad ps.length cap := by
  rcases h with ⟨rfl, rfl⟩ | ⟨ad, cap, rfl, _⟩
  · exact ⟨_, _, rfl⟩
  · exact ⟨_, _, rfl⟩
theorem In.get {W : World} {v : Value} {ps : List Int} (h : In W v ps) {k : Nat} {p : Int} (hk : ps[k]? = some p) : ∃ g o cap, v = .slice (some ⟨g, o, none⟩) ps.length cap ∧ g < W.heap.size ∧ W.cell? ⟨g, o + k, none⟩ = some (.int .i64 p) := by
  rcases h with ⟨_, rfl⟩ | ⟨ad, cap, rfl, _, h3⟩
  · simp at hk
  · obtain ⟨g, o, rfl, hg, hc⟩ := h3 (by rintro rfl; simp at hk)
    exact ⟨g, o, cap, rfl, hg, hc k p hk⟩
theorem In.form {W : World} {v : Value} {ps : List Int} (h : In W v ps) : ∃ ad cap, v = .slice ad ps.length cap := by
  rcases h with ⟨rfl, rfl⟩ | ⟨ad, cap, rfl, _⟩
  · exact ⟨_, _, rfl⟩
  · exact ⟨_, _, rfl⟩
def sOf (ns : List Txt) (i : Nat) : Txt := match ns[i]? with
  | some t => if t.length ≤ 100 then t else [119]
  | none => [119]
theorem sOf_cases (ns : List Txt) (i : Nat) : ∃ sb : ByteArray, sb.data.toList = sOf ns i ∧ ((sb = ⟨#[119]⟩ ∧ ns.length ≤ i) ∨ ∃ t, ns[i]? = some t ∧ ((sb = ⟨#[119]⟩ ∧ ¬ t.length ≤ 100) ∨ (sb = ⟨t.toArray⟩ ∧ t.length ≤ 100))) := by
  unfold sOf
  cases h : ns[i]? with
  | none => exact ⟨_, rfl, Or.inl ⟨rfl, by simpa using h⟩⟩
  | some t =>
    by_cases ht : t.length ≤ 100
    · exact ⟨⟨t.toArray⟩, by simp [ht], Or.inr ⟨t, rfl, Or.inr ⟨rfl, ht⟩⟩⟩
    · exact ⟨⟨#[119]⟩, by simp [ht], Or.inr ⟨t, rfl, Or.inl ⟨rfl, ht⟩⟩⟩
theorem sOf_len (ns : List Txt) (i : Nat) : (sOf ns i).length ≤ 100 := by
  unfold sOf
  split
  · split
    · assumption
    · simp
  · simp
def rOf (z : Int) : Int := Int.tmod (Int.tmod z 5 + 5) 5
theorem rOf_five (z : Int) : rOf z = 0 ∨ rOf z = 1 ∨ rOf z = 2 ∨ rOf z = 3 ∨ rOf z = 4 := by
  unfold rOf
  have h1 := Int.tmod_lt_of_pos z (show (0 : Int) < 5 by decide)
  have h2 := Int.lt_tmod_of_pos z (show (0 : Int) < 5 by decide)
  have h3 : 0 ≤ Int.tmod z 5 + 5 := by omega
  have h4 := Int.tmod_lt_of_pos (Int.tmod z 5 + 5) (show (0 : Int) < 5 by decide)
  have h5 := Int.tmod_nonneg 5 h3
  omega
theorem wrap5 (z : Int) : wrap64 (Int.tmod z 5 + 5) = Int.tmod z 5 + 5 := by
  have h1 := Int.tmod_lt_of_pos z (show (0 : Int) < 5 by decide)
  have h2 := Int.lt_tmod_of_pos z (show (0 : Int) < 5 by decide)
  unfold wrap64
  omega
theorem own_kind {w : World} {B g n cap : Nat} {X : List Nd} (h : NdOwn w B (.slice (some ⟨g, 0, none⟩) n cap) X) (h0 : 0 < X.length) : w.cell? ⟨g, 0, none⟩ = some (.int .i64 (kindOf X)) := by
  obtain ⟨g', o', c', hv, _, c0, _⟩ := h.at.at (List.getElem?_eq_getElem h0)
  injection hv with e1 _ _
  cases e1
  have : kindOf X = (X[0]).kind := by
    cases X with
    | nil => simp at h0
    | cons a r => rfl
  rw [this]
  simpa using c0
def cmds (zs : List Int) (ns : List Txt) : List (List Nd) := (List.range zs.length).map fun i => keepC (rOf (zs[i]?.getD 0)) (sOf ns i)
set_option linter.unusedSimpArgs false in
set_option maxRecDepth 100000 in
set_option maxHeartbeats 8000000 in
theorem keeps_law (v1 v2 : Value) (zs : List Int) (ns : List Txt) (W : World) (ea : Nat → Addr) (hE : Ers W ea) (h1 : In W v1 zs) (h2 : Tx W v2 ns) (hl1 : zs.length < 140737488355328) (hl2 : ns.length < 140737488355328) :
    Calls Tryd.prog 5 #[v1, v2] W fun e w' => e = .returned (.bool true) ∧ Below W.heap.size W w' := by
  obtain ⟨i0, hi0, hz0, hz1, hz2⟩ := info_parts info25
  have HE : Hid (∀ w, Below W.heap.size W w → Ers w ea) := fun w hb => hE.below hb
  have H1 : Hid (∀ w, Below W.heap.size W w → In w v1 zs) := fun w hb => h1.below hb (Nat.le_refl _)
  have H2 : Hid (∀ w, Below W.heap.size W w → Tx w v2 ns) := fun w hb => h2.below hb (Nat.le_refl _)
  have HF : Hid _ := first_any W ea hE
  obtain ⟨a1, c1, rfl⟩ := h1.form
  obtain ⟨a2, c2, rfl⟩ := h2.form
  clear hE h1 h2
  by_cases hz30 : 30 < zs.length
  · have hz' : (30 : Int) < (zs.length : Int) := by omega
    go_enter Tryd.func5, Tryd.ntmps5
    go_wp2_with fail
    refine Calls.mono HF.out ?_
    rintro e w1 ⟨rfl, hb1⟩
    have HB1 : Hid (Below W.heap.size W w1) := hb1
    clear hb1 HF
    go_wp2_with fail
    go_ret
    exact ⟨rfl, HB1.out⟩
  by_cases hn30 : 30 < ns.length
  · have hz' : ¬ (30 : Int) < (zs.length : Int) := by omega
    have hn' : (30 : Int) < (ns.length : Int) := by omega
    go_enter Tryd.func5, Tryd.ntmps5
    go_wp2_with fail
    refine Calls.mono HF.out ?_
    rintro e w1 ⟨rfl, hb1⟩
    have HB1 : Hid (Below W.heap.size W w1) := hb1
    clear hb1 HF
    go_wp2_with fail
    go_ret
    exact ⟨rfl, HB1.out⟩
  have hz' : ¬ (30 : Int) < (zs.length : Int) := by omega
  have hn' : ¬ (30 : Int) < (ns.length : Int) := by omega
  obtain ⟨cs, hcs⟩ : ∃ cs, cs = cmds zs ns := ⟨_, rfl⟩
  have hcl : cs.length = zs.length := by rw [hcs]; simp [cmds]
  have HCL : Hid (cs.length = zs.length) := hcl
  have HCS : Hid (∀ i, i < zs.length → cs[i]? = some (keepC (rOf (zs[i]?.getD 0)) (sOf ns i))) := fun i hi => by
    rw [hcs, cmds, List.getElem?_map, List.getElem?_range hi]
    rfl
  have HPK : Hid _ := pass_keeps cs (by omega) (fun C hC => by
    rw [hcs] at hC
    obtain ⟨i, _, rfl⟩ := List.mem_map.1 hC
    exact ⟨_, _, rfl, by have := sOf_len ns i; omega⟩)
  have HL4 : Hid (∀ C ∈ cs, 1 ≤ C.length ∧ C.length ≤ 4) := fun C hC => by
    rw [hcs] at hC
    obtain ⟨i, _, rfl⟩ := List.mem_map.1 hC
    exact keep_len _ _
  clear hcs hcl
  go_enter Tryd.func5, Tryd.ntmps5
  go_wp2_with fail
  refine Calls.mono HF.out ?_
  rintro e w1 ⟨rfl, hb1⟩
  have HB1 : Hid (Below W.heap.size W w1) := hb1
  have HC2 : Hid _ := leaf_form 20 0 [] w1
  clear hb1 HF
  go_wp2_with fail
  refine Calls.mono HC2.out ?_
  rintro e w2 ⟨na, nc, rfl, ho2, hb2⟩
  have HB2 : Hid (Below W.heap.size W w2) := HB1.out.trans (hb2.mono HB1.out.size)
  have hnp : NdOwn w2 W.heap.size (.slice na 1 nc) nopL := owns_lower ho2 HB1.out.size
  obtain ⟨gn, ncp, hnv, _, _⟩ := owns_some hnp (by decide)
  injection hnv with e1 e2 e3
  subst e1
  subst e3
  clear e2
  have HNP : Hid (NdOwn w2 W.heap.size (.slice (some ⟨gn, 0, none⟩) 1 nc) nopL) := hnp
  clear ho2 hb2 HC2 hnp
  go_wp2_with fail
  go_loopw [7, 8, 9] (fun v7 v8 v9 wr => ∃ (i : Nat) (Ka Kk : List (Value × List Nd)), v9 = .int .i64 i ∧ i ≤ zs.length ∧ Hid (KS W.heap.size wr cs i i v7 v8 Ka Kk) ∧ Hid (NdOwn wr W.heap.size (.slice (some ⟨gn, 0, none⟩) 1 nc) nopL) ∧ Hid (Below W.heap.size W wr)) (fun _ _ v9 _ => zs.length - (intOf v9).toNat)
  case atStart => exact ⟨0, [], [], rfl, by omega, KS.start _ _ _, HNP.out, HB2.out⟩
  case round =>
    obtain ⟨i, Ka, Kk, rfl, hi, HKS, HNp, HB⟩ := hrel
    obtain ⟨aa, ca, rfl⟩ := owns_slice HKS.out.ra
    obtain ⟨ak, ck, rfl⟩ := owns_slice HKS.out.rk
    have hKal : Ka.length ≤ 30 := by
      have h1 := congrArg List.length HKS.out.sa
      rw [List.length_map, List.length_take] at h1
      omega
    have hKkl : Kk.length ≤ 30 := by
      have h1 := congrArg List.length HKS.out.sk
      have h2 := (lastNop_sublist cs).length_le
      have h3 := filter_len (cs.take i)
      rw [List.length_map] at h1
      have h4 := HCL.out
      rw [List.length_take] at h3
      split at h1 <;> omega
    by_cases hlt : i < zs.length
    · have hlt' : (i : Int) < (zs.length : Int) := by omega
      obtain ⟨z, hzi⟩ : ∃ z, zs[i]? = some z := ⟨_, List.getElem?_eq_getElem hlt⟩
      obtain ⟨g1, o1, c1', hv, hg1, cz⟩ := (H1.out wr HB.out).get hzi
      injection hv with e1 e2 e3
      subst e1
      subst e3
      clear e2
      have hX0 := HCS.out i hlt
      rw [hzi, Option.getD_some] at hX0
      have hws := HB.out.size
      have HCZ : Hid (∀ w, Below wr.heap.size wr w → w.cell? ⟨g1, o1 + i, none⟩ = some (.int .i64 z)) := fun w hb => (hb.cell (p := ⟨g1, o1 + i, none⟩) hg1).trans cz
      clear hzi hg1
      rcases rOf_five z with hr | hr | hr | hr | hr
      · have h59 : (wrap64 (z.tmod 5 + 5)).tmod 5 = 0 := by rw [wrap5]; exact hr
        rw [hr] at hX0
        obtain ⟨S, hS⟩ : ∃ S, S = sOf ns i := ⟨_, rfl⟩
        rw [← hS] at hX0
        have HX : Hid (cs[i]? = some (keepC 0 S)) := hX0
        clear hX0 hr
        have hSB : ∃ sb : ByteArray, sb.data.toList = S ∧ ((sb = ⟨#[119]⟩ ∧ ns.length ≤ i) ∨ ∃ t, ns[i]? = some t ∧ ((sb = ⟨#[119]⟩ ∧ ¬ t.length ≤ 100) ∨ (sb = ⟨t.toArray⟩ ∧ t.length ≤ 100))) := by
          rw [hS]
          exact sOf_cases ns i
        obtain ⟨sb, hsb, hways⟩ := hSB
        have HSB : Hid (sb.data.toList = S) := hsb
        clear hS hsb
        rcases hways with ⟨hsb, hw⟩ | ⟨t, htk, ⟨hsb, hw⟩ | ⟨hsb, hw⟩⟩
        · have hw' : ¬ (i : Int) < (ns.length : Int) := by omega
          go_upto_region 12 with fail
          rw [← hsb]
          clear hsb hw hw'
          have HLit : Hid _ := lit_form sb wr
          rw [HSB.out] at HLit
          go_wp2_with fail
          refine Calls.mono HLit.out ?_
          rintro e w3 ⟨la, lc, rfl, ho3, hb3⟩
          have HB3 : Hid (Below wr.heap.size wr w3) := hb3
          have HCal : Hid (Calls Tryd.prog 15 #[.int .i64 21, .int .i64 0, str [], .slice (some ⟨w3.heap.size, 0, none⟩) 1 1] (w3.alloc (.cells #[.slice la 1 lc] 22)) fun e w' => ∃ ad cap, e = .returned (.slice ad (callL S).length cap) ∧ NdOwn w' w3.heap.size (.slice ad (callL S).length cap) (callL S) ∧ Below w3.heap.size w3 w') := new_cells 21 0 [] [(.slice la 1 lc, [litN S])] 1 #[.slice la 1 lc] w3 rfl rfl (fun p hp => by rw [List.mem_singleton] at hp; subst hp; exact ho3.at) (by simp) (show (List.flatten [[litN S]]).length ≤ 100000 by simp)
          clear ho3 hb3 HLit
          go_wp2_with fail
          refine Calls.mono HCal.out ?_
          rintro e w4 ⟨xa, xc, rfl, ho4, hb4⟩
          obtain ⟨gx, xcp, hxv, _, _⟩ := owns_some ho4 (by simp [callL, newN])
          injection hxv with e1 e2 e3
          subst e1
          subst e3
          clear e2
          have hb34 : Below wr.heap.size wr w4 := HB3.out.trans (hb4.mono HB3.out.size)
          have HB4 : Hid (Below wr.heap.size wr w4) := hb34
          have HO4 : Hid (NdOwn w4 W.heap.size (.slice (some ⟨gx, 0, none⟩) (callL S).length xc) (callL S)) := owns_lower ho4 (by have := HB3.out.size; omega)
          have HK4 : Hid (KS W.heap.size w4 cs i i (.slice aa Ka.length ca) (.slice ak Kk.length ck) Ka Kk) := HKS.out.below hb34
          have HN4 : Hid (NdOwn w4 W.heap.size (.slice (some ⟨gn, 0, none⟩) 1 nc) nopL) := HNp.out.below hb34
          have cz4 := HCZ.out w4 hb34
          have hz4 : W.heap.size ≤ w4.heap.size := by have := hb34.size; omega
          clear ho4 hb4 hb34 HCal
          have HXX : Hid (cs[i]? = some (nopL)) := HX.out
          have HXO : Hid (NdOwn w4 W.heap.size (.slice (some ⟨gn, 0, none⟩) 1 nc) (nopL)) := HN4.out
          go_upto_region 23 with (at_builtin; refine wpList_append_own_at _ rfl _ _ 36 rfl W.heap.size 22 i0 _ 1 24 Tryd.underlying36 hi0 hz0 hz1 hz2 rfl (by decide) _ Ka.length _ rfl (World.ownsRow.alloc HK4.out.ra _) ⟨w4.heap.size, 0, none⟩ 1 1 [.slice (some ⟨gn, 0, none⟩) 1 nc] rfl rfl (cells_new w4 _ 22) (slice_one _ ⟨_, _, _, rfl⟩) (by have := maxLen_big; omega) (by omega) (by simp; omega) ?_; intro v7 w7 hownw7 hgroww7 _ hblkw7; obtain ⟨a7, c7, rfl⟩ := owns_slice hownw7; obtain ⟨hks7, hx7, hb7⟩ := HK4.out.all hz4 _ HXO.out HXX.out hownw7 hgroww7 hblkw7; have k7 : w7.cell? ⟨gn, 0, none⟩ = some (.int .i64 20) := own_kind hx7 (by simp [nopL, callL, newN]))
          have HK7 : Hid (KS W.heap.size w7 cs (i + 1) i (.slice a7 (Ka.length + 1) c7) (.slice ak Kk.length ck) (Ka ++ [(.slice (some ⟨gn, 0, none⟩) 1 nc, nopL)]) Kk) := hks7
          have HX7 : Hid (NdOwn w7 W.heap.size (.slice (some ⟨gn, 0, none⟩) 1 nc) (nopL)) := hx7
          have HB7 : Hid (Below W.heap.size w4 w7) := hb7
          have HN7 : Hid (NdOwn w7 W.heap.size (.slice (some ⟨gn, 0, none⟩) 1 nc) nopL) := (HN4.out.below (below_new _ (.cells #[.slice (some ⟨gn, 0, none⟩) 1 nc] 22))).grownK (World.ownsRow.alloc HK4.out.ra _) hgroww7
          have hz7 : W.heap.size ≤ w7.heap.size := by have := hb7.size; omega
          clear hks7 hx7 hb7 hownw7 hgroww7 hblkw7
          by_cases hla : i + 1 = zs.length
          · have hl3 : ((i : Int) == (zs.length : Int) - 1) = true := by simp; omega
            go_wp2_with (at_builtin; refine wpList_append_own_at _ rfl _ _ 36 rfl W.heap.size 22 i0 _ 1 24 Tryd.underlying36 hi0 hz0 hz1 hz2 rfl (by decide) _ Kk.length _ rfl (World.ownsRow.alloc HK7.out.rk _) ⟨w7.heap.size, 0, none⟩ 1 1 [.slice (some ⟨gn, 0, none⟩) 1 nc] rfl rfl (cells_new w7 _ 22) (slice_one _ ⟨_, _, _, rfl⟩) (by have := maxLen_big; omega) (by omega) (by simp; omega) ?_; intro v8 w8 hownw8 hgroww8 _ hblkw8; obtain ⟨a8, c8, rfl⟩ := owns_slice hownw8)
            obtain ⟨hks8, hb8⟩ := HK7.out.more hz7 _ HX7.out HXX.out (Or.inr (by rw [HCL.out]; exact hla)) hownw8 hgroww8 hblkw8
            have hn8 : NdOwn w8 W.heap.size (.slice (some ⟨gn, 0, none⟩) 1 nc) nopL := (HN7.out.below (below_new _ (.cells #[.slice (some ⟨gn, 0, none⟩) 1 nc] 22))).grownK (World.ownsRow.alloc HK7.out.rk _) hgroww8
            exact ⟨⟨i + 1, _, _, by simp, by omega, by simpa [Hid] using hks8, hn8, HB.out.trans (((HB4.out.mono hws).trans HB7.out).trans hb8)⟩, by simp [intOf]; omega⟩
          · have hl3 : ((i : Int) == (zs.length : Int) - 1) = false := beq_eq_false_iff_ne.2 (by omega)
            have hks8 := HK7.out.skip HXX.out rfl (by rw [HCL.out]; exact hla)
            go_wp2_with fail
            exact ⟨⟨i + 1, _, _, by simp, by omega, by simpa [Hid] using hks8, HN7.out, HB.out.trans ((HB4.out.mono hws).trans HB7.out)⟩, by simp [intOf]; omega⟩
        · obtain ⟨g2, o2, c2', hv, hg2, ct⟩ := (H2.out wr HB.out).get htk
          injection hv with e1 e2 e3
          subst e1
          subst e3
          clear e2
          have hwn : (i : Int) < (ns.length : Int) := by have := (List.getElem?_eq_some_iff.1 htk).1; omega
          obtain ⟨tb, htb⟩ : ∃ tb : ByteArray, tb = ⟨t.toArray⟩ := ⟨_, rfl⟩
          have hts : tb.size = t.length := by rw [htb]; simp [ByteArray.size]
          rw [← htb] at ct
          have ht' : ¬ ((tb.size : Nat) : Int) ≤ 100 := by omega
          clear htb hts htk hw
          go_upto_region 12 with fail
          rw [← hsb]
          clear hsb
          clear ht' ct hwn
          have HLit : Hid _ := lit_form sb wr
          rw [HSB.out] at HLit
          go_wp2_with fail
          refine Calls.mono HLit.out ?_
          rintro e w3 ⟨la, lc, rfl, ho3, hb3⟩
          have HB3 : Hid (Below wr.heap.size wr w3) := hb3
          have HCal : Hid (Calls Tryd.prog 15 #[.int .i64 21, .int .i64 0, str [], .slice (some ⟨w3.heap.size, 0, none⟩) 1 1] (w3.alloc (.cells #[.slice la 1 lc] 22)) fun e w' => ∃ ad cap, e = .returned (.slice ad (callL S).length cap) ∧ NdOwn w' w3.heap.size (.slice ad (callL S).length cap) (callL S) ∧ Below w3.heap.size w3 w') := new_cells 21 0 [] [(.slice la 1 lc, [litN S])] 1 #[.slice la 1 lc] w3 rfl rfl (fun p hp => by rw [List.mem_singleton] at hp; subst hp; exact ho3.at) (by simp) (show (List.flatten [[litN S]]).length ≤ 100000 by simp)
          clear ho3 hb3 HLit
          go_wp2_with fail
          refine Calls.mono HCal.out ?_
          rintro e w4 ⟨xa, xc, rfl, ho4, hb4⟩
          obtain ⟨gx, xcp, hxv, _, _⟩ := owns_some ho4 (by simp [callL, newN])
          injection hxv with e1 e2 e3
          subst e1
          subst e3
          clear e2
          have hb34 : Below wr.heap.size wr w4 := HB3.out.trans (hb4.mono HB3.out.size)
          have HB4 : Hid (Below wr.heap.size wr w4) := hb34
          have HO4 : Hid (NdOwn w4 W.heap.size (.slice (some ⟨gx, 0, none⟩) (callL S).length xc) (callL S)) := owns_lower ho4 (by have := HB3.out.size; omega)
          have HK4 : Hid (KS W.heap.size w4 cs i i (.slice aa Ka.length ca) (.slice ak Kk.length ck) Ka Kk) := HKS.out.below hb34
          have HN4 : Hid (NdOwn w4 W.heap.size (.slice (some ⟨gn, 0, none⟩) 1 nc) nopL) := HNp.out.below hb34
          have cz4 := HCZ.out w4 hb34
          have hz4 : W.heap.size ≤ w4.heap.size := by have := hb34.size; omega
          clear ho4 hb4 hb34 HCal
          have HXX : Hid (cs[i]? = some (nopL)) := HX.out
          have HXO : Hid (NdOwn w4 W.heap.size (.slice (some ⟨gn, 0, none⟩) 1 nc) (nopL)) := HN4.out
          go_upto_region 23 with (at_builtin; refine wpList_append_own_at _ rfl _ _ 36 rfl W.heap.size 22 i0 _ 1 24 Tryd.underlying36 hi0 hz0 hz1 hz2 rfl (by decide) _ Ka.length _ rfl (World.ownsRow.alloc HK4.out.ra _) ⟨w4.heap.size, 0, none⟩ 1 1 [.slice (some ⟨gn, 0, none⟩) 1 nc] rfl rfl (cells_new w4 _ 22) (slice_one _ ⟨_, _, _, rfl⟩) (by have := maxLen_big; omega) (by omega) (by simp; omega) ?_; intro v7 w7 hownw7 hgroww7 _ hblkw7; obtain ⟨a7, c7, rfl⟩ := owns_slice hownw7; obtain ⟨hks7, hx7, hb7⟩ := HK4.out.all hz4 _ HXO.out HXX.out hownw7 hgroww7 hblkw7; have k7 : w7.cell? ⟨gn, 0, none⟩ = some (.int .i64 20) := own_kind hx7 (by simp [nopL, callL, newN]))
          have HK7 : Hid (KS W.heap.size w7 cs (i + 1) i (.slice a7 (Ka.length + 1) c7) (.slice ak Kk.length ck) (Ka ++ [(.slice (some ⟨gn, 0, none⟩) 1 nc, nopL)]) Kk) := hks7
          have HX7 : Hid (NdOwn w7 W.heap.size (.slice (some ⟨gn, 0, none⟩) 1 nc) (nopL)) := hx7
          have HB7 : Hid (Below W.heap.size w4 w7) := hb7
          have HN7 : Hid (NdOwn w7 W.heap.size (.slice (some ⟨gn, 0, none⟩) 1 nc) nopL) := (HN4.out.below (below_new _ (.cells #[.slice (some ⟨gn, 0, none⟩) 1 nc] 22))).grownK (World.ownsRow.alloc HK4.out.ra _) hgroww7
          have hz7 : W.heap.size ≤ w7.heap.size := by have := hb7.size; omega
          clear hks7 hx7 hb7 hownw7 hgroww7 hblkw7
          by_cases hla : i + 1 = zs.length
          · have hl3 : ((i : Int) == (zs.length : Int) - 1) = true := by simp; omega
            go_wp2_with (at_builtin; refine wpList_append_own_at _ rfl _ _ 36 rfl W.heap.size 22 i0 _ 1 24 Tryd.underlying36 hi0 hz0 hz1 hz2 rfl (by decide) _ Kk.length _ rfl (World.ownsRow.alloc HK7.out.rk _) ⟨w7.heap.size, 0, none⟩ 1 1 [.slice (some ⟨gn, 0, none⟩) 1 nc] rfl rfl (cells_new w7 _ 22) (slice_one _ ⟨_, _, _, rfl⟩) (by have := maxLen_big; omega) (by omega) (by simp; omega) ?_; intro v8 w8 hownw8 hgroww8 _ hblkw8; obtain ⟨a8, c8, rfl⟩ := owns_slice hownw8)
            obtain ⟨hks8, hb8⟩ := HK7.out.more hz7 _ HX7.out HXX.out (Or.inr (by rw [HCL.out]; exact hla)) hownw8 hgroww8 hblkw8
            have hn8 : NdOwn w8 W.heap.size (.slice (some ⟨gn, 0, none⟩) 1 nc) nopL := (HN7.out.below (below_new _ (.cells #[.slice (some ⟨gn, 0, none⟩) 1 nc] 22))).grownK (World.ownsRow.alloc HK7.out.rk _) hgroww8
            exact ⟨⟨i + 1, _, _, by simp, by omega, by simpa [Hid] using hks8, hn8, HB.out.trans (((HB4.out.mono hws).trans HB7.out).trans hb8)⟩, by simp [intOf]; omega⟩
          · have hl3 : ((i : Int) == (zs.length : Int) - 1) = false := beq_eq_false_iff_ne.2 (by omega)
            have hks8 := HK7.out.skip HXX.out rfl (by rw [HCL.out]; exact hla)
            go_wp2_with fail
            exact ⟨⟨i + 1, _, _, by simp, by omega, by simpa [Hid] using hks8, HN7.out, HB.out.trans ((HB4.out.mono hws).trans HB7.out)⟩, by simp [intOf]; omega⟩
        · obtain ⟨g2, o2, c2', hv, hg2, ct⟩ := (H2.out wr HB.out).get htk
          injection hv with e1 e2 e3
          subst e1
          subst e3
          clear e2
          have hwn : (i : Int) < (ns.length : Int) := by have := (List.getElem?_eq_some_iff.1 htk).1; omega
          obtain ⟨tb, htb⟩ : ∃ tb : ByteArray, tb = ⟨t.toArray⟩ := ⟨_, rfl⟩
          have hts : tb.size = t.length := by rw [htb]; simp [ByteArray.size]
          rw [← htb] at ct
          rw [← htb] at hsb
          subst hsb
          have ht' : ((sb.size : Nat) : Int) ≤ 100 := by omega
          clear htb hts htk hw
          go_upto_region 12 with fail
          clear ht' ct hwn
          have HLit : Hid _ := lit_form sb wr
          rw [HSB.out] at HLit
          go_wp2_with fail
          refine Calls.mono HLit.out ?_
          rintro e w3 ⟨la, lc, rfl, ho3, hb3⟩
          have HB3 : Hid (Below wr.heap.size wr w3) := hb3
          have HCal : Hid (Calls Tryd.prog 15 #[.int .i64 21, .int .i64 0, str [], .slice (some ⟨w3.heap.size, 0, none⟩) 1 1] (w3.alloc (.cells #[.slice la 1 lc] 22)) fun e w' => ∃ ad cap, e = .returned (.slice ad (callL S).length cap) ∧ NdOwn w' w3.heap.size (.slice ad (callL S).length cap) (callL S) ∧ Below w3.heap.size w3 w') := new_cells 21 0 [] [(.slice la 1 lc, [litN S])] 1 #[.slice la 1 lc] w3 rfl rfl (fun p hp => by rw [List.mem_singleton] at hp; subst hp; exact ho3.at) (by simp) (show (List.flatten [[litN S]]).length ≤ 100000 by simp)
          clear ho3 hb3 HLit
          go_wp2_with fail
          refine Calls.mono HCal.out ?_
          rintro e w4 ⟨xa, xc, rfl, ho4, hb4⟩
          obtain ⟨gx, xcp, hxv, _, _⟩ := owns_some ho4 (by simp [callL, newN])
          injection hxv with e1 e2 e3
          subst e1
          subst e3
          clear e2
          have hb34 : Below wr.heap.size wr w4 := HB3.out.trans (hb4.mono HB3.out.size)
          have HB4 : Hid (Below wr.heap.size wr w4) := hb34
          have HO4 : Hid (NdOwn w4 W.heap.size (.slice (some ⟨gx, 0, none⟩) (callL S).length xc) (callL S)) := owns_lower ho4 (by have := HB3.out.size; omega)
          have HK4 : Hid (KS W.heap.size w4 cs i i (.slice aa Ka.length ca) (.slice ak Kk.length ck) Ka Kk) := HKS.out.below hb34
          have HN4 : Hid (NdOwn w4 W.heap.size (.slice (some ⟨gn, 0, none⟩) 1 nc) nopL) := HNp.out.below hb34
          have cz4 := HCZ.out w4 hb34
          have hz4 : W.heap.size ≤ w4.heap.size := by have := hb34.size; omega
          clear ho4 hb4 hb34 HCal
          have HXX : Hid (cs[i]? = some (nopL)) := HX.out
          have HXO : Hid (NdOwn w4 W.heap.size (.slice (some ⟨gn, 0, none⟩) 1 nc) (nopL)) := HN4.out
          go_upto_region 23 with (at_builtin; refine wpList_append_own_at _ rfl _ _ 36 rfl W.heap.size 22 i0 _ 1 24 Tryd.underlying36 hi0 hz0 hz1 hz2 rfl (by decide) _ Ka.length _ rfl (World.ownsRow.alloc HK4.out.ra _) ⟨w4.heap.size, 0, none⟩ 1 1 [.slice (some ⟨gn, 0, none⟩) 1 nc] rfl rfl (cells_new w4 _ 22) (slice_one _ ⟨_, _, _, rfl⟩) (by have := maxLen_big; omega) (by omega) (by simp; omega) ?_; intro v7 w7 hownw7 hgroww7 _ hblkw7; obtain ⟨a7, c7, rfl⟩ := owns_slice hownw7; obtain ⟨hks7, hx7, hb7⟩ := HK4.out.all hz4 _ HXO.out HXX.out hownw7 hgroww7 hblkw7; have k7 : w7.cell? ⟨gn, 0, none⟩ = some (.int .i64 20) := own_kind hx7 (by simp [nopL, callL, newN]))
          have HK7 : Hid (KS W.heap.size w7 cs (i + 1) i (.slice a7 (Ka.length + 1) c7) (.slice ak Kk.length ck) (Ka ++ [(.slice (some ⟨gn, 0, none⟩) 1 nc, nopL)]) Kk) := hks7
          have HX7 : Hid (NdOwn w7 W.heap.size (.slice (some ⟨gn, 0, none⟩) 1 nc) (nopL)) := hx7
          have HB7 : Hid (Below W.heap.size w4 w7) := hb7
          have HN7 : Hid (NdOwn w7 W.heap.size (.slice (some ⟨gn, 0, none⟩) 1 nc) nopL) := (HN4.out.below (below_new _ (.cells #[.slice (some ⟨gn, 0, none⟩) 1 nc] 22))).grownK (World.ownsRow.alloc HK4.out.ra _) hgroww7
          have hz7 : W.heap.size ≤ w7.heap.size := by have := hb7.size; omega
          clear hks7 hx7 hb7 hownw7 hgroww7 hblkw7
          by_cases hla : i + 1 = zs.length
          · have hl3 : ((i : Int) == (zs.length : Int) - 1) = true := by simp; omega
            go_wp2_with (at_builtin; refine wpList_append_own_at _ rfl _ _ 36 rfl W.heap.size 22 i0 _ 1 24 Tryd.underlying36 hi0 hz0 hz1 hz2 rfl (by decide) _ Kk.length _ rfl (World.ownsRow.alloc HK7.out.rk _) ⟨w7.heap.size, 0, none⟩ 1 1 [.slice (some ⟨gn, 0, none⟩) 1 nc] rfl rfl (cells_new w7 _ 22) (slice_one _ ⟨_, _, _, rfl⟩) (by have := maxLen_big; omega) (by omega) (by simp; omega) ?_; intro v8 w8 hownw8 hgroww8 _ hblkw8; obtain ⟨a8, c8, rfl⟩ := owns_slice hownw8)
            obtain ⟨hks8, hb8⟩ := HK7.out.more hz7 _ HX7.out HXX.out (Or.inr (by rw [HCL.out]; exact hla)) hownw8 hgroww8 hblkw8
            have hn8 : NdOwn w8 W.heap.size (.slice (some ⟨gn, 0, none⟩) 1 nc) nopL := (HN7.out.below (below_new _ (.cells #[.slice (some ⟨gn, 0, none⟩) 1 nc] 22))).grownK (World.ownsRow.alloc HK7.out.rk _) hgroww8
            exact ⟨⟨i + 1, _, _, by simp, by omega, by simpa [Hid] using hks8, hn8, HB.out.trans (((HB4.out.mono hws).trans HB7.out).trans hb8)⟩, by simp [intOf]; omega⟩
          · have hl3 : ((i : Int) == (zs.length : Int) - 1) = false := beq_eq_false_iff_ne.2 (by omega)
            have hks8 := HK7.out.skip HXX.out rfl (by rw [HCL.out]; exact hla)
            go_wp2_with fail
            exact ⟨⟨i + 1, _, _, by simp, by omega, by simpa [Hid] using hks8, HN7.out, HB.out.trans ((HB4.out.mono hws).trans HB7.out)⟩, by simp [intOf]; omega⟩
      · have h59 : (wrap64 (z.tmod 5 + 5)).tmod 5 = 1 := by rw [wrap5]; exact hr
        rw [hr] at hX0
        obtain ⟨S, hS⟩ : ∃ S, S = sOf ns i := ⟨_, rfl⟩
        rw [← hS] at hX0
        have HX : Hid (cs[i]? = some (keepC 1 S)) := hX0
        clear hX0 hr
        have hSB : ∃ sb : ByteArray, sb.data.toList = S ∧ ((sb = ⟨#[119]⟩ ∧ ns.length ≤ i) ∨ ∃ t, ns[i]? = some t ∧ ((sb = ⟨#[119]⟩ ∧ ¬ t.length ≤ 100) ∨ (sb = ⟨t.toArray⟩ ∧ t.length ≤ 100))) := by
          rw [hS]
          exact sOf_cases ns i
        obtain ⟨sb, hsb, hways⟩ := hSB
        have HSB : Hid (sb.data.toList = S) := hsb
        clear hS hsb
        rcases hways with ⟨hsb, hw⟩ | ⟨t, htk, ⟨hsb, hw⟩ | ⟨hsb, hw⟩⟩
        · have hw' : ¬ (i : Int) < (ns.length : Int) := by omega
          go_upto_region 12 with fail
          rw [← hsb]
          clear hsb hw hw'
          have HLit : Hid _ := lit_form sb wr
          rw [HSB.out] at HLit
          go_wp2_with fail
          refine Calls.mono HLit.out ?_
          rintro e w3 ⟨la, lc, rfl, ho3, hb3⟩
          have HB3 : Hid (Below wr.heap.size wr w3) := hb3
          have HCal : Hid (Calls Tryd.prog 15 #[.int .i64 21, .int .i64 0, str [], .slice (some ⟨w3.heap.size, 0, none⟩) 1 1] (w3.alloc (.cells #[.slice la 1 lc] 22)) fun e w' => ∃ ad cap, e = .returned (.slice ad (callL S).length cap) ∧ NdOwn w' w3.heap.size (.slice ad (callL S).length cap) (callL S) ∧ Below w3.heap.size w3 w') := new_cells 21 0 [] [(.slice la 1 lc, [litN S])] 1 #[.slice la 1 lc] w3 rfl rfl (fun p hp => by rw [List.mem_singleton] at hp; subst hp; exact ho3.at) (by simp) (show (List.flatten [[litN S]]).length ≤ 100000 by simp)
          clear ho3 hb3 HLit
          go_wp2_with fail
          refine Calls.mono HCal.out ?_
          rintro e w4 ⟨xa, xc, rfl, ho4, hb4⟩
          obtain ⟨gx, xcp, hxv, _, _⟩ := owns_some ho4 (by simp [callL, newN])
          injection hxv with e1 e2 e3
          subst e1
          subst e3
          clear e2
          have hb34 : Below wr.heap.size wr w4 := HB3.out.trans (hb4.mono HB3.out.size)
          have HB4 : Hid (Below wr.heap.size wr w4) := hb34
          have HO4 : Hid (NdOwn w4 W.heap.size (.slice (some ⟨gx, 0, none⟩) (callL S).length xc) (callL S)) := owns_lower ho4 (by have := HB3.out.size; omega)
          have HK4 : Hid (KS W.heap.size w4 cs i i (.slice aa Ka.length ca) (.slice ak Kk.length ck) Ka Kk) := HKS.out.below hb34
          have HN4 : Hid (NdOwn w4 W.heap.size (.slice (some ⟨gn, 0, none⟩) 1 nc) nopL) := HNp.out.below hb34
          have cz4 := HCZ.out w4 hb34
          have hz4 : W.heap.size ≤ w4.heap.size := by have := hb34.size; omega
          clear ho4 hb4 hb34 HCal
          have HL5 : Hid _ := lit_form sb w4
          rw [HSB.out] at HL5
          go_wp2_with fail
          refine Calls.mono HL5.out ?_
          rintro e w5 ⟨ma, mc, rfl, ho5, hb5⟩
          have HB5 : Hid (Below wr.heap.size wr w5) := HB4.out.trans (hb5.mono HB4.out.size)
          have HO5 : Hid (NdOwn w5 w4.heap.size (.slice ma 1 mc) [litN S]) := ho5
          have HK5 : Hid (KS W.heap.size w5 cs i i (.slice aa Ka.length ca) (.slice ak Kk.length ck) Ka Kk) := HK4.out.below hb5
          have HN5 : Hid (NdOwn w5 W.heap.size (.slice (some ⟨gn, 0, none⟩) 1 nc) nopL) := HN4.out.below hb5
          have hz5 : W.heap.size ≤ w5.heap.size := by have := hb5.size; omega
          clear ho5 hb5 HL5
          have HNw : Hid (Calls Tryd.prog 15 #[.int .i64 33, .int .i64 2, str [], .slice (some ⟨w5.heap.size, 0, none⟩) 2 2] (w5.alloc (.cells #[.slice ma 1 mc, .slice (some ⟨gn, 0, none⟩) 1 nc] 22)) fun e w' => ∃ ad cap, e = .returned (.slice ad (newN 33 2 [] [[litN S], nopL]).length cap) ∧ NdOwn w' w5.heap.size (.slice ad (newN 33 2 [] [[litN S], nopL]).length cap) (newN 33 2 [] [[litN S], nopL]) ∧ Below w5.heap.size w5 w') := new_cells 33 2 [] [(.slice ma 1 mc, [litN S]), (.slice (some ⟨gn, 0, none⟩) 1 nc, nopL)] 2 #[.slice ma 1 mc, .slice (some ⟨gn, 0, none⟩) 1 nc] w5 rfl rfl (fun p hp => by simp only [List.mem_cons, List.not_mem_nil, or_false] at hp; rcases hp with rfl | rfl <;> first | exact HO5.out.at | exact HN5.out.at) (by simp) (show (List.flatten [[litN S], nopL]).length ≤ 100000 by simp [callL, nopL, newN])
          go_wp2_with fail
          refine Calls.mono HNw.out ?_
          rintro e w6 ⟨ya, yc, rfl, ho6, hb6⟩
          obtain ⟨gy, ycp, hyv, _, _⟩ := owns_some ho6 (by simp [newN])
          injection hyv with e1 e2 e3
          subst e1
          subst e3
          clear e2
          have HO6 : Hid (NdOwn w6 W.heap.size (.slice (some ⟨gy, 0, none⟩) (newN 33 2 [] [[litN S], nopL]).length yc) (newN 33 2 [] [[litN S], nopL])) := owns_lower ho6 hz5
          have HB6 : Hid (Below wr.heap.size wr w6) := HB5.out.trans (hb6.mono HB5.out.size)
          have HK6 : Hid (KS W.heap.size w6 cs i i (.slice aa Ka.length ca) (.slice ak Kk.length ck) Ka Kk) := HK5.out.below hb6
          have HN6 : Hid (NdOwn w6 W.heap.size (.slice (some ⟨gn, 0, none⟩) 1 nc) nopL) := HN5.out.below hb6
          have hz6 : W.heap.size ≤ w6.heap.size := by have := hb6.size; omega
          clear ho6 hb6 HNw
          have HXX : Hid (cs[i]? = some (newN 33 2 [] [[litN S], nopL])) := HX.out
          have hxl : (0 : Int) < (((newN 33 2 [] [[litN S], nopL]).length : Nat) : Int) := by
            have : 0 < (newN 33 2 [] [[litN S], nopL]).length := by simp [nopL, callL, newN]
            omega
          have HXO : Hid (NdOwn w6 W.heap.size (.slice (some ⟨gy, 0, none⟩) (newN 33 2 [] [[litN S], nopL]).length yc) (newN 33 2 [] [[litN S], nopL])) := HO6.out
          go_upto_region 23 with (at_builtin; refine wpList_append_own_at _ rfl _ _ 36 rfl W.heap.size 22 i0 _ 1 24 Tryd.underlying36 hi0 hz0 hz1 hz2 rfl (by decide) _ Ka.length _ rfl (World.ownsRow.alloc HK6.out.ra _) ⟨w6.heap.size, 0, none⟩ 1 1 [.slice (some ⟨gy, 0, none⟩) (newN 33 2 [] [[litN S], nopL]).length yc] rfl rfl (cells_new w6 _ 22) (slice_one _ ⟨_, _, _, rfl⟩) (by have := maxLen_big; omega) (by omega) (by simp; omega) ?_; intro v7 w7 hownw7 hgroww7 _ hblkw7; obtain ⟨a7, c7, rfl⟩ := owns_slice hownw7; obtain ⟨hks7, hx7, hb7⟩ := HK6.out.all hz6 _ HXO.out HXX.out hownw7 hgroww7 hblkw7; have k7 : w7.cell? ⟨gy, 0, none⟩ = some (.int .i64 33) := own_kind hx7 (by simp [nopL, callL, newN]))
          have HK7 : Hid (KS W.heap.size w7 cs (i + 1) i (.slice a7 (Ka.length + 1) c7) (.slice ak Kk.length ck) (Ka ++ [(.slice (some ⟨gy, 0, none⟩) (newN 33 2 [] [[litN S], nopL]).length yc, newN 33 2 [] [[litN S], nopL])]) Kk) := hks7
          have HX7 : Hid (NdOwn w7 W.heap.size (.slice (some ⟨gy, 0, none⟩) (newN 33 2 [] [[litN S], nopL]).length yc) (newN 33 2 [] [[litN S], nopL])) := hx7
          have HB7 : Hid (Below W.heap.size w6 w7) := hb7
          have HN7 : Hid (NdOwn w7 W.heap.size (.slice (some ⟨gn, 0, none⟩) 1 nc) nopL) := (HN6.out.below (below_new _ (.cells #[.slice (some ⟨gy, 0, none⟩) (newN 33 2 [] [[litN S], nopL]).length yc] 22))).grownK (World.ownsRow.alloc HK6.out.ra _) hgroww7
          have hz7 : W.heap.size ≤ w7.heap.size := by have := hb7.size; omega
          clear hks7 hx7 hb7 hownw7 hgroww7 hblkw7
          go_wp2_with (at_builtin; refine wpList_append_own_at _ rfl _ _ 36 rfl W.heap.size 22 i0 _ 1 24 Tryd.underlying36 hi0 hz0 hz1 hz2 rfl (by decide) _ Kk.length _ rfl (World.ownsRow.alloc HK7.out.rk _) ⟨w7.heap.size, 0, none⟩ 1 1 [.slice (some ⟨gy, 0, none⟩) (newN 33 2 [] [[litN S], nopL]).length yc] rfl rfl (cells_new w7 _ 22) (slice_one _ ⟨_, _, _, rfl⟩) (by have := maxLen_big; omega) (by omega) (by simp; omega) ?_; intro v8 w8 hownw8 hgroww8 _ hblkw8; obtain ⟨a8, c8, rfl⟩ := owns_slice hownw8)
          obtain ⟨hks8, hb8⟩ := HK7.out.more hz7 _ HX7.out HXX.out (Or.inl (by simp [kindOf_new, callL])) hownw8 hgroww8 hblkw8
          have hn8 : NdOwn w8 W.heap.size (.slice (some ⟨gn, 0, none⟩) 1 nc) nopL := (HN7.out.below (below_new _ (.cells #[.slice (some ⟨gy, 0, none⟩) (newN 33 2 [] [[litN S], nopL]).length yc] 22))).grownK (World.ownsRow.alloc HK7.out.rk _) hgroww8
          exact ⟨⟨i + 1, _, _, by simp, by omega, by simpa [Hid] using hks8, hn8, HB.out.trans (((HB6.out.mono hws).trans HB7.out).trans hb8)⟩, by simp [intOf]; omega⟩
        · obtain ⟨g2, o2, c2', hv, hg2, ct⟩ := (H2.out wr HB.out).get htk
          injection hv with e1 e2 e3
          subst e1
          subst e3
          clear e2
          have hwn : (i : Int) < (ns.length : Int) := by have := (List.getElem?_eq_some_iff.1 htk).1; omega
          obtain ⟨tb, htb⟩ : ∃ tb : ByteArray, tb = ⟨t.toArray⟩ := ⟨_, rfl⟩
          have hts : tb.size = t.length := by rw [htb]; simp [ByteArray.size]
          rw [← htb] at ct
          have ht' : ¬ ((tb.size : Nat) : Int) ≤ 100 := by omega
          clear htb hts htk hw
          go_upto_region 12 with fail
          rw [← hsb]
          clear hsb
          clear ht' ct hwn
          have HLit : Hid _ := lit_form sb wr
          rw [HSB.out] at HLit
          go_wp2_with fail
          refine Calls.mono HLit.out ?_
          rintro e w3 ⟨la, lc, rfl, ho3, hb3⟩
          have HB3 : Hid (Below wr.heap.size wr w3) := hb3
          have HCal : Hid (Calls Tryd.prog 15 #[.int .i64 21, .int .i64 0, str [], .slice (some ⟨w3.heap.size, 0, none⟩) 1 1] (w3.alloc (.cells #[.slice la 1 lc] 22)) fun e w' => ∃ ad cap, e = .returned (.slice ad (callL S).length cap) ∧ NdOwn w' w3.heap.size (.slice ad (callL S).length cap) (callL S) ∧ Below w3.heap.size w3 w') := new_cells 21 0 [] [(.slice la 1 lc, [litN S])] 1 #[.slice la 1 lc] w3 rfl rfl (fun p hp => by rw [List.mem_singleton] at hp; subst hp; exact ho3.at) (by simp) (show (List.flatten [[litN S]]).length ≤ 100000 by simp)
          clear ho3 hb3 HLit
          go_wp2_with fail
          refine Calls.mono HCal.out ?_
          rintro e w4 ⟨xa, xc, rfl, ho4, hb4⟩
          obtain ⟨gx, xcp, hxv, _, _⟩ := owns_some ho4 (by simp [callL, newN])
          injection hxv with e1 e2 e3
          subst e1
          subst e3
          clear e2
          have hb34 : Below wr.heap.size wr w4 := HB3.out.trans (hb4.mono HB3.out.size)
          have HB4 : Hid (Below wr.heap.size wr w4) := hb34
          have HO4 : Hid (NdOwn w4 W.heap.size (.slice (some ⟨gx, 0, none⟩) (callL S).length xc) (callL S)) := owns_lower ho4 (by have := HB3.out.size; omega)
          have HK4 : Hid (KS W.heap.size w4 cs i i (.slice aa Ka.length ca) (.slice ak Kk.length ck) Ka Kk) := HKS.out.below hb34
          have HN4 : Hid (NdOwn w4 W.heap.size (.slice (some ⟨gn, 0, none⟩) 1 nc) nopL) := HNp.out.below hb34
          have cz4 := HCZ.out w4 hb34
          have hz4 : W.heap.size ≤ w4.heap.size := by have := hb34.size; omega
          clear ho4 hb4 hb34 HCal
          have HL5 : Hid _ := lit_form sb w4
          rw [HSB.out] at HL5
          go_wp2_with fail
          refine Calls.mono HL5.out ?_
          rintro e w5 ⟨ma, mc, rfl, ho5, hb5⟩
          have HB5 : Hid (Below wr.heap.size wr w5) := HB4.out.trans (hb5.mono HB4.out.size)
          have HO5 : Hid (NdOwn w5 w4.heap.size (.slice ma 1 mc) [litN S]) := ho5
          have HK5 : Hid (KS W.heap.size w5 cs i i (.slice aa Ka.length ca) (.slice ak Kk.length ck) Ka Kk) := HK4.out.below hb5
          have HN5 : Hid (NdOwn w5 W.heap.size (.slice (some ⟨gn, 0, none⟩) 1 nc) nopL) := HN4.out.below hb5
          have hz5 : W.heap.size ≤ w5.heap.size := by have := hb5.size; omega
          clear ho5 hb5 HL5
          have HNw : Hid (Calls Tryd.prog 15 #[.int .i64 33, .int .i64 2, str [], .slice (some ⟨w5.heap.size, 0, none⟩) 2 2] (w5.alloc (.cells #[.slice ma 1 mc, .slice (some ⟨gn, 0, none⟩) 1 nc] 22)) fun e w' => ∃ ad cap, e = .returned (.slice ad (newN 33 2 [] [[litN S], nopL]).length cap) ∧ NdOwn w' w5.heap.size (.slice ad (newN 33 2 [] [[litN S], nopL]).length cap) (newN 33 2 [] [[litN S], nopL]) ∧ Below w5.heap.size w5 w') := new_cells 33 2 [] [(.slice ma 1 mc, [litN S]), (.slice (some ⟨gn, 0, none⟩) 1 nc, nopL)] 2 #[.slice ma 1 mc, .slice (some ⟨gn, 0, none⟩) 1 nc] w5 rfl rfl (fun p hp => by simp only [List.mem_cons, List.not_mem_nil, or_false] at hp; rcases hp with rfl | rfl <;> first | exact HO5.out.at | exact HN5.out.at) (by simp) (show (List.flatten [[litN S], nopL]).length ≤ 100000 by simp [callL, nopL, newN])
          go_wp2_with fail
          refine Calls.mono HNw.out ?_
          rintro e w6 ⟨ya, yc, rfl, ho6, hb6⟩
          obtain ⟨gy, ycp, hyv, _, _⟩ := owns_some ho6 (by simp [newN])
          injection hyv with e1 e2 e3
          subst e1
          subst e3
          clear e2
          have HO6 : Hid (NdOwn w6 W.heap.size (.slice (some ⟨gy, 0, none⟩) (newN 33 2 [] [[litN S], nopL]).length yc) (newN 33 2 [] [[litN S], nopL])) := owns_lower ho6 hz5
          have HB6 : Hid (Below wr.heap.size wr w6) := HB5.out.trans (hb6.mono HB5.out.size)
          have HK6 : Hid (KS W.heap.size w6 cs i i (.slice aa Ka.length ca) (.slice ak Kk.length ck) Ka Kk) := HK5.out.below hb6
          have HN6 : Hid (NdOwn w6 W.heap.size (.slice (some ⟨gn, 0, none⟩) 1 nc) nopL) := HN5.out.below hb6
          have hz6 : W.heap.size ≤ w6.heap.size := by have := hb6.size; omega
          clear ho6 hb6 HNw
          have HXX : Hid (cs[i]? = some (newN 33 2 [] [[litN S], nopL])) := HX.out
          have hxl : (0 : Int) < (((newN 33 2 [] [[litN S], nopL]).length : Nat) : Int) := by
            have : 0 < (newN 33 2 [] [[litN S], nopL]).length := by simp [nopL, callL, newN]
            omega
          have HXO : Hid (NdOwn w6 W.heap.size (.slice (some ⟨gy, 0, none⟩) (newN 33 2 [] [[litN S], nopL]).length yc) (newN 33 2 [] [[litN S], nopL])) := HO6.out
          go_upto_region 23 with (at_builtin; refine wpList_append_own_at _ rfl _ _ 36 rfl W.heap.size 22 i0 _ 1 24 Tryd.underlying36 hi0 hz0 hz1 hz2 rfl (by decide) _ Ka.length _ rfl (World.ownsRow.alloc HK6.out.ra _) ⟨w6.heap.size, 0, none⟩ 1 1 [.slice (some ⟨gy, 0, none⟩) (newN 33 2 [] [[litN S], nopL]).length yc] rfl rfl (cells_new w6 _ 22) (slice_one _ ⟨_, _, _, rfl⟩) (by have := maxLen_big; omega) (by omega) (by simp; omega) ?_; intro v7 w7 hownw7 hgroww7 _ hblkw7; obtain ⟨a7, c7, rfl⟩ := owns_slice hownw7; obtain ⟨hks7, hx7, hb7⟩ := HK6.out.all hz6 _ HXO.out HXX.out hownw7 hgroww7 hblkw7; have k7 : w7.cell? ⟨gy, 0, none⟩ = some (.int .i64 33) := own_kind hx7 (by simp [nopL, callL, newN]))
          have HK7 : Hid (KS W.heap.size w7 cs (i + 1) i (.slice a7 (Ka.length + 1) c7) (.slice ak Kk.length ck) (Ka ++ [(.slice (some ⟨gy, 0, none⟩) (newN 33 2 [] [[litN S], nopL]).length yc, newN 33 2 [] [[litN S], nopL])]) Kk) := hks7
          have HX7 : Hid (NdOwn w7 W.heap.size (.slice (some ⟨gy, 0, none⟩) (newN 33 2 [] [[litN S], nopL]).length yc) (newN 33 2 [] [[litN S], nopL])) := hx7
          have HB7 : Hid (Below W.heap.size w6 w7) := hb7
          have HN7 : Hid (NdOwn w7 W.heap.size (.slice (some ⟨gn, 0, none⟩) 1 nc) nopL) := (HN6.out.below (below_new _ (.cells #[.slice (some ⟨gy, 0, none⟩) (newN 33 2 [] [[litN S], nopL]).length yc] 22))).grownK (World.ownsRow.alloc HK6.out.ra _) hgroww7
          have hz7 : W.heap.size ≤ w7.heap.size := by have := hb7.size; omega
          clear hks7 hx7 hb7 hownw7 hgroww7 hblkw7
          go_wp2_with (at_builtin; refine wpList_append_own_at _ rfl _ _ 36 rfl W.heap.size 22 i0 _ 1 24 Tryd.underlying36 hi0 hz0 hz1 hz2 rfl (by decide) _ Kk.length _ rfl (World.ownsRow.alloc HK7.out.rk _) ⟨w7.heap.size, 0, none⟩ 1 1 [.slice (some ⟨gy, 0, none⟩) (newN 33 2 [] [[litN S], nopL]).length yc] rfl rfl (cells_new w7 _ 22) (slice_one _ ⟨_, _, _, rfl⟩) (by have := maxLen_big; omega) (by omega) (by simp; omega) ?_; intro v8 w8 hownw8 hgroww8 _ hblkw8; obtain ⟨a8, c8, rfl⟩ := owns_slice hownw8)
          obtain ⟨hks8, hb8⟩ := HK7.out.more hz7 _ HX7.out HXX.out (Or.inl (by simp [kindOf_new, callL])) hownw8 hgroww8 hblkw8
          have hn8 : NdOwn w8 W.heap.size (.slice (some ⟨gn, 0, none⟩) 1 nc) nopL := (HN7.out.below (below_new _ (.cells #[.slice (some ⟨gy, 0, none⟩) (newN 33 2 [] [[litN S], nopL]).length yc] 22))).grownK (World.ownsRow.alloc HK7.out.rk _) hgroww8
          exact ⟨⟨i + 1, _, _, by simp, by omega, by simpa [Hid] using hks8, hn8, HB.out.trans (((HB6.out.mono hws).trans HB7.out).trans hb8)⟩, by simp [intOf]; omega⟩
        · obtain ⟨g2, o2, c2', hv, hg2, ct⟩ := (H2.out wr HB.out).get htk
          injection hv with e1 e2 e3
          subst e1
          subst e3
          clear e2
          have hwn : (i : Int) < (ns.length : Int) := by have := (List.getElem?_eq_some_iff.1 htk).1; omega
          obtain ⟨tb, htb⟩ : ∃ tb : ByteArray, tb = ⟨t.toArray⟩ := ⟨_, rfl⟩
          have hts : tb.size = t.length := by rw [htb]; simp [ByteArray.size]
          rw [← htb] at ct
          rw [← htb] at hsb
          subst hsb
          have ht' : ((sb.size : Nat) : Int) ≤ 100 := by omega
          clear htb hts htk hw
          go_upto_region 12 with fail
          clear ht' ct hwn
          have HLit : Hid _ := lit_form sb wr
          rw [HSB.out] at HLit
          go_wp2_with fail
          refine Calls.mono HLit.out ?_
          rintro e w3 ⟨la, lc, rfl, ho3, hb3⟩
          have HB3 : Hid (Below wr.heap.size wr w3) := hb3
          have HCal : Hid (Calls Tryd.prog 15 #[.int .i64 21, .int .i64 0, str [], .slice (some ⟨w3.heap.size, 0, none⟩) 1 1] (w3.alloc (.cells #[.slice la 1 lc] 22)) fun e w' => ∃ ad cap, e = .returned (.slice ad (callL S).length cap) ∧ NdOwn w' w3.heap.size (.slice ad (callL S).length cap) (callL S) ∧ Below w3.heap.size w3 w') := new_cells 21 0 [] [(.slice la 1 lc, [litN S])] 1 #[.slice la 1 lc] w3 rfl rfl (fun p hp => by rw [List.mem_singleton] at hp; subst hp; exact ho3.at) (by simp) (show (List.flatten [[litN S]]).length ≤ 100000 by simp)
          clear ho3 hb3 HLit
          go_wp2_with fail
          refine Calls.mono HCal.out ?_
          rintro e w4 ⟨xa, xc, rfl, ho4, hb4⟩
          obtain ⟨gx, xcp, hxv, _, _⟩ := owns_some ho4 (by simp [callL, newN])
          injection hxv with e1 e2 e3
          subst e1
          subst e3
          clear e2
          have hb34 : Below wr.heap.size wr w4 := HB3.out.trans (hb4.mono HB3.out.size)
          have HB4 : Hid (Below wr.heap.size wr w4) := hb34
          have HO4 : Hid (NdOwn w4 W.heap.size (.slice (some ⟨gx, 0, none⟩) (callL S).length xc) (callL S)) := owns_lower ho4 (by have := HB3.out.size; omega)
          have HK4 : Hid (KS W.heap.size w4 cs i i (.slice aa Ka.length ca) (.slice ak Kk.length ck) Ka Kk) := HKS.out.below hb34
          have HN4 : Hid (NdOwn w4 W.heap.size (.slice (some ⟨gn, 0, none⟩) 1 nc) nopL) := HNp.out.below hb34
          have cz4 := HCZ.out w4 hb34
          have hz4 : W.heap.size ≤ w4.heap.size := by have := hb34.size; omega
          clear ho4 hb4 hb34 HCal
          have HL5 : Hid _ := lit_form sb w4
          rw [HSB.out] at HL5
          go_wp2_with fail
          refine Calls.mono HL5.out ?_
          rintro e w5 ⟨ma, mc, rfl, ho5, hb5⟩
          have HB5 : Hid (Below wr.heap.size wr w5) := HB4.out.trans (hb5.mono HB4.out.size)
          have HO5 : Hid (NdOwn w5 w4.heap.size (.slice ma 1 mc) [litN S]) := ho5
          have HK5 : Hid (KS W.heap.size w5 cs i i (.slice aa Ka.length ca) (.slice ak Kk.length ck) Ka Kk) := HK4.out.below hb5
          have HN5 : Hid (NdOwn w5 W.heap.size (.slice (some ⟨gn, 0, none⟩) 1 nc) nopL) := HN4.out.below hb5
          have hz5 : W.heap.size ≤ w5.heap.size := by have := hb5.size; omega
          clear ho5 hb5 HL5
          have HNw : Hid (Calls Tryd.prog 15 #[.int .i64 33, .int .i64 2, str [], .slice (some ⟨w5.heap.size, 0, none⟩) 2 2] (w5.alloc (.cells #[.slice ma 1 mc, .slice (some ⟨gn, 0, none⟩) 1 nc] 22)) fun e w' => ∃ ad cap, e = .returned (.slice ad (newN 33 2 [] [[litN S], nopL]).length cap) ∧ NdOwn w' w5.heap.size (.slice ad (newN 33 2 [] [[litN S], nopL]).length cap) (newN 33 2 [] [[litN S], nopL]) ∧ Below w5.heap.size w5 w') := new_cells 33 2 [] [(.slice ma 1 mc, [litN S]), (.slice (some ⟨gn, 0, none⟩) 1 nc, nopL)] 2 #[.slice ma 1 mc, .slice (some ⟨gn, 0, none⟩) 1 nc] w5 rfl rfl (fun p hp => by simp only [List.mem_cons, List.not_mem_nil, or_false] at hp; rcases hp with rfl | rfl <;> first | exact HO5.out.at | exact HN5.out.at) (by simp) (show (List.flatten [[litN S], nopL]).length ≤ 100000 by simp [callL, nopL, newN])
          go_wp2_with fail
          refine Calls.mono HNw.out ?_
          rintro e w6 ⟨ya, yc, rfl, ho6, hb6⟩
          obtain ⟨gy, ycp, hyv, _, _⟩ := owns_some ho6 (by simp [newN])
          injection hyv with e1 e2 e3
          subst e1
          subst e3
          clear e2
          have HO6 : Hid (NdOwn w6 W.heap.size (.slice (some ⟨gy, 0, none⟩) (newN 33 2 [] [[litN S], nopL]).length yc) (newN 33 2 [] [[litN S], nopL])) := owns_lower ho6 hz5
          have HB6 : Hid (Below wr.heap.size wr w6) := HB5.out.trans (hb6.mono HB5.out.size)
          have HK6 : Hid (KS W.heap.size w6 cs i i (.slice aa Ka.length ca) (.slice ak Kk.length ck) Ka Kk) := HK5.out.below hb6
          have HN6 : Hid (NdOwn w6 W.heap.size (.slice (some ⟨gn, 0, none⟩) 1 nc) nopL) := HN5.out.below hb6
          have hz6 : W.heap.size ≤ w6.heap.size := by have := hb6.size; omega
          clear ho6 hb6 HNw
          have HXX : Hid (cs[i]? = some (newN 33 2 [] [[litN S], nopL])) := HX.out
          have hxl : (0 : Int) < (((newN 33 2 [] [[litN S], nopL]).length : Nat) : Int) := by
            have : 0 < (newN 33 2 [] [[litN S], nopL]).length := by simp [nopL, callL, newN]
            omega
          have HXO : Hid (NdOwn w6 W.heap.size (.slice (some ⟨gy, 0, none⟩) (newN 33 2 [] [[litN S], nopL]).length yc) (newN 33 2 [] [[litN S], nopL])) := HO6.out
          go_upto_region 23 with (at_builtin; refine wpList_append_own_at _ rfl _ _ 36 rfl W.heap.size 22 i0 _ 1 24 Tryd.underlying36 hi0 hz0 hz1 hz2 rfl (by decide) _ Ka.length _ rfl (World.ownsRow.alloc HK6.out.ra _) ⟨w6.heap.size, 0, none⟩ 1 1 [.slice (some ⟨gy, 0, none⟩) (newN 33 2 [] [[litN S], nopL]).length yc] rfl rfl (cells_new w6 _ 22) (slice_one _ ⟨_, _, _, rfl⟩) (by have := maxLen_big; omega) (by omega) (by simp; omega) ?_; intro v7 w7 hownw7 hgroww7 _ hblkw7; obtain ⟨a7, c7, rfl⟩ := owns_slice hownw7; obtain ⟨hks7, hx7, hb7⟩ := HK6.out.all hz6 _ HXO.out HXX.out hownw7 hgroww7 hblkw7; have k7 : w7.cell? ⟨gy, 0, none⟩ = some (.int .i64 33) := own_kind hx7 (by simp [nopL, callL, newN]))
          have HK7 : Hid (KS W.heap.size w7 cs (i + 1) i (.slice a7 (Ka.length + 1) c7) (.slice ak Kk.length ck) (Ka ++ [(.slice (some ⟨gy, 0, none⟩) (newN 33 2 [] [[litN S], nopL]).length yc, newN 33 2 [] [[litN S], nopL])]) Kk) := hks7
          have HX7 : Hid (NdOwn w7 W.heap.size (.slice (some ⟨gy, 0, none⟩) (newN 33 2 [] [[litN S], nopL]).length yc) (newN 33 2 [] [[litN S], nopL])) := hx7
          have HB7 : Hid (Below W.heap.size w6 w7) := hb7
          have HN7 : Hid (NdOwn w7 W.heap.size (.slice (some ⟨gn, 0, none⟩) 1 nc) nopL) := (HN6.out.below (below_new _ (.cells #[.slice (some ⟨gy, 0, none⟩) (newN 33 2 [] [[litN S], nopL]).length yc] 22))).grownK (World.ownsRow.alloc HK6.out.ra _) hgroww7
          have hz7 : W.heap.size ≤ w7.heap.size := by have := hb7.size; omega
          clear hks7 hx7 hb7 hownw7 hgroww7 hblkw7
          go_wp2_with (at_builtin; refine wpList_append_own_at _ rfl _ _ 36 rfl W.heap.size 22 i0 _ 1 24 Tryd.underlying36 hi0 hz0 hz1 hz2 rfl (by decide) _ Kk.length _ rfl (World.ownsRow.alloc HK7.out.rk _) ⟨w7.heap.size, 0, none⟩ 1 1 [.slice (some ⟨gy, 0, none⟩) (newN 33 2 [] [[litN S], nopL]).length yc] rfl rfl (cells_new w7 _ 22) (slice_one _ ⟨_, _, _, rfl⟩) (by have := maxLen_big; omega) (by omega) (by simp; omega) ?_; intro v8 w8 hownw8 hgroww8 _ hblkw8; obtain ⟨a8, c8, rfl⟩ := owns_slice hownw8)
          obtain ⟨hks8, hb8⟩ := HK7.out.more hz7 _ HX7.out HXX.out (Or.inl (by simp [kindOf_new, callL])) hownw8 hgroww8 hblkw8
          have hn8 : NdOwn w8 W.heap.size (.slice (some ⟨gn, 0, none⟩) 1 nc) nopL := (HN7.out.below (below_new _ (.cells #[.slice (some ⟨gy, 0, none⟩) (newN 33 2 [] [[litN S], nopL]).length yc] 22))).grownK (World.ownsRow.alloc HK7.out.rk _) hgroww8
          exact ⟨⟨i + 1, _, _, by simp, by omega, by simpa [Hid] using hks8, hn8, HB.out.trans (((HB6.out.mono hws).trans HB7.out).trans hb8)⟩, by simp [intOf]; omega⟩
      · have h59 : (wrap64 (z.tmod 5 + 5)).tmod 5 = 2 := by rw [wrap5]; exact hr
        rw [hr] at hX0
        obtain ⟨S, hS⟩ : ∃ S, S = sOf ns i := ⟨_, rfl⟩
        rw [← hS] at hX0
        have HX : Hid (cs[i]? = some (keepC 2 S)) := hX0
        clear hX0 hr
        have hSB : ∃ sb : ByteArray, sb.data.toList = S ∧ ((sb = ⟨#[119]⟩ ∧ ns.length ≤ i) ∨ ∃ t, ns[i]? = some t ∧ ((sb = ⟨#[119]⟩ ∧ ¬ t.length ≤ 100) ∨ (sb = ⟨t.toArray⟩ ∧ t.length ≤ 100))) := by
          rw [hS]
          exact sOf_cases ns i
        obtain ⟨sb, hsb, hways⟩ := hSB
        have HSB : Hid (sb.data.toList = S) := hsb
        clear hS hsb
        rcases hways with ⟨hsb, hw⟩ | ⟨t, htk, ⟨hsb, hw⟩ | ⟨hsb, hw⟩⟩
        · have hw' : ¬ (i : Int) < (ns.length : Int) := by omega
          go_upto_region 12 with fail
          rw [← hsb]
          clear hsb hw hw'
          have HLit : Hid _ := lit_form sb wr
          rw [HSB.out] at HLit
          go_wp2_with fail
          refine Calls.mono HLit.out ?_
          rintro e w3 ⟨la, lc, rfl, ho3, hb3⟩
          have HB3 : Hid (Below wr.heap.size wr w3) := hb3
          have HCal : Hid (Calls Tryd.prog 15 #[.int .i64 21, .int .i64 0, str [], .slice (some ⟨w3.heap.size, 0, none⟩) 1 1] (w3.alloc (.cells #[.slice la 1 lc] 22)) fun e w' => ∃ ad cap, e = .returned (.slice ad (callL S).length cap) ∧ NdOwn w' w3.heap.size (.slice ad (callL S).length cap) (callL S) ∧ Below w3.heap.size w3 w') := new_cells 21 0 [] [(.slice la 1 lc, [litN S])] 1 #[.slice la 1 lc] w3 rfl rfl (fun p hp => by rw [List.mem_singleton] at hp; subst hp; exact ho3.at) (by simp) (show (List.flatten [[litN S]]).length ≤ 100000 by simp)
          clear ho3 hb3 HLit
          go_wp2_with fail
          refine Calls.mono HCal.out ?_
          rintro e w4 ⟨xa, xc, rfl, ho4, hb4⟩
          obtain ⟨gx, xcp, hxv, _, _⟩ := owns_some ho4 (by simp [callL, newN])
          injection hxv with e1 e2 e3
          subst e1
          subst e3
          clear e2
          have hb34 : Below wr.heap.size wr w4 := HB3.out.trans (hb4.mono HB3.out.size)
          have HB4 : Hid (Below wr.heap.size wr w4) := hb34
          have HO4 : Hid (NdOwn w4 W.heap.size (.slice (some ⟨gx, 0, none⟩) (callL S).length xc) (callL S)) := owns_lower ho4 (by have := HB3.out.size; omega)
          have HK4 : Hid (KS W.heap.size w4 cs i i (.slice aa Ka.length ca) (.slice ak Kk.length ck) Ka Kk) := HKS.out.below hb34
          have HN4 : Hid (NdOwn w4 W.heap.size (.slice (some ⟨gn, 0, none⟩) 1 nc) nopL) := HNp.out.below hb34
          have cz4 := HCZ.out w4 hb34
          have hz4 : W.heap.size ≤ w4.heap.size := by have := hb34.size; omega
          clear ho4 hb4 hb34 HCal
          have HNw : Hid (Calls Tryd.prog 15 #[.int .i64 32, .int .i64 0, str [], .slice (some ⟨w4.heap.size, 0, none⟩) 2 2] (w4.alloc (.cells #[.slice (some ⟨gx, 0, none⟩) (callL S).length xc, .slice (some ⟨gn, 0, none⟩) 1 nc] 22)) fun e w' => ∃ ad cap, e = .returned (.slice ad (newN 32 0 [] [callL S, nopL]).length cap) ∧ NdOwn w' w4.heap.size (.slice ad (newN 32 0 [] [callL S, nopL]).length cap) (newN 32 0 [] [callL S, nopL]) ∧ Below w4.heap.size w4 w') := new_cells 32 0 [] [(.slice (some ⟨gx, 0, none⟩) (callL S).length xc, callL S), (.slice (some ⟨gn, 0, none⟩) 1 nc, nopL)] 2 #[.slice (some ⟨gx, 0, none⟩) (callL S).length xc, .slice (some ⟨gn, 0, none⟩) 1 nc] w4 rfl rfl (fun p hp => by simp only [List.mem_cons, List.not_mem_nil, or_false] at hp; rcases hp with rfl | rfl <;> first | exact HO4.out.at | exact HN4.out.at) (by simp) (show (List.flatten [callL S, nopL]).length ≤ 100000 by simp [callL, nopL, newN])
          go_wp2_with fail
          refine Calls.mono HNw.out ?_
          rintro e w6 ⟨ya, yc, rfl, ho6, hb6⟩
          obtain ⟨gy, ycp, hyv, _, _⟩ := owns_some ho6 (by simp [newN])
          injection hyv with e1 e2 e3
          subst e1
          subst e3
          clear e2
          have HO6 : Hid (NdOwn w6 W.heap.size (.slice (some ⟨gy, 0, none⟩) (newN 32 0 [] [callL S, nopL]).length yc) (newN 32 0 [] [callL S, nopL])) := owns_lower ho6 hz4
          have HB6 : Hid (Below wr.heap.size wr w6) := HB4.out.trans (hb6.mono HB4.out.size)
          have HK6 : Hid (KS W.heap.size w6 cs i i (.slice aa Ka.length ca) (.slice ak Kk.length ck) Ka Kk) := HK4.out.below hb6
          have HN6 : Hid (NdOwn w6 W.heap.size (.slice (some ⟨gn, 0, none⟩) 1 nc) nopL) := HN4.out.below hb6
          have hz6 : W.heap.size ≤ w6.heap.size := by have := hb6.size; omega
          clear ho6 hb6 HNw
          have HXX : Hid (cs[i]? = some (newN 32 0 [] [callL S, nopL])) := HX.out
          have hxl : (0 : Int) < (((newN 32 0 [] [callL S, nopL]).length : Nat) : Int) := by
            have : 0 < (newN 32 0 [] [callL S, nopL]).length := by simp [nopL, callL, newN]
            omega
          have HXO : Hid (NdOwn w6 W.heap.size (.slice (some ⟨gy, 0, none⟩) (newN 32 0 [] [callL S, nopL]).length yc) (newN 32 0 [] [callL S, nopL])) := HO6.out
          go_upto_region 23 with (at_builtin; refine wpList_append_own_at _ rfl _ _ 36 rfl W.heap.size 22 i0 _ 1 24 Tryd.underlying36 hi0 hz0 hz1 hz2 rfl (by decide) _ Ka.length _ rfl (World.ownsRow.alloc HK6.out.ra _) ⟨w6.heap.size, 0, none⟩ 1 1 [.slice (some ⟨gy, 0, none⟩) (newN 32 0 [] [callL S, nopL]).length yc] rfl rfl (cells_new w6 _ 22) (slice_one _ ⟨_, _, _, rfl⟩) (by have := maxLen_big; omega) (by omega) (by simp; omega) ?_; intro v7 w7 hownw7 hgroww7 _ hblkw7; obtain ⟨a7, c7, rfl⟩ := owns_slice hownw7; obtain ⟨hks7, hx7, hb7⟩ := HK6.out.all hz6 _ HXO.out HXX.out hownw7 hgroww7 hblkw7; have k7 : w7.cell? ⟨gy, 0, none⟩ = some (.int .i64 32) := own_kind hx7 (by simp [nopL, callL, newN]))
          have HK7 : Hid (KS W.heap.size w7 cs (i + 1) i (.slice a7 (Ka.length + 1) c7) (.slice ak Kk.length ck) (Ka ++ [(.slice (some ⟨gy, 0, none⟩) (newN 32 0 [] [callL S, nopL]).length yc, newN 32 0 [] [callL S, nopL])]) Kk) := hks7
          have HX7 : Hid (NdOwn w7 W.heap.size (.slice (some ⟨gy, 0, none⟩) (newN 32 0 [] [callL S, nopL]).length yc) (newN 32 0 [] [callL S, nopL])) := hx7
          have HB7 : Hid (Below W.heap.size w6 w7) := hb7
          have HN7 : Hid (NdOwn w7 W.heap.size (.slice (some ⟨gn, 0, none⟩) 1 nc) nopL) := (HN6.out.below (below_new _ (.cells #[.slice (some ⟨gy, 0, none⟩) (newN 32 0 [] [callL S, nopL]).length yc] 22))).grownK (World.ownsRow.alloc HK6.out.ra _) hgroww7
          have hz7 : W.heap.size ≤ w7.heap.size := by have := hb7.size; omega
          clear hks7 hx7 hb7 hownw7 hgroww7 hblkw7
          go_wp2_with (at_builtin; refine wpList_append_own_at _ rfl _ _ 36 rfl W.heap.size 22 i0 _ 1 24 Tryd.underlying36 hi0 hz0 hz1 hz2 rfl (by decide) _ Kk.length _ rfl (World.ownsRow.alloc HK7.out.rk _) ⟨w7.heap.size, 0, none⟩ 1 1 [.slice (some ⟨gy, 0, none⟩) (newN 32 0 [] [callL S, nopL]).length yc] rfl rfl (cells_new w7 _ 22) (slice_one _ ⟨_, _, _, rfl⟩) (by have := maxLen_big; omega) (by omega) (by simp; omega) ?_; intro v8 w8 hownw8 hgroww8 _ hblkw8; obtain ⟨a8, c8, rfl⟩ := owns_slice hownw8)
          obtain ⟨hks8, hb8⟩ := HK7.out.more hz7 _ HX7.out HXX.out (Or.inl (by simp [kindOf_new, callL])) hownw8 hgroww8 hblkw8
          have hn8 : NdOwn w8 W.heap.size (.slice (some ⟨gn, 0, none⟩) 1 nc) nopL := (HN7.out.below (below_new _ (.cells #[.slice (some ⟨gy, 0, none⟩) (newN 32 0 [] [callL S, nopL]).length yc] 22))).grownK (World.ownsRow.alloc HK7.out.rk _) hgroww8
          exact ⟨⟨i + 1, _, _, by simp, by omega, by simpa [Hid] using hks8, hn8, HB.out.trans (((HB6.out.mono hws).trans HB7.out).trans hb8)⟩, by simp [intOf]; omega⟩
        · obtain ⟨g2, o2, c2', hv, hg2, ct⟩ := (H2.out wr HB.out).get htk
          injection hv with e1 e2 e3
          subst e1
          subst e3
          clear e2
          have hwn : (i : Int) < (ns.length : Int) := by have := (List.getElem?_eq_some_iff.1 htk).1; omega
          obtain ⟨tb, htb⟩ : ∃ tb : ByteArray, tb = ⟨t.toArray⟩ := ⟨_, rfl⟩
          have hts : tb.size = t.length := by rw [htb]; simp [ByteArray.size]
          rw [← htb] at ct
          have ht' : ¬ ((tb.size : Nat) : Int) ≤ 100 := by omega
          clear htb hts htk hw
          go_upto_region 12 with fail
          rw [← hsb]
          clear hsb
          clear ht' ct hwn
          have HLit : Hid _ := lit_form sb wr
          rw [HSB.out] at HLit
          go_wp2_with fail
          refine Calls.mono HLit.out ?_
          rintro e w3 ⟨la, lc, rfl, ho3, hb3⟩
          have HB3 : Hid (Below wr.heap.size wr w3) := hb3
          have HCal : Hid (Calls Tryd.prog 15 #[.int .i64 21, .int .i64 0, str [], .slice (some ⟨w3.heap.size, 0, none⟩) 1 1] (w3.alloc (.cells #[.slice la 1 lc] 22)) fun e w' => ∃ ad cap, e = .returned (.slice ad (callL S).length cap) ∧ NdOwn w' w3.heap.size (.slice ad (callL S).length cap) (callL S) ∧ Below w3.heap.size w3 w') := new_cells 21 0 [] [(.slice la 1 lc, [litN S])] 1 #[.slice la 1 lc] w3 rfl rfl (fun p hp => by rw [List.mem_singleton] at hp; subst hp; exact ho3.at) (by simp) (show (List.flatten [[litN S]]).length ≤ 100000 by simp)
          clear ho3 hb3 HLit
          go_wp2_with fail
          refine Calls.mono HCal.out ?_
          rintro e w4 ⟨xa, xc, rfl, ho4, hb4⟩
          obtain ⟨gx, xcp, hxv, _, _⟩ := owns_some ho4 (by simp [callL, newN])
          injection hxv with e1 e2 e3
          subst e1
          subst e3
          clear e2
          have hb34 : Below wr.heap.size wr w4 := HB3.out.trans (hb4.mono HB3.out.size)
          have HB4 : Hid (Below wr.heap.size wr w4) := hb34
          have HO4 : Hid (NdOwn w4 W.heap.size (.slice (some ⟨gx, 0, none⟩) (callL S).length xc) (callL S)) := owns_lower ho4 (by have := HB3.out.size; omega)
          have HK4 : Hid (KS W.heap.size w4 cs i i (.slice aa Ka.length ca) (.slice ak Kk.length ck) Ka Kk) := HKS.out.below hb34
          have HN4 : Hid (NdOwn w4 W.heap.size (.slice (some ⟨gn, 0, none⟩) 1 nc) nopL) := HNp.out.below hb34
          have cz4 := HCZ.out w4 hb34
          have hz4 : W.heap.size ≤ w4.heap.size := by have := hb34.size; omega
          clear ho4 hb4 hb34 HCal
          have HNw : Hid (Calls Tryd.prog 15 #[.int .i64 32, .int .i64 0, str [], .slice (some ⟨w4.heap.size, 0, none⟩) 2 2] (w4.alloc (.cells #[.slice (some ⟨gx, 0, none⟩) (callL S).length xc, .slice (some ⟨gn, 0, none⟩) 1 nc] 22)) fun e w' => ∃ ad cap, e = .returned (.slice ad (newN 32 0 [] [callL S, nopL]).length cap) ∧ NdOwn w' w4.heap.size (.slice ad (newN 32 0 [] [callL S, nopL]).length cap) (newN 32 0 [] [callL S, nopL]) ∧ Below w4.heap.size w4 w') := new_cells 32 0 [] [(.slice (some ⟨gx, 0, none⟩) (callL S).length xc, callL S), (.slice (some ⟨gn, 0, none⟩) 1 nc, nopL)] 2 #[.slice (some ⟨gx, 0, none⟩) (callL S).length xc, .slice (some ⟨gn, 0, none⟩) 1 nc] w4 rfl rfl (fun p hp => by simp only [List.mem_cons, List.not_mem_nil, or_false] at hp; rcases hp with rfl | rfl <;> first | exact HO4.out.at | exact HN4.out.at) (by simp) (show (List.flatten [callL S, nopL]).length ≤ 100000 by simp [callL, nopL, newN])
          go_wp2_with fail
          refine Calls.mono HNw.out ?_
          rintro e w6 ⟨ya, yc, rfl, ho6, hb6⟩
          obtain ⟨gy, ycp, hyv, _, _⟩ := owns_some ho6 (by simp [newN])
          injection hyv with e1 e2 e3
          subst e1
          subst e3
          clear e2
          have HO6 : Hid (NdOwn w6 W.heap.size (.slice (some ⟨gy, 0, none⟩) (newN 32 0 [] [callL S, nopL]).length yc) (newN 32 0 [] [callL S, nopL])) := owns_lower ho6 hz4
          have HB6 : Hid (Below wr.heap.size wr w6) := HB4.out.trans (hb6.mono HB4.out.size)
          have HK6 : Hid (KS W.heap.size w6 cs i i (.slice aa Ka.length ca) (.slice ak Kk.length ck) Ka Kk) := HK4.out.below hb6
          have HN6 : Hid (NdOwn w6 W.heap.size (.slice (some ⟨gn, 0, none⟩) 1 nc) nopL) := HN4.out.below hb6
          have hz6 : W.heap.size ≤ w6.heap.size := by have := hb6.size; omega
          clear ho6 hb6 HNw
          have HXX : Hid (cs[i]? = some (newN 32 0 [] [callL S, nopL])) := HX.out
          have hxl : (0 : Int) < (((newN 32 0 [] [callL S, nopL]).length : Nat) : Int) := by
            have : 0 < (newN 32 0 [] [callL S, nopL]).length := by simp [nopL, callL, newN]
            omega
          have HXO : Hid (NdOwn w6 W.heap.size (.slice (some ⟨gy, 0, none⟩) (newN 32 0 [] [callL S, nopL]).length yc) (newN 32 0 [] [callL S, nopL])) := HO6.out
          go_upto_region 23 with (at_builtin; refine wpList_append_own_at _ rfl _ _ 36 rfl W.heap.size 22 i0 _ 1 24 Tryd.underlying36 hi0 hz0 hz1 hz2 rfl (by decide) _ Ka.length _ rfl (World.ownsRow.alloc HK6.out.ra _) ⟨w6.heap.size, 0, none⟩ 1 1 [.slice (some ⟨gy, 0, none⟩) (newN 32 0 [] [callL S, nopL]).length yc] rfl rfl (cells_new w6 _ 22) (slice_one _ ⟨_, _, _, rfl⟩) (by have := maxLen_big; omega) (by omega) (by simp; omega) ?_; intro v7 w7 hownw7 hgroww7 _ hblkw7; obtain ⟨a7, c7, rfl⟩ := owns_slice hownw7; obtain ⟨hks7, hx7, hb7⟩ := HK6.out.all hz6 _ HXO.out HXX.out hownw7 hgroww7 hblkw7; have k7 : w7.cell? ⟨gy, 0, none⟩ = some (.int .i64 32) := own_kind hx7 (by simp [nopL, callL, newN]))
          have HK7 : Hid (KS W.heap.size w7 cs (i + 1) i (.slice a7 (Ka.length + 1) c7) (.slice ak Kk.length ck) (Ka ++ [(.slice (some ⟨gy, 0, none⟩) (newN 32 0 [] [callL S, nopL]).length yc, newN 32 0 [] [callL S, nopL])]) Kk) := hks7
          have HX7 : Hid (NdOwn w7 W.heap.size (.slice (some ⟨gy, 0, none⟩) (newN 32 0 [] [callL S, nopL]).length yc) (newN 32 0 [] [callL S, nopL])) := hx7
          have HB7 : Hid (Below W.heap.size w6 w7) := hb7
          have HN7 : Hid (NdOwn w7 W.heap.size (.slice (some ⟨gn, 0, none⟩) 1 nc) nopL) := (HN6.out.below (below_new _ (.cells #[.slice (some ⟨gy, 0, none⟩) (newN 32 0 [] [callL S, nopL]).length yc] 22))).grownK (World.ownsRow.alloc HK6.out.ra _) hgroww7
          have hz7 : W.heap.size ≤ w7.heap.size := by have := hb7.size; omega
          clear hks7 hx7 hb7 hownw7 hgroww7 hblkw7
          go_wp2_with (at_builtin; refine wpList_append_own_at _ rfl _ _ 36 rfl W.heap.size 22 i0 _ 1 24 Tryd.underlying36 hi0 hz0 hz1 hz2 rfl (by decide) _ Kk.length _ rfl (World.ownsRow.alloc HK7.out.rk _) ⟨w7.heap.size, 0, none⟩ 1 1 [.slice (some ⟨gy, 0, none⟩) (newN 32 0 [] [callL S, nopL]).length yc] rfl rfl (cells_new w7 _ 22) (slice_one _ ⟨_, _, _, rfl⟩) (by have := maxLen_big; omega) (by omega) (by simp; omega) ?_; intro v8 w8 hownw8 hgroww8 _ hblkw8; obtain ⟨a8, c8, rfl⟩ := owns_slice hownw8)
          obtain ⟨hks8, hb8⟩ := HK7.out.more hz7 _ HX7.out HXX.out (Or.inl (by simp [kindOf_new, callL])) hownw8 hgroww8 hblkw8
          have hn8 : NdOwn w8 W.heap.size (.slice (some ⟨gn, 0, none⟩) 1 nc) nopL := (HN7.out.below (below_new _ (.cells #[.slice (some ⟨gy, 0, none⟩) (newN 32 0 [] [callL S, nopL]).length yc] 22))).grownK (World.ownsRow.alloc HK7.out.rk _) hgroww8
          exact ⟨⟨i + 1, _, _, by simp, by omega, by simpa [Hid] using hks8, hn8, HB.out.trans (((HB6.out.mono hws).trans HB7.out).trans hb8)⟩, by simp [intOf]; omega⟩
        · obtain ⟨g2, o2, c2', hv, hg2, ct⟩ := (H2.out wr HB.out).get htk
          injection hv with e1 e2 e3
          subst e1
          subst e3
          clear e2
          have hwn : (i : Int) < (ns.length : Int) := by have := (List.getElem?_eq_some_iff.1 htk).1; omega
          obtain ⟨tb, htb⟩ : ∃ tb : ByteArray, tb = ⟨t.toArray⟩ := ⟨_, rfl⟩
          have hts : tb.size = t.length := by rw [htb]; simp [ByteArray.size]
          rw [← htb] at ct
          rw [← htb] at hsb
          subst hsb
          have ht' : ((sb.size : Nat) : Int) ≤ 100 := by omega
          clear htb hts htk hw
          go_upto_region 12 with fail
          clear ht' ct hwn
          have HLit : Hid _ := lit_form sb wr
          rw [HSB.out] at HLit
          go_wp2_with fail
          refine Calls.mono HLit.out ?_
          rintro e w3 ⟨la, lc, rfl, ho3, hb3⟩
          have HB3 : Hid (Below wr.heap.size wr w3) := hb3
          have HCal : Hid (Calls Tryd.prog 15 #[.int .i64 21, .int .i64 0, str [], .slice (some ⟨w3.heap.size, 0, none⟩) 1 1] (w3.alloc (.cells #[.slice la 1 lc] 22)) fun e w' => ∃ ad cap, e = .returned (.slice ad (callL S).length cap) ∧ NdOwn w' w3.heap.size (.slice ad (callL S).length cap) (callL S) ∧ Below w3.heap.size w3 w') := new_cells 21 0 [] [(.slice la 1 lc, [litN S])] 1 #[.slice la 1 lc] w3 rfl rfl (fun p hp => by rw [List.mem_singleton] at hp; subst hp; exact ho3.at) (by simp) (show (List.flatten [[litN S]]).length ≤ 100000 by simp)
          clear ho3 hb3 HLit
          go_wp2_with fail
          refine Calls.mono HCal.out ?_
          rintro e w4 ⟨xa, xc, rfl, ho4, hb4⟩
          obtain ⟨gx, xcp, hxv, _, _⟩ := owns_some ho4 (by simp [callL, newN])
          injection hxv with e1 e2 e3
          subst e1
          subst e3
          clear e2
          have hb34 : Below wr.heap.size wr w4 := HB3.out.trans (hb4.mono HB3.out.size)
          have HB4 : Hid (Below wr.heap.size wr w4) := hb34
          have HO4 : Hid (NdOwn w4 W.heap.size (.slice (some ⟨gx, 0, none⟩) (callL S).length xc) (callL S)) := owns_lower ho4 (by have := HB3.out.size; omega)
          have HK4 : Hid (KS W.heap.size w4 cs i i (.slice aa Ka.length ca) (.slice ak Kk.length ck) Ka Kk) := HKS.out.below hb34
          have HN4 : Hid (NdOwn w4 W.heap.size (.slice (some ⟨gn, 0, none⟩) 1 nc) nopL) := HNp.out.below hb34
          have cz4 := HCZ.out w4 hb34
          have hz4 : W.heap.size ≤ w4.heap.size := by have := hb34.size; omega
          clear ho4 hb4 hb34 HCal
          have HNw : Hid (Calls Tryd.prog 15 #[.int .i64 32, .int .i64 0, str [], .slice (some ⟨w4.heap.size, 0, none⟩) 2 2] (w4.alloc (.cells #[.slice (some ⟨gx, 0, none⟩) (callL S).length xc, .slice (some ⟨gn, 0, none⟩) 1 nc] 22)) fun e w' => ∃ ad cap, e = .returned (.slice ad (newN 32 0 [] [callL S, nopL]).length cap) ∧ NdOwn w' w4.heap.size (.slice ad (newN 32 0 [] [callL S, nopL]).length cap) (newN 32 0 [] [callL S, nopL]) ∧ Below w4.heap.size w4 w') := new_cells 32 0 [] [(.slice (some ⟨gx, 0, none⟩) (callL S).length xc, callL S), (.slice (some ⟨gn, 0, none⟩) 1 nc, nopL)] 2 #[.slice (some ⟨gx, 0, none⟩) (callL S).length xc, .slice (some ⟨gn, 0, none⟩) 1 nc] w4 rfl rfl (fun p hp => by simp only [List.mem_cons, List.not_mem_nil, or_false] at hp; rcases hp with rfl | rfl <;> first | exact HO4.out.at | exact HN4.out.at) (by simp) (show (List.flatten [callL S, nopL]).length ≤ 100000 by simp [callL, nopL, newN])
          go_wp2_with fail
          refine Calls.mono HNw.out ?_
          rintro e w6 ⟨ya, yc, rfl, ho6, hb6⟩
          obtain ⟨gy, ycp, hyv, _, _⟩ := owns_some ho6 (by simp [newN])
          injection hyv with e1 e2 e3
          subst e1
          subst e3
          clear e2
          have HO6 : Hid (NdOwn w6 W.heap.size (.slice (some ⟨gy, 0, none⟩) (newN 32 0 [] [callL S, nopL]).length yc) (newN 32 0 [] [callL S, nopL])) := owns_lower ho6 hz4
          have HB6 : Hid (Below wr.heap.size wr w6) := HB4.out.trans (hb6.mono HB4.out.size)
          have HK6 : Hid (KS W.heap.size w6 cs i i (.slice aa Ka.length ca) (.slice ak Kk.length ck) Ka Kk) := HK4.out.below hb6
          have HN6 : Hid (NdOwn w6 W.heap.size (.slice (some ⟨gn, 0, none⟩) 1 nc) nopL) := HN4.out.below hb6
          have hz6 : W.heap.size ≤ w6.heap.size := by have := hb6.size; omega
          clear ho6 hb6 HNw
          have HXX : Hid (cs[i]? = some (newN 32 0 [] [callL S, nopL])) := HX.out
          have hxl : (0 : Int) < (((newN 32 0 [] [callL S, nopL]).length : Nat) : Int) := by
            have : 0 < (newN 32 0 [] [callL S, nopL]).length := by simp [nopL, callL, newN]
            omega
          have HXO : Hid (NdOwn w6 W.heap.size (.slice (some ⟨gy, 0, none⟩) (newN 32 0 [] [callL S, nopL]).length yc) (newN 32 0 [] [callL S, nopL])) := HO6.out
          go_upto_region 23 with (at_builtin; refine wpList_append_own_at _ rfl _ _ 36 rfl W.heap.size 22 i0 _ 1 24 Tryd.underlying36 hi0 hz0 hz1 hz2 rfl (by decide) _ Ka.length _ rfl (World.ownsRow.alloc HK6.out.ra _) ⟨w6.heap.size, 0, none⟩ 1 1 [.slice (some ⟨gy, 0, none⟩) (newN 32 0 [] [callL S, nopL]).length yc] rfl rfl (cells_new w6 _ 22) (slice_one _ ⟨_, _, _, rfl⟩) (by have := maxLen_big; omega) (by omega) (by simp; omega) ?_; intro v7 w7 hownw7 hgroww7 _ hblkw7; obtain ⟨a7, c7, rfl⟩ := owns_slice hownw7; obtain ⟨hks7, hx7, hb7⟩ := HK6.out.all hz6 _ HXO.out HXX.out hownw7 hgroww7 hblkw7; have k7 : w7.cell? ⟨gy, 0, none⟩ = some (.int .i64 32) := own_kind hx7 (by simp [nopL, callL, newN]))
          have HK7 : Hid (KS W.heap.size w7 cs (i + 1) i (.slice a7 (Ka.length + 1) c7) (.slice ak Kk.length ck) (Ka ++ [(.slice (some ⟨gy, 0, none⟩) (newN 32 0 [] [callL S, nopL]).length yc, newN 32 0 [] [callL S, nopL])]) Kk) := hks7
          have HX7 : Hid (NdOwn w7 W.heap.size (.slice (some ⟨gy, 0, none⟩) (newN 32 0 [] [callL S, nopL]).length yc) (newN 32 0 [] [callL S, nopL])) := hx7
          have HB7 : Hid (Below W.heap.size w6 w7) := hb7
          have HN7 : Hid (NdOwn w7 W.heap.size (.slice (some ⟨gn, 0, none⟩) 1 nc) nopL) := (HN6.out.below (below_new _ (.cells #[.slice (some ⟨gy, 0, none⟩) (newN 32 0 [] [callL S, nopL]).length yc] 22))).grownK (World.ownsRow.alloc HK6.out.ra _) hgroww7
          have hz7 : W.heap.size ≤ w7.heap.size := by have := hb7.size; omega
          clear hks7 hx7 hb7 hownw7 hgroww7 hblkw7
          go_wp2_with (at_builtin; refine wpList_append_own_at _ rfl _ _ 36 rfl W.heap.size 22 i0 _ 1 24 Tryd.underlying36 hi0 hz0 hz1 hz2 rfl (by decide) _ Kk.length _ rfl (World.ownsRow.alloc HK7.out.rk _) ⟨w7.heap.size, 0, none⟩ 1 1 [.slice (some ⟨gy, 0, none⟩) (newN 32 0 [] [callL S, nopL]).length yc] rfl rfl (cells_new w7 _ 22) (slice_one _ ⟨_, _, _, rfl⟩) (by have := maxLen_big; omega) (by omega) (by simp; omega) ?_; intro v8 w8 hownw8 hgroww8 _ hblkw8; obtain ⟨a8, c8, rfl⟩ := owns_slice hownw8)
          obtain ⟨hks8, hb8⟩ := HK7.out.more hz7 _ HX7.out HXX.out (Or.inl (by simp [kindOf_new, callL])) hownw8 hgroww8 hblkw8
          have hn8 : NdOwn w8 W.heap.size (.slice (some ⟨gn, 0, none⟩) 1 nc) nopL := (HN7.out.below (below_new _ (.cells #[.slice (some ⟨gy, 0, none⟩) (newN 32 0 [] [callL S, nopL]).length yc] 22))).grownK (World.ownsRow.alloc HK7.out.rk _) hgroww8
          exact ⟨⟨i + 1, _, _, by simp, by omega, by simpa [Hid] using hks8, hn8, HB.out.trans (((HB6.out.mono hws).trans HB7.out).trans hb8)⟩, by simp [intOf]; omega⟩
      · have h59 : (wrap64 (z.tmod 5 + 5)).tmod 5 = 3 := by rw [wrap5]; exact hr
        rw [hr] at hX0
        obtain ⟨S, hS⟩ : ∃ S, S = sOf ns i := ⟨_, rfl⟩
        rw [← hS] at hX0
        have HX : Hid (cs[i]? = some (keepC 3 S)) := hX0
        clear hX0 hr
        have hSB : ∃ sb : ByteArray, sb.data.toList = S ∧ ((sb = ⟨#[119]⟩ ∧ ns.length ≤ i) ∨ ∃ t, ns[i]? = some t ∧ ((sb = ⟨#[119]⟩ ∧ ¬ t.length ≤ 100) ∨ (sb = ⟨t.toArray⟩ ∧ t.length ≤ 100))) := by
          rw [hS]
          exact sOf_cases ns i
        obtain ⟨sb, hsb, hways⟩ := hSB
        have HSB : Hid (sb.data.toList = S) := hsb
        clear hS hsb
        rcases hways with ⟨hsb, hw⟩ | ⟨t, htk, ⟨hsb, hw⟩ | ⟨hsb, hw⟩⟩
        · have hw' : ¬ (i : Int) < (ns.length : Int) := by omega
          go_upto_region 12 with fail
          rw [← hsb]
          clear hsb hw hw'
          have HLit : Hid _ := lit_form sb wr
          rw [HSB.out] at HLit
          go_wp2_with fail
          refine Calls.mono HLit.out ?_
          rintro e w3 ⟨la, lc, rfl, ho3, hb3⟩
          have HB3 : Hid (Below wr.heap.size wr w3) := hb3
          have HCal : Hid (Calls Tryd.prog 15 #[.int .i64 21, .int .i64 0, str [], .slice (some ⟨w3.heap.size, 0, none⟩) 1 1] (w3.alloc (.cells #[.slice la 1 lc] 22)) fun e w' => ∃ ad cap, e = .returned (.slice ad (callL S).length cap) ∧ NdOwn w' w3.heap.size (.slice ad (callL S).length cap) (callL S) ∧ Below w3.heap.size w3 w') := new_cells 21 0 [] [(.slice la 1 lc, [litN S])] 1 #[.slice la 1 lc] w3 rfl rfl (fun p hp => by rw [List.mem_singleton] at hp; subst hp; exact ho3.at) (by simp) (show (List.flatten [[litN S]]).length ≤ 100000 by simp)
          clear ho3 hb3 HLit
          go_wp2_with fail
          refine Calls.mono HCal.out ?_
          rintro e w4 ⟨xa, xc, rfl, ho4, hb4⟩
          obtain ⟨gx, xcp, hxv, _, _⟩ := owns_some ho4 (by simp [callL, newN])
          injection hxv with e1 e2 e3
          subst e1
          subst e3
          clear e2
          have hb34 : Below wr.heap.size wr w4 := HB3.out.trans (hb4.mono HB3.out.size)
          have HB4 : Hid (Below wr.heap.size wr w4) := hb34
          have HO4 : Hid (NdOwn w4 W.heap.size (.slice (some ⟨gx, 0, none⟩) (callL S).length xc) (callL S)) := owns_lower ho4 (by have := HB3.out.size; omega)
          have HK4 : Hid (KS W.heap.size w4 cs i i (.slice aa Ka.length ca) (.slice ak Kk.length ck) Ka Kk) := HKS.out.below hb34
          have HN4 : Hid (NdOwn w4 W.heap.size (.slice (some ⟨gn, 0, none⟩) 1 nc) nopL) := HNp.out.below hb34
          have cz4 := HCZ.out w4 hb34
          have hz4 : W.heap.size ≤ w4.heap.size := by have := hb34.size; omega
          clear ho4 hb4 hb34 HCal
          have HNw : Hid (Calls Tryd.prog 15 #[.int .i64 31, .int .i64 0, str [102], .slice (some ⟨w4.heap.size, 0, none⟩) 1 1] (w4.alloc (.cells #[.slice (some ⟨gx, 0, none⟩) (callL S).length xc] 22)) fun e w' => ∃ ad cap, e = .returned (.slice ad (newN 31 0 [102] [callL S]).length cap) ∧ NdOwn w' w4.heap.size (.slice ad (newN 31 0 [102] [callL S]).length cap) (newN 31 0 [102] [callL S]) ∧ Below w4.heap.size w4 w') := new_cells 31 0 [102] [(.slice (some ⟨gx, 0, none⟩) (callL S).length xc, callL S)] 1 #[.slice (some ⟨gx, 0, none⟩) (callL S).length xc] w4 rfl rfl (fun p hp => by simp only [List.mem_cons, List.not_mem_nil, or_false] at hp; rcases hp with rfl <;> first | exact HO4.out.at) (by simp) (show (List.flatten [callL S]).length ≤ 100000 by simp [callL, nopL, newN])
          go_wp2_with fail
          refine Calls.mono HNw.out ?_
          rintro e w6 ⟨ya, yc, rfl, ho6, hb6⟩
          obtain ⟨gy, ycp, hyv, _, _⟩ := owns_some ho6 (by simp [newN])
          injection hyv with e1 e2 e3
          subst e1
          subst e3
          clear e2
          have HO6 : Hid (NdOwn w6 W.heap.size (.slice (some ⟨gy, 0, none⟩) (newN 31 0 [102] [callL S]).length yc) (newN 31 0 [102] [callL S])) := owns_lower ho6 hz4
          have HB6 : Hid (Below wr.heap.size wr w6) := HB4.out.trans (hb6.mono HB4.out.size)
          have HK6 : Hid (KS W.heap.size w6 cs i i (.slice aa Ka.length ca) (.slice ak Kk.length ck) Ka Kk) := HK4.out.below hb6
          have HN6 : Hid (NdOwn w6 W.heap.size (.slice (some ⟨gn, 0, none⟩) 1 nc) nopL) := HN4.out.below hb6
          have hz6 : W.heap.size ≤ w6.heap.size := by have := hb6.size; omega
          clear ho6 hb6 HNw
          have HXX : Hid (cs[i]? = some (newN 31 0 [102] [callL S])) := HX.out
          have hxl : (0 : Int) < (((newN 31 0 [102] [callL S]).length : Nat) : Int) := by
            have : 0 < (newN 31 0 [102] [callL S]).length := by simp [nopL, callL, newN]
            omega
          have HXO : Hid (NdOwn w6 W.heap.size (.slice (some ⟨gy, 0, none⟩) (newN 31 0 [102] [callL S]).length yc) (newN 31 0 [102] [callL S])) := HO6.out
          go_upto_region 23 with (at_builtin; refine wpList_append_own_at _ rfl _ _ 36 rfl W.heap.size 22 i0 _ 1 24 Tryd.underlying36 hi0 hz0 hz1 hz2 rfl (by decide) _ Ka.length _ rfl (World.ownsRow.alloc HK6.out.ra _) ⟨w6.heap.size, 0, none⟩ 1 1 [.slice (some ⟨gy, 0, none⟩) (newN 31 0 [102] [callL S]).length yc] rfl rfl (cells_new w6 _ 22) (slice_one _ ⟨_, _, _, rfl⟩) (by have := maxLen_big; omega) (by omega) (by simp; omega) ?_; intro v7 w7 hownw7 hgroww7 _ hblkw7; obtain ⟨a7, c7, rfl⟩ := owns_slice hownw7; obtain ⟨hks7, hx7, hb7⟩ := HK6.out.all hz6 _ HXO.out HXX.out hownw7 hgroww7 hblkw7; have k7 : w7.cell? ⟨gy, 0, none⟩ = some (.int .i64 31) := own_kind hx7 (by simp [nopL, callL, newN]))
          have HK7 : Hid (KS W.heap.size w7 cs (i + 1) i (.slice a7 (Ka.length + 1) c7) (.slice ak Kk.length ck) (Ka ++ [(.slice (some ⟨gy, 0, none⟩) (newN 31 0 [102] [callL S]).length yc, newN 31 0 [102] [callL S])]) Kk) := hks7
          have HX7 : Hid (NdOwn w7 W.heap.size (.slice (some ⟨gy, 0, none⟩) (newN 31 0 [102] [callL S]).length yc) (newN 31 0 [102] [callL S])) := hx7
          have HB7 : Hid (Below W.heap.size w6 w7) := hb7
          have HN7 : Hid (NdOwn w7 W.heap.size (.slice (some ⟨gn, 0, none⟩) 1 nc) nopL) := (HN6.out.below (below_new _ (.cells #[.slice (some ⟨gy, 0, none⟩) (newN 31 0 [102] [callL S]).length yc] 22))).grownK (World.ownsRow.alloc HK6.out.ra _) hgroww7
          have hz7 : W.heap.size ≤ w7.heap.size := by have := hb7.size; omega
          clear hks7 hx7 hb7 hownw7 hgroww7 hblkw7
          go_wp2_with (at_builtin; refine wpList_append_own_at _ rfl _ _ 36 rfl W.heap.size 22 i0 _ 1 24 Tryd.underlying36 hi0 hz0 hz1 hz2 rfl (by decide) _ Kk.length _ rfl (World.ownsRow.alloc HK7.out.rk _) ⟨w7.heap.size, 0, none⟩ 1 1 [.slice (some ⟨gy, 0, none⟩) (newN 31 0 [102] [callL S]).length yc] rfl rfl (cells_new w7 _ 22) (slice_one _ ⟨_, _, _, rfl⟩) (by have := maxLen_big; omega) (by omega) (by simp; omega) ?_; intro v8 w8 hownw8 hgroww8 _ hblkw8; obtain ⟨a8, c8, rfl⟩ := owns_slice hownw8)
          obtain ⟨hks8, hb8⟩ := HK7.out.more hz7 _ HX7.out HXX.out (Or.inl (by simp [kindOf_new, callL])) hownw8 hgroww8 hblkw8
          have hn8 : NdOwn w8 W.heap.size (.slice (some ⟨gn, 0, none⟩) 1 nc) nopL := (HN7.out.below (below_new _ (.cells #[.slice (some ⟨gy, 0, none⟩) (newN 31 0 [102] [callL S]).length yc] 22))).grownK (World.ownsRow.alloc HK7.out.rk _) hgroww8
          exact ⟨⟨i + 1, _, _, by simp, by omega, by simpa [Hid] using hks8, hn8, HB.out.trans (((HB6.out.mono hws).trans HB7.out).trans hb8)⟩, by simp [intOf]; omega⟩
        · obtain ⟨g2, o2, c2', hv, hg2, ct⟩ := (H2.out wr HB.out).get htk
          injection hv with e1 e2 e3
          subst e1
          subst e3
          clear e2
          have hwn : (i : Int) < (ns.length : Int) := by have := (List.getElem?_eq_some_iff.1 htk).1; omega
          obtain ⟨tb, htb⟩ : ∃ tb : ByteArray, tb = ⟨t.toArray⟩ := ⟨_, rfl⟩
          have hts : tb.size = t.length := by rw [htb]; simp [ByteArray.size]
          rw [← htb] at ct
          have ht' : ¬ ((tb.size : Nat) : Int) ≤ 100 := by omega
          clear htb hts htk hw
          go_upto_region 12 with fail
          rw [← hsb]
          clear hsb
          clear ht' ct hwn
          have HLit : Hid _ := lit_form sb wr
          rw [HSB.out] at HLit
          go_wp2_with fail
          refine Calls.mono HLit.out ?_
          rintro e w3 ⟨la, lc, rfl, ho3, hb3⟩
          have HB3 : Hid (Below wr.heap.size wr w3) := hb3
          have HCal : Hid (Calls Tryd.prog 15 #[.int .i64 21, .int .i64 0, str [], .slice (some ⟨w3.heap.size, 0, none⟩) 1 1] (w3.alloc (.cells #[.slice la 1 lc] 22)) fun e w' => ∃ ad cap, e = .returned (.slice ad (callL S).length cap) ∧ NdOwn w' w3.heap.size (.slice ad (callL S).length cap) (callL S) ∧ Below w3.heap.size w3 w') := new_cells 21 0 [] [(.slice la 1 lc, [litN S])] 1 #[.slice la 1 lc] w3 rfl rfl (fun p hp => by rw [List.mem_singleton] at hp; subst hp; exact ho3.at) (by simp) (show (List.flatten [[litN S]]).length ≤ 100000 by simp)
          clear ho3 hb3 HLit
          go_wp2_with fail
          refine Calls.mono HCal.out ?_
          rintro e w4 ⟨xa, xc, rfl, ho4, hb4⟩
          obtain ⟨gx, xcp, hxv, _, _⟩ := owns_some ho4 (by simp [callL, newN])
          injection hxv with e1 e2 e3
          subst e1
          subst e3
          clear e2
          have hb34 : Below wr.heap.size wr w4 := HB3.out.trans (hb4.mono HB3.out.size)
          have HB4 : Hid (Below wr.heap.size wr w4) := hb34
          have HO4 : Hid (NdOwn w4 W.heap.size (.slice (some ⟨gx, 0, none⟩) (callL S).length xc) (callL S)) := owns_lower ho4 (by have := HB3.out.size; omega)
          have HK4 : Hid (KS W.heap.size w4 cs i i (.slice aa Ka.length ca) (.slice ak Kk.length ck) Ka Kk) := HKS.out.below hb34
          have HN4 : Hid (NdOwn w4 W.heap.size (.slice (some ⟨gn, 0, none⟩) 1 nc) nopL) := HNp.out.below hb34
          have cz4 := HCZ.out w4 hb34
          have hz4 : W.heap.size ≤ w4.heap.size := by have := hb34.size; omega
          clear ho4 hb4 hb34 HCal
          have HNw : Hid (Calls Tryd.prog 15 #[.int .i64 31, .int .i64 0, str [102], .slice (some ⟨w4.heap.size, 0, none⟩) 1 1] (w4.alloc (.cells #[.slice (some ⟨gx, 0, none⟩) (callL S).length xc] 22)) fun e w' => ∃ ad cap, e = .returned (.slice ad (newN 31 0 [102] [callL S]).length cap) ∧ NdOwn w' w4.heap.size (.slice ad (newN 31 0 [102] [callL S]).length cap) (newN 31 0 [102] [callL S]) ∧ Below w4.heap.size w4 w') := new_cells 31 0 [102] [(.slice (some ⟨gx, 0, none⟩) (callL S).length xc, callL S)] 1 #[.slice (some ⟨gx, 0, none⟩) (callL S).length xc] w4 rfl rfl (fun p hp => by simp only [List.mem_cons, List.not_mem_nil, or_false] at hp; rcases hp with rfl <;> first | exact HO4.out.at) (by simp) (show (List.flatten [callL S]).length ≤ 100000 by simp [callL, nopL, newN])
          go_wp2_with fail
          refine Calls.mono HNw.out ?_
          rintro e w6 ⟨ya, yc, rfl, ho6, hb6⟩
          obtain ⟨gy, ycp, hyv, _, _⟩ := owns_some ho6 (by simp [newN])
          injection hyv with e1 e2 e3
          subst e1
          subst e3
          clear e2
          have HO6 : Hid (NdOwn w6 W.heap.size (.slice (some ⟨gy, 0, none⟩) (newN 31 0 [102] [callL S]).length yc) (newN 31 0 [102] [callL S])) := owns_lower ho6 hz4
          have HB6 : Hid (Below wr.heap.size wr w6) := HB4.out.trans (hb6.mono HB4.out.size)
          have HK6 : Hid (KS W.heap.size w6 cs i i (.slice aa Ka.length ca) (.slice ak Kk.length ck) Ka Kk) := HK4.out.below hb6
          have HN6 : Hid (NdOwn w6 W.heap.size (.slice (some ⟨gn, 0, none⟩) 1 nc) nopL) := HN4.out.below hb6
          have hz6 : W.heap.size ≤ w6.heap.size := by have := hb6.size; omega
          clear ho6 hb6 HNw
          have HXX : Hid (cs[i]? = some (newN 31 0 [102] [callL S])) := HX.out
          have hxl : (0 : Int) < (((newN 31 0 [102] [callL S]).length : Nat) : Int) := by
            have : 0 < (newN 31 0 [102] [callL S]).length := by simp [nopL, callL, newN]
            omega
          have HXO : Hid (NdOwn w6 W.heap.size (.slice (some ⟨gy, 0, none⟩) (newN 31 0 [102] [callL S]).length yc) (newN 31 0 [102] [callL S])) := HO6.out
          go_upto_region 23 with (at_builtin; refine wpList_append_own_at _ rfl _ _ 36 rfl W.heap.size 22 i0 _ 1 24 Tryd.underlying36 hi0 hz0 hz1 hz2 rfl (by decide) _ Ka.length _ rfl (World.ownsRow.alloc HK6.out.ra _) ⟨w6.heap.size, 0, none⟩ 1 1 [.slice (some ⟨gy, 0, none⟩) (newN 31 0 [102] [callL S]).length yc] rfl rfl (cells_new w6 _ 22) (slice_one _ ⟨_, _, _, rfl⟩) (by have := maxLen_big; omega) (by omega) (by simp; omega) ?_; intro v7 w7 hownw7 hgroww7 _ hblkw7; obtain ⟨a7, c7, rfl⟩ := owns_slice hownw7; obtain ⟨hks7, hx7, hb7⟩ := HK6.out.all hz6 _ HXO.out HXX.out hownw7 hgroww7 hblkw7; have k7 : w7.cell? ⟨gy, 0, none⟩ = some (.int .i64 31) := own_kind hx7 (by simp [nopL, callL, newN]))
          have HK7 : Hid (KS W.heap.size w7 cs (i + 1) i (.slice a7 (Ka.length + 1) c7) (.slice ak Kk.length ck) (Ka ++ [(.slice (some ⟨gy, 0, none⟩) (newN 31 0 [102] [callL S]).length yc, newN 31 0 [102] [callL S])]) Kk) := hks7
          have HX7 : Hid (NdOwn w7 W.heap.size (.slice (some ⟨gy, 0, none⟩) (newN 31 0 [102] [callL S]).length yc) (newN 31 0 [102] [callL S])) := hx7
          have HB7 : Hid (Below W.heap.size w6 w7) := hb7
          have HN7 : Hid (NdOwn w7 W.heap.size (.slice (some ⟨gn, 0, none⟩) 1 nc) nopL) := (HN6.out.below (below_new _ (.cells #[.slice (some ⟨gy, 0, none⟩) (newN 31 0 [102] [callL S]).length yc] 22))).grownK (World.ownsRow.alloc HK6.out.ra _) hgroww7
          have hz7 : W.heap.size ≤ w7.heap.size := by have := hb7.size; omega
          clear hks7 hx7 hb7 hownw7 hgroww7 hblkw7
          go_wp2_with (at_builtin; refine wpList_append_own_at _ rfl _ _ 36 rfl W.heap.size 22 i0 _ 1 24 Tryd.underlying36 hi0 hz0 hz1 hz2 rfl (by decide) _ Kk.length _ rfl (World.ownsRow.alloc HK7.out.rk _) ⟨w7.heap.size, 0, none⟩ 1 1 [.slice (some ⟨gy, 0, none⟩) (newN 31 0 [102] [callL S]).length yc] rfl rfl (cells_new w7 _ 22) (slice_one _ ⟨_, _, _, rfl⟩) (by have := maxLen_big; omega) (by omega) (by simp; omega) ?_; intro v8 w8 hownw8 hgroww8 _ hblkw8; obtain ⟨a8, c8, rfl⟩ := owns_slice hownw8)
          obtain ⟨hks8, hb8⟩ := HK7.out.more hz7 _ HX7.out HXX.out (Or.inl (by simp [kindOf_new, callL])) hownw8 hgroww8 hblkw8
          have hn8 : NdOwn w8 W.heap.size (.slice (some ⟨gn, 0, none⟩) 1 nc) nopL := (HN7.out.below (below_new _ (.cells #[.slice (some ⟨gy, 0, none⟩) (newN 31 0 [102] [callL S]).length yc] 22))).grownK (World.ownsRow.alloc HK7.out.rk _) hgroww8
          exact ⟨⟨i + 1, _, _, by simp, by omega, by simpa [Hid] using hks8, hn8, HB.out.trans (((HB6.out.mono hws).trans HB7.out).trans hb8)⟩, by simp [intOf]; omega⟩
        · obtain ⟨g2, o2, c2', hv, hg2, ct⟩ := (H2.out wr HB.out).get htk
          injection hv with e1 e2 e3
          subst e1
          subst e3
          clear e2
          have hwn : (i : Int) < (ns.length : Int) := by have := (List.getElem?_eq_some_iff.1 htk).1; omega
          obtain ⟨tb, htb⟩ : ∃ tb : ByteArray, tb = ⟨t.toArray⟩ := ⟨_, rfl⟩
          have hts : tb.size = t.length := by rw [htb]; simp [ByteArray.size]
          rw [← htb] at ct
          rw [← htb] at hsb
          subst hsb
          have ht' : ((sb.size : Nat) : Int) ≤ 100 := by omega
          clear htb hts htk hw
          go_upto_region 12 with fail
          clear ht' ct hwn
          have HLit : Hid _ := lit_form sb wr
          rw [HSB.out] at HLit
          go_wp2_with fail
          refine Calls.mono HLit.out ?_
          rintro e w3 ⟨la, lc, rfl, ho3, hb3⟩
          have HB3 : Hid (Below wr.heap.size wr w3) := hb3
          have HCal : Hid (Calls Tryd.prog 15 #[.int .i64 21, .int .i64 0, str [], .slice (some ⟨w3.heap.size, 0, none⟩) 1 1] (w3.alloc (.cells #[.slice la 1 lc] 22)) fun e w' => ∃ ad cap, e = .returned (.slice ad (callL S).length cap) ∧ NdOwn w' w3.heap.size (.slice ad (callL S).length cap) (callL S) ∧ Below w3.heap.size w3 w') := new_cells 21 0 [] [(.slice la 1 lc, [litN S])] 1 #[.slice la 1 lc] w3 rfl rfl (fun p hp => by rw [List.mem_singleton] at hp; subst hp; exact ho3.at) (by simp) (show (List.flatten [[litN S]]).length ≤ 100000 by simp)
          clear ho3 hb3 HLit
          go_wp2_with fail
          refine Calls.mono HCal.out ?_
          rintro e w4 ⟨xa, xc, rfl, ho4, hb4⟩
          obtain ⟨gx, xcp, hxv, _, _⟩ := owns_some ho4 (by simp [callL, newN])
          injection hxv with e1 e2 e3
          subst e1
          subst e3
          clear e2
          have hb34 : Below wr.heap.size wr w4 := HB3.out.trans (hb4.mono HB3.out.size)
          have HB4 : Hid (Below wr.heap.size wr w4) := hb34
          have HO4 : Hid (NdOwn w4 W.heap.size (.slice (some ⟨gx, 0, none⟩) (callL S).length xc) (callL S)) := owns_lower ho4 (by have := HB3.out.size; omega)
          have HK4 : Hid (KS W.heap.size w4 cs i i (.slice aa Ka.length ca) (.slice ak Kk.length ck) Ka Kk) := HKS.out.below hb34
          have HN4 : Hid (NdOwn w4 W.heap.size (.slice (some ⟨gn, 0, none⟩) 1 nc) nopL) := HNp.out.below hb34
          have cz4 := HCZ.out w4 hb34
          have hz4 : W.heap.size ≤ w4.heap.size := by have := hb34.size; omega
          clear ho4 hb4 hb34 HCal
          have HNw : Hid (Calls Tryd.prog 15 #[.int .i64 31, .int .i64 0, str [102], .slice (some ⟨w4.heap.size, 0, none⟩) 1 1] (w4.alloc (.cells #[.slice (some ⟨gx, 0, none⟩) (callL S).length xc] 22)) fun e w' => ∃ ad cap, e = .returned (.slice ad (newN 31 0 [102] [callL S]).length cap) ∧ NdOwn w' w4.heap.size (.slice ad (newN 31 0 [102] [callL S]).length cap) (newN 31 0 [102] [callL S]) ∧ Below w4.heap.size w4 w') := new_cells 31 0 [102] [(.slice (some ⟨gx, 0, none⟩) (callL S).length xc, callL S)] 1 #[.slice (some ⟨gx, 0, none⟩) (callL S).length xc] w4 rfl rfl (fun p hp => by simp only [List.mem_cons, List.not_mem_nil, or_false] at hp; rcases hp with rfl <;> first | exact HO4.out.at) (by simp) (show (List.flatten [callL S]).length ≤ 100000 by simp [callL, nopL, newN])
          go_wp2_with fail
          refine Calls.mono HNw.out ?_
          rintro e w6 ⟨ya, yc, rfl, ho6, hb6⟩
          obtain ⟨gy, ycp, hyv, _, _⟩ := owns_some ho6 (by simp [newN])
          injection hyv with e1 e2 e3
          subst e1
          subst e3
          clear e2
          have HO6 : Hid (NdOwn w6 W.heap.size (.slice (some ⟨gy, 0, none⟩) (newN 31 0 [102] [callL S]).length yc) (newN 31 0 [102] [callL S])) := owns_lower ho6 hz4
          have HB6 : Hid (Below wr.heap.size wr w6) := HB4.out.trans (hb6.mono HB4.out.size)
          have HK6 : Hid (KS W.heap.size w6 cs i i (.slice aa Ka.length ca) (.slice ak Kk.length ck) Ka Kk) := HK4.out.below hb6
          have HN6 : Hid (NdOwn w6 W.heap.size (.slice (some ⟨gn, 0, none⟩) 1 nc) nopL) := HN4.out.below hb6
          have hz6 : W.heap.size ≤ w6.heap.size := by have := hb6.size; omega
          clear ho6 hb6 HNw
          have HXX : Hid (cs[i]? = some (newN 31 0 [102] [callL S])) := HX.out
          have hxl : (0 : Int) < (((newN 31 0 [102] [callL S]).length : Nat) : Int) := by
            have : 0 < (newN 31 0 [102] [callL S]).length := by simp [nopL, callL, newN]
            omega
          have HXO : Hid (NdOwn w6 W.heap.size (.slice (some ⟨gy, 0, none⟩) (newN 31 0 [102] [callL S]).length yc) (newN 31 0 [102] [callL S])) := HO6.out
          go_upto_region 23 with (at_builtin; refine wpList_append_own_at _ rfl _ _ 36 rfl W.heap.size 22 i0 _ 1 24 Tryd.underlying36 hi0 hz0 hz1 hz2 rfl (by decide) _ Ka.length _ rfl (World.ownsRow.alloc HK6.out.ra _) ⟨w6.heap.size, 0, none⟩ 1 1 [.slice (some ⟨gy, 0, none⟩) (newN 31 0 [102] [callL S]).length yc] rfl rfl (cells_new w6 _ 22) (slice_one _ ⟨_, _, _, rfl⟩) (by have := maxLen_big; omega) (by omega) (by simp; omega) ?_; intro v7 w7 hownw7 hgroww7 _ hblkw7; obtain ⟨a7, c7, rfl⟩ := owns_slice hownw7; obtain ⟨hks7, hx7, hb7⟩ := HK6.out.all hz6 _ HXO.out HXX.out hownw7 hgroww7 hblkw7; have k7 : w7.cell? ⟨gy, 0, none⟩ = some (.int .i64 31) := own_kind hx7 (by simp [nopL, callL, newN]))
          have HK7 : Hid (KS W.heap.size w7 cs (i + 1) i (.slice a7 (Ka.length + 1) c7) (.slice ak Kk.length ck) (Ka ++ [(.slice (some ⟨gy, 0, none⟩) (newN 31 0 [102] [callL S]).length yc, newN 31 0 [102] [callL S])]) Kk) := hks7
          have HX7 : Hid (NdOwn w7 W.heap.size (.slice (some ⟨gy, 0, none⟩) (newN 31 0 [102] [callL S]).length yc) (newN 31 0 [102] [callL S])) := hx7
          have HB7 : Hid (Below W.heap.size w6 w7) := hb7
          have HN7 : Hid (NdOwn w7 W.heap.size (.slice (some ⟨gn, 0, none⟩) 1 nc) nopL) := (HN6.out.below (below_new _ (.cells #[.slice (some ⟨gy, 0, none⟩) (newN 31 0 [102] [callL S]).length yc] 22))).grownK (World.ownsRow.alloc HK6.out.ra _) hgroww7
          have hz7 : W.heap.size ≤ w7.heap.size := by have := hb7.size; omega
          clear hks7 hx7 hb7 hownw7 hgroww7 hblkw7
          go_wp2_with (at_builtin; refine wpList_append_own_at _ rfl _ _ 36 rfl W.heap.size 22 i0 _ 1 24 Tryd.underlying36 hi0 hz0 hz1 hz2 rfl (by decide) _ Kk.length _ rfl (World.ownsRow.alloc HK7.out.rk _) ⟨w7.heap.size, 0, none⟩ 1 1 [.slice (some ⟨gy, 0, none⟩) (newN 31 0 [102] [callL S]).length yc] rfl rfl (cells_new w7 _ 22) (slice_one _ ⟨_, _, _, rfl⟩) (by have := maxLen_big; omega) (by omega) (by simp; omega) ?_; intro v8 w8 hownw8 hgroww8 _ hblkw8; obtain ⟨a8, c8, rfl⟩ := owns_slice hownw8)
          obtain ⟨hks8, hb8⟩ := HK7.out.more hz7 _ HX7.out HXX.out (Or.inl (by simp [kindOf_new, callL])) hownw8 hgroww8 hblkw8
          have hn8 : NdOwn w8 W.heap.size (.slice (some ⟨gn, 0, none⟩) 1 nc) nopL := (HN7.out.below (below_new _ (.cells #[.slice (some ⟨gy, 0, none⟩) (newN 31 0 [102] [callL S]).length yc] 22))).grownK (World.ownsRow.alloc HK7.out.rk _) hgroww8
          exact ⟨⟨i + 1, _, _, by simp, by omega, by simpa [Hid] using hks8, hn8, HB.out.trans (((HB6.out.mono hws).trans HB7.out).trans hb8)⟩, by simp [intOf]; omega⟩
      · have h59 : (wrap64 (z.tmod 5 + 5)).tmod 5 = 4 := by rw [wrap5]; exact hr
        rw [hr] at hX0
        obtain ⟨S, hS⟩ : ∃ S, S = sOf ns i := ⟨_, rfl⟩
        rw [← hS] at hX0
        have HX : Hid (cs[i]? = some (keepC 4 S)) := hX0
        clear hX0 hr
        have hSB : ∃ sb : ByteArray, sb.data.toList = S ∧ ((sb = ⟨#[119]⟩ ∧ ns.length ≤ i) ∨ ∃ t, ns[i]? = some t ∧ ((sb = ⟨#[119]⟩ ∧ ¬ t.length ≤ 100) ∨ (sb = ⟨t.toArray⟩ ∧ t.length ≤ 100))) := by
          rw [hS]
          exact sOf_cases ns i
        obtain ⟨sb, hsb, hways⟩ := hSB
        have HSB : Hid (sb.data.toList = S) := hsb
        clear hS hsb
        rcases hways with ⟨hsb, hw⟩ | ⟨t, htk, ⟨hsb, hw⟩ | ⟨hsb, hw⟩⟩
        · have hw' : ¬ (i : Int) < (ns.length : Int) := by omega
          go_upto_region 12 with fail
          rw [← hsb]
          clear hsb hw hw'
          have HLit : Hid _ := lit_form sb wr
          rw [HSB.out] at HLit
          go_wp2_with fail
          refine Calls.mono HLit.out ?_
          rintro e w3 ⟨la, lc, rfl, ho3, hb3⟩
          have HB3 : Hid (Below wr.heap.size wr w3) := hb3
          have HCal : Hid (Calls Tryd.prog 15 #[.int .i64 21, .int .i64 0, str [], .slice (some ⟨w3.heap.size, 0, none⟩) 1 1] (w3.alloc (.cells #[.slice la 1 lc] 22)) fun e w' => ∃ ad cap, e = .returned (.slice ad (callL S).length cap) ∧ NdOwn w' w3.heap.size (.slice ad (callL S).length cap) (callL S) ∧ Below w3.heap.size w3 w') := new_cells 21 0 [] [(.slice la 1 lc, [litN S])] 1 #[.slice la 1 lc] w3 rfl rfl (fun p hp => by rw [List.mem_singleton] at hp; subst hp; exact ho3.at) (by simp) (show (List.flatten [[litN S]]).length ≤ 100000 by simp)
          clear ho3 hb3 HLit
          go_wp2_with fail
          refine Calls.mono HCal.out ?_
          rintro e w4 ⟨xa, xc, rfl, ho4, hb4⟩
          obtain ⟨gx, xcp, hxv, _, _⟩ := owns_some ho4 (by simp [callL, newN])
          injection hxv with e1 e2 e3
          subst e1
          subst e3
          clear e2
          have hb34 : Below wr.heap.size wr w4 := HB3.out.trans (hb4.mono HB3.out.size)
          have HB4 : Hid (Below wr.heap.size wr w4) := hb34
          have HO4 : Hid (NdOwn w4 W.heap.size (.slice (some ⟨gx, 0, none⟩) (callL S).length xc) (callL S)) := owns_lower ho4 (by have := HB3.out.size; omega)
          have HK4 : Hid (KS W.heap.size w4 cs i i (.slice aa Ka.length ca) (.slice ak Kk.length ck) Ka Kk) := HKS.out.below hb34
          have HN4 : Hid (NdOwn w4 W.heap.size (.slice (some ⟨gn, 0, none⟩) 1 nc) nopL) := HNp.out.below hb34
          have cz4 := HCZ.out w4 hb34
          have hz4 : W.heap.size ≤ w4.heap.size := by have := hb34.size; omega
          clear ho4 hb4 hb34 HCal
          have HXX : Hid (cs[i]? = some (callL S)) := HX.out
          have hxl : (0 : Int) < (((callL S).length : Nat) : Int) := by
            have : 0 < (callL S).length := by simp [nopL, callL, newN]
            omega
          have HXO : Hid (NdOwn w4 W.heap.size (.slice (some ⟨gx, 0, none⟩) (callL S).length xc) (callL S)) := HO4.out
          go_upto_region 23 with (at_builtin; refine wpList_append_own_at _ rfl _ _ 36 rfl W.heap.size 22 i0 _ 1 24 Tryd.underlying36 hi0 hz0 hz1 hz2 rfl (by decide) _ Ka.length _ rfl (World.ownsRow.alloc HK4.out.ra _) ⟨w4.heap.size, 0, none⟩ 1 1 [.slice (some ⟨gx, 0, none⟩) (callL S).length xc] rfl rfl (cells_new w4 _ 22) (slice_one _ ⟨_, _, _, rfl⟩) (by have := maxLen_big; omega) (by omega) (by simp; omega) ?_; intro v7 w7 hownw7 hgroww7 _ hblkw7; obtain ⟨a7, c7, rfl⟩ := owns_slice hownw7; obtain ⟨hks7, hx7, hb7⟩ := HK4.out.all hz4 _ HXO.out HXX.out hownw7 hgroww7 hblkw7; have k7 : w7.cell? ⟨gx, 0, none⟩ = some (.int .i64 21) := own_kind hx7 (by simp [nopL, callL, newN]))
          have HK7 : Hid (KS W.heap.size w7 cs (i + 1) i (.slice a7 (Ka.length + 1) c7) (.slice ak Kk.length ck) (Ka ++ [(.slice (some ⟨gx, 0, none⟩) (callL S).length xc, callL S)]) Kk) := hks7
          have HX7 : Hid (NdOwn w7 W.heap.size (.slice (some ⟨gx, 0, none⟩) (callL S).length xc) (callL S)) := hx7
          have HB7 : Hid (Below W.heap.size w4 w7) := hb7
          have HN7 : Hid (NdOwn w7 W.heap.size (.slice (some ⟨gn, 0, none⟩) 1 nc) nopL) := (HN4.out.below (below_new _ (.cells #[.slice (some ⟨gx, 0, none⟩) (callL S).length xc] 22))).grownK (World.ownsRow.alloc HK4.out.ra _) hgroww7
          have hz7 : W.heap.size ≤ w7.heap.size := by have := hb7.size; omega
          clear hks7 hx7 hb7 hownw7 hgroww7 hblkw7
          go_wp2_with (at_builtin; refine wpList_append_own_at _ rfl _ _ 36 rfl W.heap.size 22 i0 _ 1 24 Tryd.underlying36 hi0 hz0 hz1 hz2 rfl (by decide) _ Kk.length _ rfl (World.ownsRow.alloc HK7.out.rk _) ⟨w7.heap.size, 0, none⟩ 1 1 [.slice (some ⟨gx, 0, none⟩) (callL S).length xc] rfl rfl (cells_new w7 _ 22) (slice_one _ ⟨_, _, _, rfl⟩) (by have := maxLen_big; omega) (by omega) (by simp; omega) ?_; intro v8 w8 hownw8 hgroww8 _ hblkw8; obtain ⟨a8, c8, rfl⟩ := owns_slice hownw8)
          obtain ⟨hks8, hb8⟩ := HK7.out.more hz7 _ HX7.out HXX.out (Or.inl (by simp [kindOf_new, callL])) hownw8 hgroww8 hblkw8
          have hn8 : NdOwn w8 W.heap.size (.slice (some ⟨gn, 0, none⟩) 1 nc) nopL := (HN7.out.below (below_new _ (.cells #[.slice (some ⟨gx, 0, none⟩) (callL S).length xc] 22))).grownK (World.ownsRow.alloc HK7.out.rk _) hgroww8
          exact ⟨⟨i + 1, _, _, by simp, by omega, by simpa [Hid] using hks8, hn8, HB.out.trans (((HB4.out.mono hws).trans HB7.out).trans hb8)⟩, by simp [intOf]; omega⟩
        · obtain ⟨g2, o2, c2', hv, hg2, ct⟩ := (H2.out wr HB.out).get htk
          injection hv with e1 e2 e3
          subst e1
          subst e3
          clear e2
          have hwn : (i : Int) < (ns.length : Int) := by have := (List.getElem?_eq_some_iff.1 htk).1; omega
          obtain ⟨tb, htb⟩ : ∃ tb : ByteArray, tb = ⟨t.toArray⟩ := ⟨_, rfl⟩
          have hts : tb.size = t.length := by rw [htb]; simp [ByteArray.size]
          rw [← htb] at ct
          have ht' : ¬ ((tb.size : Nat) : Int) ≤ 100 := by omega
          clear htb hts htk hw
          go_upto_region 12 with fail
          rw [← hsb]
          clear hsb
          clear ht' ct hwn
          have HLit : Hid _ := lit_form sb wr
          rw [HSB.out] at HLit
          go_wp2_with fail
          refine Calls.mono HLit.out ?_
          rintro e w3 ⟨la, lc, rfl, ho3, hb3⟩
          have HB3 : Hid (Below wr.heap.size wr w3) := hb3
          have HCal : Hid (Calls Tryd.prog 15 #[.int .i64 21, .int .i64 0, str [], .slice (some ⟨w3.heap.size, 0, none⟩) 1 1] (w3.alloc (.cells #[.slice la 1 lc] 22)) fun e w' => ∃ ad cap, e = .returned (.slice ad (callL S).length cap) ∧ NdOwn w' w3.heap.size (.slice ad (callL S).length cap) (callL S) ∧ Below w3.heap.size w3 w') := new_cells 21 0 [] [(.slice la 1 lc, [litN S])] 1 #[.slice la 1 lc] w3 rfl rfl (fun p hp => by rw [List.mem_singleton] at hp; subst hp; exact ho3.at) (by simp) (show (List.flatten [[litN S]]).length ≤ 100000 by simp)
          clear ho3 hb3 HLit
          go_wp2_with fail
          refine Calls.mono HCal.out ?_
          rintro e w4 ⟨xa, xc, rfl, ho4, hb4⟩
          obtain ⟨gx, xcp, hxv, _, _⟩ := owns_some ho4 (by simp [callL, newN])
          injection hxv with e1 e2 e3
          subst e1
          subst e3
          clear e2
          have hb34 : Below wr.heap.size wr w4 := HB3.out.trans (hb4.mono HB3.out.size)
          have HB4 : Hid (Below wr.heap.size wr w4) := hb34
          have HO4 : Hid (NdOwn w4 W.heap.size (.slice (some ⟨gx, 0, none⟩) (callL S).length xc) (callL S)) := owns_lower ho4 (by have := HB3.out.size; omega)
          have HK4 : Hid (KS W.heap.size w4 cs i i (.slice aa Ka.length ca) (.slice ak Kk.length ck) Ka Kk) := HKS.out.below hb34
          have HN4 : Hid (NdOwn w4 W.heap.size (.slice (some ⟨gn, 0, none⟩) 1 nc) nopL) := HNp.out.below hb34
          have cz4 := HCZ.out w4 hb34
          have hz4 : W.heap.size ≤ w4.heap.size := by have := hb34.size; omega
          clear ho4 hb4 hb34 HCal
          have HXX : Hid (cs[i]? = some (callL S)) := HX.out
          have hxl : (0 : Int) < (((callL S).length : Nat) : Int) := by
            have : 0 < (callL S).length := by simp [nopL, callL, newN]
            omega
          have HXO : Hid (NdOwn w4 W.heap.size (.slice (some ⟨gx, 0, none⟩) (callL S).length xc) (callL S)) := HO4.out
          go_upto_region 23 with (at_builtin; refine wpList_append_own_at _ rfl _ _ 36 rfl W.heap.size 22 i0 _ 1 24 Tryd.underlying36 hi0 hz0 hz1 hz2 rfl (by decide) _ Ka.length _ rfl (World.ownsRow.alloc HK4.out.ra _) ⟨w4.heap.size, 0, none⟩ 1 1 [.slice (some ⟨gx, 0, none⟩) (callL S).length xc] rfl rfl (cells_new w4 _ 22) (slice_one _ ⟨_, _, _, rfl⟩) (by have := maxLen_big; omega) (by omega) (by simp; omega) ?_; intro v7 w7 hownw7 hgroww7 _ hblkw7; obtain ⟨a7, c7, rfl⟩ := owns_slice hownw7; obtain ⟨hks7, hx7, hb7⟩ := HK4.out.all hz4 _ HXO.out HXX.out hownw7 hgroww7 hblkw7; have k7 : w7.cell? ⟨gx, 0, none⟩ = some (.int .i64 21) := own_kind hx7 (by simp [nopL, callL, newN]))
          have HK7 : Hid (KS W.heap.size w7 cs (i + 1) i (.slice a7 (Ka.length + 1) c7) (.slice ak Kk.length ck) (Ka ++ [(.slice (some ⟨gx, 0, none⟩) (callL S).length xc, callL S)]) Kk) := hks7
          have HX7 : Hid (NdOwn w7 W.heap.size (.slice (some ⟨gx, 0, none⟩) (callL S).length xc) (callL S)) := hx7
          have HB7 : Hid (Below W.heap.size w4 w7) := hb7
          have HN7 : Hid (NdOwn w7 W.heap.size (.slice (some ⟨gn, 0, none⟩) 1 nc) nopL) := (HN4.out.below (below_new _ (.cells #[.slice (some ⟨gx, 0, none⟩) (callL S).length xc] 22))).grownK (World.ownsRow.alloc HK4.out.ra _) hgroww7
          have hz7 : W.heap.size ≤ w7.heap.size := by have := hb7.size; omega
          clear hks7 hx7 hb7 hownw7 hgroww7 hblkw7
          go_wp2_with (at_builtin; refine wpList_append_own_at _ rfl _ _ 36 rfl W.heap.size 22 i0 _ 1 24 Tryd.underlying36 hi0 hz0 hz1 hz2 rfl (by decide) _ Kk.length _ rfl (World.ownsRow.alloc HK7.out.rk _) ⟨w7.heap.size, 0, none⟩ 1 1 [.slice (some ⟨gx, 0, none⟩) (callL S).length xc] rfl rfl (cells_new w7 _ 22) (slice_one _ ⟨_, _, _, rfl⟩) (by have := maxLen_big; omega) (by omega) (by simp; omega) ?_; intro v8 w8 hownw8 hgroww8 _ hblkw8; obtain ⟨a8, c8, rfl⟩ := owns_slice hownw8)
          obtain ⟨hks8, hb8⟩ := HK7.out.more hz7 _ HX7.out HXX.out (Or.inl (by simp [kindOf_new, callL])) hownw8 hgroww8 hblkw8
          have hn8 : NdOwn w8 W.heap.size (.slice (some ⟨gn, 0, none⟩) 1 nc) nopL := (HN7.out.below (below_new _ (.cells #[.slice (some ⟨gx, 0, none⟩) (callL S).length xc] 22))).grownK (World.ownsRow.alloc HK7.out.rk _) hgroww8
          exact ⟨⟨i + 1, _, _, by simp, by omega, by simpa [Hid] using hks8, hn8, HB.out.trans (((HB4.out.mono hws).trans HB7.out).trans hb8)⟩, by simp [intOf]; omega⟩
        · obtain ⟨g2, o2, c2', hv, hg2, ct⟩ := (H2.out wr HB.out).get htk
          injection hv with e1 e2 e3
          subst e1
          subst e3
          clear e2
          have hwn : (i : Int) < (ns.length : Int) := by have := (List.getElem?_eq_some_iff.1 htk).1; omega
          obtain ⟨tb, htb⟩ : ∃ tb : ByteArray, tb = ⟨t.toArray⟩ := ⟨_, rfl⟩
          have hts : tb.size = t.length := by rw [htb]; simp [ByteArray.size]
          rw [← htb] at ct
          rw [← htb] at hsb
          subst hsb
          have ht' : ((sb.size : Nat) : Int) ≤ 100 := by omega
          clear htb hts htk hw
          go_upto_region 12 with fail
          clear ht' ct hwn
          have HLit : Hid _ := lit_form sb wr
          rw [HSB.out] at HLit
          go_wp2_with fail
          refine Calls.mono HLit.out ?_
          rintro e w3 ⟨la, lc, rfl, ho3, hb3⟩
          have HB3 : Hid (Below wr.heap.size wr w3) := hb3
          have HCal : Hid (Calls Tryd.prog 15 #[.int .i64 21, .int .i64 0, str [], .slice (some ⟨w3.heap.size, 0, none⟩) 1 1] (w3.alloc (.cells #[.slice la 1 lc] 22)) fun e w' => ∃ ad cap, e = .returned (.slice ad (callL S).length cap) ∧ NdOwn w' w3.heap.size (.slice ad (callL S).length cap) (callL S) ∧ Below w3.heap.size w3 w') := new_cells 21 0 [] [(.slice la 1 lc, [litN S])] 1 #[.slice la 1 lc] w3 rfl rfl (fun p hp => by rw [List.mem_singleton] at hp; subst hp; exact ho3.at) (by simp) (show (List.flatten [[litN S]]).length ≤ 100000 by simp)
          clear ho3 hb3 HLit
          go_wp2_with fail
          refine Calls.mono HCal.out ?_
          rintro e w4 ⟨xa, xc, rfl, ho4, hb4⟩
          obtain ⟨gx, xcp, hxv, _, _⟩ := owns_some ho4 (by simp [callL, newN])
          injection hxv with e1 e2 e3
          subst e1
          subst e3
          clear e2
          have hb34 : Below wr.heap.size wr w4 := HB3.out.trans (hb4.mono HB3.out.size)
          have HB4 : Hid (Below wr.heap.size wr w4) := hb34
          have HO4 : Hid (NdOwn w4 W.heap.size (.slice (some ⟨gx, 0, none⟩) (callL S).length xc) (callL S)) := owns_lower ho4 (by have := HB3.out.size; omega)
          have HK4 : Hid (KS W.heap.size w4 cs i i (.slice aa Ka.length ca) (.slice ak Kk.length ck) Ka Kk) := HKS.out.below hb34
          have HN4 : Hid (NdOwn w4 W.heap.size (.slice (some ⟨gn, 0, none⟩) 1 nc) nopL) := HNp.out.below hb34
          have cz4 := HCZ.out w4 hb34
          have hz4 : W.heap.size ≤ w4.heap.size := by have := hb34.size; omega
          clear ho4 hb4 hb34 HCal
          have HXX : Hid (cs[i]? = some (callL S)) := HX.out
          have hxl : (0 : Int) < (((callL S).length : Nat) : Int) := by
            have : 0 < (callL S).length := by simp [nopL, callL, newN]
            omega
          have HXO : Hid (NdOwn w4 W.heap.size (.slice (some ⟨gx, 0, none⟩) (callL S).length xc) (callL S)) := HO4.out
          go_upto_region 23 with (at_builtin; refine wpList_append_own_at _ rfl _ _ 36 rfl W.heap.size 22 i0 _ 1 24 Tryd.underlying36 hi0 hz0 hz1 hz2 rfl (by decide) _ Ka.length _ rfl (World.ownsRow.alloc HK4.out.ra _) ⟨w4.heap.size, 0, none⟩ 1 1 [.slice (some ⟨gx, 0, none⟩) (callL S).length xc] rfl rfl (cells_new w4 _ 22) (slice_one _ ⟨_, _, _, rfl⟩) (by have := maxLen_big; omega) (by omega) (by simp; omega) ?_; intro v7 w7 hownw7 hgroww7 _ hblkw7; obtain ⟨a7, c7, rfl⟩ := owns_slice hownw7; obtain ⟨hks7, hx7, hb7⟩ := HK4.out.all hz4 _ HXO.out HXX.out hownw7 hgroww7 hblkw7; have k7 : w7.cell? ⟨gx, 0, none⟩ = some (.int .i64 21) := own_kind hx7 (by simp [nopL, callL, newN]))
          have HK7 : Hid (KS W.heap.size w7 cs (i + 1) i (.slice a7 (Ka.length + 1) c7) (.slice ak Kk.length ck) (Ka ++ [(.slice (some ⟨gx, 0, none⟩) (callL S).length xc, callL S)]) Kk) := hks7
          have HX7 : Hid (NdOwn w7 W.heap.size (.slice (some ⟨gx, 0, none⟩) (callL S).length xc) (callL S)) := hx7
          have HB7 : Hid (Below W.heap.size w4 w7) := hb7
          have HN7 : Hid (NdOwn w7 W.heap.size (.slice (some ⟨gn, 0, none⟩) 1 nc) nopL) := (HN4.out.below (below_new _ (.cells #[.slice (some ⟨gx, 0, none⟩) (callL S).length xc] 22))).grownK (World.ownsRow.alloc HK4.out.ra _) hgroww7
          have hz7 : W.heap.size ≤ w7.heap.size := by have := hb7.size; omega
          clear hks7 hx7 hb7 hownw7 hgroww7 hblkw7
          go_wp2_with (at_builtin; refine wpList_append_own_at _ rfl _ _ 36 rfl W.heap.size 22 i0 _ 1 24 Tryd.underlying36 hi0 hz0 hz1 hz2 rfl (by decide) _ Kk.length _ rfl (World.ownsRow.alloc HK7.out.rk _) ⟨w7.heap.size, 0, none⟩ 1 1 [.slice (some ⟨gx, 0, none⟩) (callL S).length xc] rfl rfl (cells_new w7 _ 22) (slice_one _ ⟨_, _, _, rfl⟩) (by have := maxLen_big; omega) (by omega) (by simp; omega) ?_; intro v8 w8 hownw8 hgroww8 _ hblkw8; obtain ⟨a8, c8, rfl⟩ := owns_slice hownw8)
          obtain ⟨hks8, hb8⟩ := HK7.out.more hz7 _ HX7.out HXX.out (Or.inl (by simp [kindOf_new, callL])) hownw8 hgroww8 hblkw8
          have hn8 : NdOwn w8 W.heap.size (.slice (some ⟨gn, 0, none⟩) 1 nc) nopL := (HN7.out.below (below_new _ (.cells #[.slice (some ⟨gx, 0, none⟩) (callL S).length xc] 22))).grownK (World.ownsRow.alloc HK7.out.rk _) hgroww8
          exact ⟨⟨i + 1, _, _, by simp, by omega, by simpa [Hid] using hks8, hn8, HB.out.trans (((HB4.out.mono hws).trans HB7.out).trans hb8)⟩, by simp [intOf]; omega⟩
    · have hlt' : ¬ (i : Int) < (zs.length : Int) := by omega
      have hie : i = cs.length := by rw [HCL.out]; omega
      have hsa : Ka.map Prod.snd = cs := by
        have := HKS.out.sa
        rw [List.take_of_length_le (by omega)] at this
        exact this
      have hsk : Kk.map Prod.snd = lastNop cs := by
        have := HKS.out.sk
        rw [if_pos hie] at this
        exact this
      have hfl := flat_keep cs (fun C hC => (HL4.out C hC).2)
      have hfk := flat_sub (lastNop_sublist cs)
      have hcn := HCL.out
      have hata : KdAt wr (.slice aa Ka.length ca) Ka := KdOwn.at (B := W.heap.size) ⟨HKS.out.ra, fun q hq => HKS.out.ow q (List.mem_append_left _ hq)⟩
      have hatk : KdAt wr (.slice ak Kk.length ck) Kk := KdOwn.at (B := W.heap.size) ⟨HKS.out.rk, fun q hq => HKS.out.ow q (List.mem_append_right _ hq)⟩
      have HS1 := seqs_any _ Ka wr hata (by omega) (by unfold kidL; rw [hsa]; omega)
      rw [hsa] at HS1
      have HS1' : Hid _ := HS1
      have HS2 : Hid (∀ w, Below wr.heap.size wr w → Calls Tryd.prog 17 #[.slice ak Kk.length ck] w fun e w' => ∃ v', e = .returned v' ∧ NdOwn w' w.heap.size v' (seqC (lastNop cs)) ∧ Below w.heap.size w w') := fun w hb => by
        have := seqs_any _ Kk w (hatk.below hb (Nat.le_refl _)) (by omega) (by unfold kidL; rw [hsk]; omega)
        rw [hsk] at this
        exact this
      clear HS1 hata hatk hsa hsk hfl hfk hcn hie HKS
      go_wp2_with fail
      refine Calls.mono HS1'.out ?_
      rintro e w3 ⟨v3, rfl, ho3, hb3⟩
      obtain ⟨a3, c3, rfl⟩ := owns_slice ho3
      have HB3 : Hid (Below wr.heap.size wr w3) := hb3
      have HP3 : Hid _ := pass_form _ (seqC cs) (seqC (lastNop cs)) w3 ea (HE.out _ (HB.out.trans (hb3.mono HB.out.size))) ho3.at (by have := HPK.out.2.1; omega) (fun x hx => by have := HPK.out.2.2 x hx; exact ⟨by omega, by omega⟩) HPK.out.1
      clear ho3 hb3 HS1'
      go_wp2_with fail
      refine Calls.mono HP3.out ?_
      rintro e w4 ⟨a4, c4, rfl, ho4, hb4⟩
      have HB4 : Hid (Below wr.heap.size wr w4) := HB3.out.trans (hb4.mono HB3.out.size)
      have HO4 : Hid (NdOwn w4 w3.heap.size (.slice a4 (seqC (lastNop cs)).length c4) (seqC (lastNop cs))) := ho4
      have HS4 : Hid _ := HS2.out w4 HB4.out
      clear ho4 hb4 HP3 HS2
      go_wp2_with fail
      refine Calls.mono HS4.out ?_
      rintro e w5 ⟨v5, rfl, ho5, hb5⟩
      obtain ⟨a5, c5, rfl⟩ := owns_slice ho5
      have HB5 : Hid (Below wr.heap.size wr w5) := HB4.out.trans (hb5.mono HB4.out.size)
      have HSm : Hid _ := same_any (.slice a4 (seqC (lastNop cs)).length c4) (.slice a5 (seqC (lastNop cs)).length c5) (seqC (lastNop cs)) w5 (HO4.out.below hb5).at ho5.at (by
        have h1 := seqC_len (lastNop cs)
        have h2 := flat_sub (lastNop_sublist cs)
        have h3 := flat_keep cs (fun C hC => (HL4.out C hC).2)
        have h4 := HCL.out
        omega)
      clear ho5 hb5 HS4
      go_wp2_with fail
      refine Calls.mono HSm.out ?_
      rintro e w6 ⟨rfl, hb6⟩
      have HB6 : Hid (Below W.heap.size W w6) := HB.out.trans ((HB5.out.trans (hb6.mono HB5.out.size)).mono HB.out.size)
      clear hb6 HSm
      go_wp2_with fail
      go_ret
      exact ⟨rfl, HB6.out⟩
end Go.Proofs.YtfakelaibijgkaaDoor

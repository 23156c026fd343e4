/- The statement on bounds, walked. -/
import Derived.Test.YtdajacodfnidfaaDoorFlat
import Derived.Test.YtdajacodfnidfaaDoorOwn2
import Derived.OwnWalk
import Derived.Laws.BitsLemmas
namespace Go.Proofs.YtdajacodfnidfaaDoor
open Go.RowKit Go.Shelf

theorem i64_and7 (n : Int) : bits .and .i64 n 7 = n % 8 := by
  have h7 : (BitVec.ofInt 64 7).toNat = 2 ^ 3 - 1 := by decide
  have key : (BitVec.ofInt 64 n &&& BitVec.ofInt 64 7).toNat = (n % ((2 ^ 64 : Nat) : Int)).toNat % 2 ^ 3 := by
    rw [BitVec.toNat_and, BitVec.toNat_ofInt, h7, Nat.and_two_pow_sub_one_eq_mod]
  show IntKind.i64.wrap ((BitVec.ofInt 64 n &&& BitVec.ofInt 64 7).toNat : Nat) = n % 8
  rw [key, IntKind.wrap_i64]
  omega
theorem and7 (n : Int) : ∃ j : Nat, j ≤ 7 ∧ bits .and .i64 n 7 = (j : Int) := by
  refine ⟨(n % 8).toNat, by omega, ?_⟩
  rw [i64_and7]
  omega
/-- So many bytes. -/
def xs (k : Nat) : List UInt8 := List.replicate k 120
theorem xs_succ (k : Nat) : (⟨(xs k).toArray⟩ : ByteArray) ++ ⟨#[120]⟩ = ⟨(xs (k + 1)).toArray⟩ := by
  have e : (⟨#[120]⟩ : ByteArray) = ⟨([120] : List UInt8).toArray⟩ := rfl
  rw [e, bytes_app]
  unfold xs
  rw [List.replicate_succ']
theorem xs_length (k : Nat) : (xs k).length = k := by simp [xs]
/-- So many empty texts. -/
def es (n : Nat) : List (List UInt8) := List.replicate n []
theorem es_cells (n : Nat) : (madeCells (Value.string ⟨#[]⟩).cells (n * 1)).toList = txV (es n) := by
  unfold es txV
  rw [List.map_replicate, Nat.mul_one]
  apply List.ext_getElem
  · simp [madeCells]
  · intro i h1 h2
    simp [madeCells, Value.cells, Nat.mod_one]

/-- A text cut in two. -/
theorem cut_two {l : List UInt8} {h m : Nat} {L1 L2 : List UInt8} (h1 : (⟨l.toArray⟩ : ByteArray).extract 0 h = ⟨L1.toArray⟩) (h2 : (⟨l.toArray⟩ : ByteArray).extract h (⟨l.toArray⟩ : ByteArray).size = ⟨L2.toArray⟩) (hs : (⟨l.toArray⟩ : ByteArray).size = m) (hh : h ≤ m) : L1.length + L2.length = m ∧ L1 ++ L2 = l := by
  have e1 : L1 = l.take h := by
    have t1 : ((⟨l.toArray⟩ : ByteArray).extract 0 h).data.toList = L1 := by rw [h1]
    rw [Lib.extract_data, str_data'] at t1
    rw [← t1]
    simp
  have e2 : L2 = l.drop h := by
    have t2 : ((⟨l.toArray⟩ : ByteArray).extract h (⟨l.toArray⟩ : ByteArray).size).data.toList = L2 := by rw [h2]
    rw [Lib.extract_data, str_data', str_size'] at t2
    rw [← t2, List.take_of_length_le (by simp)]
  rw [str_size'] at hs
  subst e1 e2
  rw [List.take_append_drop]
  simp
  omega
theorem cut_gap {l : List UInt8} {m : Nat} {L1 L2 : List UInt8} (h1 : (⟨l.toArray⟩ : ByteArray).extract 0 10 = ⟨L1.toArray⟩) (h2 : (⟨l.toArray⟩ : ByteArray).extract 11 (⟨l.toArray⟩ : ByteArray).size = ⟨L2.toArray⟩) (hs : (⟨l.toArray⟩ : ByteArray).size = m) (hh : 11 ≤ m) : L1.length = 10 ∧ L2.length = m - 11 := by
  rw [str_size'] at hs
  have e1 : L1 = l.take 10 := by
    have t1 : ((⟨l.toArray⟩ : ByteArray).extract 0 10).data.toList = L1 := by rw [h1]
    rw [Lib.extract_data, str_data'] at t1
    rw [← t1]
    simp
  have e2 : L2 = l.drop 11 := by
    have t2 : ((⟨l.toArray⟩ : ByteArray).extract 11 (⟨l.toArray⟩ : ByteArray).size).data.toList = L2 := by rw [h2]
    rw [Lib.extract_data, str_data', str_size'] at t2
    rw [← t2, List.take_of_length_le (by simp)]
  subst e1 e2
  simp
  omega
theorem es_length (n : Nat) : (es n).length = n := by simp [es]
theorem es_app (q j : Nat) (h : q ≤ 97 + j) : es q ++ es (97 + j - q) = es (97 + j) := by
  unfold es
  rw [List.replicate_append_replicate]
  congr 1
  omega
theorem es_get (n i : Nat) (p : List UInt8) (h : (es n)[i]? = some p) : i < n ∧ p = [] := by
  have h1 := (List.getElem?_eq_some_iff.1 h).1
  rw [es_length] at h1
  refine ⟨h1, ?_⟩
  have h2 := List.mem_of_getElem? h
  exact List.eq_of_mem_replicate h2
theorem es_at (n i : Nat) (h : i < n) : (es n)[i]? = some [] := by
  unfold es
  rw [List.getElem?_replicate, if_pos h]
theorem ok_es (n : Nat) (h : n < 4294967296) : Ok (es n) := ⟨by rw [es_length]; exact h, fun s hs => by rw [List.eq_of_mem_replicate hs]; simp⟩
theorem es_row {W : World} {g n c : Nat} (h : Tx W (.slice (some ⟨g, 0, none⟩) n c) (es n)) (hn : 0 < n) : g < W.heap.size ∧ ∀ i, i < n → W.cell? ⟨g, i, none⟩ = some (.string ⟨#[]⟩) := by
  obtain ⟨g', o, cap, hv, _, h2, h3⟩ := h.inRow (fun e => by have := es_length n; rw [e] at this; simp at this; omega)
  rw [es_length] at hv
  cases hv
  refine ⟨h2, fun i hi => ?_⟩
  have := h3 i [] (es_at n i hi)
  simpa using this
theorem es_head {W : World} {g n q : Nat} (h : Tx W (.slice (some ⟨g, 0, none⟩) n n) (es n)) (hq : q ≤ n) : Tx W (.slice (some ⟨g, 0, none⟩) q n) (es q) := by
  refine .inr ⟨_, n, by rw [es_length], by rw [es_length]; exact hq, fun hne => ⟨g, 0, rfl, ?_⟩⟩
  have h0 : 0 < q := by
    rcases Nat.eq_zero_or_pos q with e | e
    · subst e; exact absurd rfl hne
    · exact e
  obtain ⟨h1, h2⟩ := es_row h (by omega)
  refine ⟨h1, fun i p hp => ?_⟩
  obtain ⟨h3, rfl⟩ := es_get q i p hp
  rw [Nat.zero_add]
  exact h2 i (by omega)
theorem es_tail {W : World} {g n q : Nat} (h : Tx W (.slice (some ⟨g, 0, none⟩) n n) (es n)) (hq : q ≤ n) : Tx W (.slice (some ⟨g, q, none⟩) (n - q) (n - q)) (es (n - q)) := by
  refine .inr ⟨_, n - q, by rw [es_length], by rw [es_length]; exact Nat.le_refl _, fun hne => ⟨g, q, rfl, ?_⟩⟩
  have h0 : 0 < n - q := by
    rcases Nat.eq_zero_or_pos (n - q) with e | e
    · rw [e] at hne; exact absurd rfl hne
    · exact e
  obtain ⟨h1, h2⟩ := es_row h (by omega)
  refine ⟨h1, fun i p hp => ?_⟩
  obtain ⟨h3, rfl⟩ := es_get _ i p hp
  exact h2 (q + i) (by omega)
theorem flatX (W : World) (a : Addr) (M1 M2 : List UInt8) (h1 : M1.length < 4294967296) (h2 : M2.length < 4294967296) (hE : Eb W a) :
    Calls Tryd.prog 15 #[.slice (some ⟨W.heap.size, 0, none⟩) 2 2] (W.alloc (.cells #[.string ⟨M1.toArray⟩, .string ⟨M2.toArray⟩] 9)) fun e w' => ∃ ad cap, e = .returned (.tuple #[.slice ad (resL (flatB [M1, M2])).length cap, resV a (flatB [M1, M2])]) ∧ Tx w' (.slice ad (resL (flatB [M1, M2])).length cap) (resL (flatB [M1, M2])) ∧ Below W.heap.size W w' := by
  have hb := below_new W (.cells #[.string ⟨M1.toArray⟩, .string ⟨M2.toArray⟩] 9)
  have ok : Ok [M1, M2] := ⟨by simp, fun s hs => by
    simp at hs
    rcases hs with rfl | rfl
    · exact h1
    · exact h2⟩
  refine (flat_any _ [M1, M2] _ a (Tx.new W [M1, M2]) ok (hE.below hb hE.pos)).mono fun e w' ⟨h3, h4⟩ => ?_
  obtain ⟨ad, cap, h5, h6⟩ := h3.both
  exact ⟨ad, cap, h5, h6, hb.trans (h4.mono hb.size)⟩
theorem rV_none (a : Addr) : resV a none = bigV a := rfl
theorem rV_some (a : Addr) (l : List (List UInt8)) : resV a (some l) = .nilIface := rfl
theorem rL_none : resL none = [] := rfl
theorem rL_some (l : List (List UInt8)) : resL (some l) = l := rfl
theorem info130 : ∃ i, Tryd.prog.info? 130 = some i ∧ i.comparable = true := by
  have h : (Tryd.prog.info? 130).map (·.comparable) = some true := by kernel_rfl
  obtain ⟨i, hi, hc⟩ := Option.map_eq_some_iff.1 h
  exact ⟨i, hi, hc⟩
theorem err_same (a : Addr) (w : World) : (binOp .eql 27 (.iface 130 (.pointer (some a))) (.iface 130 (.pointer (some a)))).run Tryd.prog w = .ok (.bool true) w := by
  obtain ⟨i, hi, hc⟩ := info130
  have h : (Tryd.prog.info? 145).map (·.comparable) = some true := by kernel_rfl
  obtain ⟨j, hj, _⟩ := Option.map_eq_some_iff.1 h
  exact run_eql_iface_ptr_same w a Tryd.underlying27 Tryd.underlying130 hi hc hj
theorem err_nil (a : Addr) (w : World) : (binOp .eql 27 .nilIface (.iface 130 (.pointer (some a)))).run Tryd.prog w = .ok (.bool false) w :=
  run_eql_iface_nil_left w 130 (.pointer (some a)) Tryd.underlying27
theorem fits_es (n : Nat) : fitsB (es n) = decide (n ≤ 100) := by
  rw [Bool.eq_iff_iff, fitsB_iff, decide_eq_true_eq, es_length]
  exact ⟨fun h => h.1, fun h => ⟨h, fun s hs => by rw [List.eq_of_mem_replicate hs]; simp⟩⟩
theorem fits_one (s : List UInt8) : fitsB [s] = decide (s.length ≤ 2000) := by
  rw [Bool.eq_iff_iff, fitsB_iff, decide_eq_true_eq]
  exact ⟨fun h => h.2 s (by simp), fun h => ⟨by simp, fun t ht => by simp at ht; subst ht; exact h⟩⟩
theorem bound_es (n : Nat) : bound (es n) = if n ≤ 100 then some (es n) else none := by
  unfold bound
  rw [fits_es]
  simp
theorem joinB_ones (L1 L2 : List UInt8) : joinB [[L1], [L2]] = if (L1 ++ L2).length ≤ 2000 then some [L1 ++ L2] else none := by
  have h : joinB [[L1], [L2]] = if fitsB [L1 ++ L2] then (if fitsB [L1 ++ L2] then some [L1 ++ L2] else none) else none := rfl
  rw [h, fits_one]
  by_cases h1 : (L1 ++ L2).length ≤ 2000
  · rw [if_pos h1, decide_eq_true h1]; rfl
  · rw [if_neg h1, decide_eq_false h1]; rfl
/-- Two lists of new texts, the second one laid first. -/
theorem Tss.texts2r (W : World) (P Q : List (List UInt8)) :
    Tss (((W.alloc (.cells (txV Q).toArray 9)).alloc (.cells (txV P).toArray 9)).alloc (.cells #[.slice (some ⟨W.heap.size + 1, 0, none⟩) P.length P.length, .slice (some ⟨W.heap.size, 0, none⟩) Q.length Q.length] 22)) (.slice (some ⟨W.heap.size + 1 + 1, 0, none⟩) 2 2) [P, Q] := by
  have hb : ∀ (V : World) (o : Obj), Below V.heap.size V (V.alloc o) := fun V o => below_new V o
  have h1 := (Tx.new W Q).below (hb _ (.cells (txV P).toArray 9)) (Nat.le_refl _)
  have h2 := Tx.new (W.alloc (.cells (txV Q).toArray 9)) P
  have h3 := Tss.two _ _ _ P Q h2 h1
  simp only [size_alloc] at h3
  exact h3
/-- A join of two lists of one text each. -/
theorem joinX (W V : World) (a : Addr) (v : Value) (L1 L2 : List UInt8) (r : Option (List (List UInt8))) (hr : joinB [[L1], [L2]] = r) (h : Tss V v [[L1], [L2]]) (h1 : L1.length < 4294967296) (h2 : L2.length < 4294967296) (hb : Below W.heap.size W V) (hE : Eb W a) :
    Calls Tryd.prog 13 #[v] V fun e w' => ∃ ad cap, e = .returned (.tuple #[.slice ad (resL r).length cap, resV a r]) ∧ Tx w' (.slice ad (resL r).length cap) (resL r) ∧ Below W.heap.size W w' := by
  have ok1 : Ok [L1] := ⟨by simp, fun s hs => by simp at hs; subst hs; exact h1⟩
  have ok2 : Ok [L2] := ⟨by simp, fun s hs => by simp at hs; subst hs; exact h2⟩
  have := join_any v [[L1], [L2]] V a h (by simp) (ok_two ok1 ok2).1 (ok_two ok1 ok2).2 (hE.below hb hE.pos)
  rw [hr] at this
  refine this.mono fun e w' ⟨h2, h3⟩ => ?_
  obtain ⟨ad, cap, h4, h5⟩ := h2.both
  exact ⟨ad, cap, h4, h5, hb.trans (h3.mono hb.size)⟩

set_option maxRecDepth 100000 in
set_option maxHeartbeats 4000000 in
theorem bounds_main (x y : Int) (w : World) (a : Addr) (hE : Eb w a) :
    Calls Tryd.prog 6 #[.int .i64 x, .int .i64 y] w fun e w' => e = .returned (.bool true) ∧ Below w.heap.size w w' := by
  obtain ⟨i0, hi0, hz0, hz1, hz2⟩ := info_parts info9
  have HE : Hid (∀ W, Below w.heap.size w W → Eb W a) := fun W h => hE.below h hE.pos
  obtain ⟨j, hj, hbj⟩ := and7 x
  obtain ⟨k, hk, hbk⟩ := and7 y
  clear hE
  go_enter Tryd.func6, Tryd.ntmps6
  go_wp2_with fail
  refine (first_any _ a (HE.out _ (Below.refl _ _))).mono ?_
  rintro e w1 ⟨rfl, hb1⟩
  go_wp2_with (at_make; refine wpList_make_full _ rfl _ _ 22 rfl w1.heap.size 9 i0 (.string ⟨#[]⟩) 1 Tryd.underlying22 hi0 hz0 hz1 .i64 .i64 _ _ (97 + j) rfl rfl (by simp) (by simp) (by rw [hz2]; omega) (by have := maxLen_big; omega) (Nat.le_refl _) ?_; intro w2 hown2 hgrow2)
  have b12 : Below w1.heap.size w1 w2 := (Below.refl _ w1).grown hgrow2 (Nat.le_refl _) fun q e => by cases e
  have hb2 := hb1.trans (b12.mono hb1.size)
  rw [es_cells] at hown2
  have HLW : Hid (∀ W, Below w2.heap.size w2 W → Tx W (.slice (some ⟨w1.heap.size, 0, none⟩) (97 + j) (97 + j)) (es (97 + j))) := fun W hW => by
    have h1 : (es (97 + j)).length = 97 + j := by simp [es]
    have h2 := hown2
    rw [← h1] at h2
    have h3 := (Tx.owned (ps := es (97 + j)) (by rw [h1] at h2 ⊢; exact h2)).below hW (Nat.le_refl _)
    exact h3
  clear hown2 hgrow2 b12 hb1
  go_loopw [7, 8] (fun v7 v8 wr => ∃ i : Nat, v8 = .int .i64 i ∧ i ≤ 1997 + k ∧ v7 = .string ⟨(xs i).toArray⟩ ∧ wr = w2) (fun _ v8 _ => 1997 + k - (intOf v8).toNat)
  case atStart => exact ⟨0, rfl, by omega, rfl, rfl⟩
  case round =>
    obtain ⟨i, rfl, hi, rfl, hwr⟩ := hrel
    obtain rfl := hwr.symm
    have hsz : (⟨(xs i).toArray⟩ : ByteArray).size ≤ 2004 := by rw [str_size', xs_length]; omega
    have hxl : (xs i).length ≤ 2004 := by rw [xs_length]; omega
    by_cases hil : i < 1997 + k
    · have HXS : Hid _ := xs_succ i
      go_wp2_with fail
      exact ⟨⟨i + 1, by simp, by omega, by rw [← HXS.out], trivial⟩, by simp [intOf]; omega⟩
    · have hiz : i = 1997 + k := by omega
      subst hiz
      obtain ⟨S, HS⟩ : ∃ S, Hid ((⟨(xs (1997 + k)).toArray⟩ : ByteArray) = S) := ⟨_, rfl⟩
      have HSZ : Hid (S.size = 1997 + k) := by unfold Hid; rw [← HS.out, str_size', xs_length]
      have hs1 : S.size ≤ 1997 + k := by rw [HSZ.out]; exact Nat.le_refl _
      have hs2 : 1997 + k ≤ S.size := by rw [HSZ.out]; exact Nat.le_refl _
      rw [HS.out]
      clear hsz hxl
      go_wp2_with fail
      obtain ⟨r1, HR1⟩ : ∃ r, Hid (bound (es (97 + j)) = r) := ⟨_, rfl⟩
      have okE : Hid (Ok (es (97 + j))) := ⟨by simp [es]; omega, fun s hs => by rw [List.eq_of_mem_replicate hs]; simp⟩
      have HC1 : Hid _ := cat_any _ [es (97 + j)] _ a (Tss.one w2 _ (es (97 + j)) (HLW.out _ (Below.refl _ _))) (by simp) (ok_one okE.out).1 (Eb.below (HE.out _ hb2) (below_new _ _) (Eb.pos (HE.out _ hb2)))
      rw [gatAll_one, HR1.out] at HC1
      refine Calls.mono HC1.out ?_
      rintro e w3 ⟨hg3, hb3'⟩
      obtain ⟨ad3, cap3, rfl, ht3⟩ := hg3.both
      have b23 : Below w2.heap.size w2 w3 := (below_new w2 _).trans (hb3'.mono (below_new w2 _).size)
      have HT3 : Hid (∀ W, Below w3.heap.size w3 W → Tx W (.slice ad3 (resL r1).length cap3) (resL r1)) := fun W hW => ht3.below hW (Nat.le_refl _)
      clear ht3 hg3 hb3' HC1
      obtain ⟨h, HH⟩ : ∃ h, Hid (h = (1997 + k) / 2) := ⟨_, rfl⟩
      have hh1 : 2 * h ≤ 1997 + k := by have := HH.out; omega
      have hh2 : 1997 + k ≤ 2 * h + 1 := by have := HH.out; omega
      have hq1 : ((1997 : Int) + (k : Int)) / 2 = (h : Int) := by omega
      have hq2 : ((1997 : Int) + (k : Int)).tdiv 2 = (h : Int) := by rw [Int.tdiv_eq_ediv_of_nonneg (by omega)]; exact hq1
      obtain ⟨L1, HL1⟩ : ∃ L1 : List UInt8, Hid (S.extract 0 h = ⟨L1.toArray⟩) := ⟨_, bytes_eq (S.extract 0 h)⟩
      obtain ⟨L2, HL2⟩ : ∃ L2 : List UInt8, Hid (S.extract h S.size = ⟨L2.toArray⟩) := ⟨_, bytes_eq (S.extract h S.size)⟩
      have HLL : Hid (L1.length + L2.length = 1997 + k ∧ L1 ++ L2 = xs (1997 + k)) := cut_two (by rw [HS.out]; exact HL1.out) (by rw [HS.out]; exact HL2.out) (by rw [HS.out]; exact HSZ.out) (by omega)
      obtain ⟨r2, HR2⟩ : ∃ r, Hid (joinB [[L1], [L2]] = r) := ⟨_, rfl⟩
      have HE3 : Hid (Eb w3 a) := HE.out _ (hb2.trans (b23.mono hb2.size))
      go_upto_region 11 with fail
      go_cut [11, 12] from 41 to 55 (fun v11 v12 wx => ∃ ad cap, v11 = .slice ad (resL r2).length cap ∧ v12 = resV a r2 ∧ Tx wx (.slice ad (resL r2).length cap) (resL r2) ∧ Below w3.heap.size w3 wx)
      case first => as_aux_lemma =>
        refine wp_region_any (by kernel_rfl) ?_
        try (change wpAny _ _ _ _ _ _ _ (World.drew _))
        have hd3 : Below w3.heap.size w3 w3.drew := (Below.refl _ w3).drew
        generalize w3.drew = W0 at hd3 ⊢
        refine wpAny_take (i := 0) (v := .string S) rfl (by kernel_rfl) (by kernel_rfl) (by kernel_rfl) (fun _ _ _ h => h) (Or.inl ⟨by rfl, by intro wz; go_simp⟩) ?_
        try simp only [Act.put, List.getElem_toArray, List.getElem_cons_zero, List.setIfInBounds_toArray, List.set_cons_zero, List.set_cons_succ]
        refine wpAny_take (i := 1) (v := .int .i64 (1997 + (k : Int))) rfl (by kernel_rfl) (by kernel_rfl) (by kernel_rfl) (fun _ _ _ h => h) (Or.inl ⟨by rfl, by intro wz; go_simp⟩) ?_
        try simp only [Act.put, List.getElem_toArray, List.getElem_cons_succ, List.getElem_cons_zero, List.setIfInBounds_toArray, List.set_cons_zero, List.set_cons_succ]
        refine wpAny_take (i := 2) (v := .int .i64 (h : Int)) rfl (by kernel_rfl) (by kernel_rfl) (by kernel_rfl) (fun _ _ _ h => h) (Or.inl ⟨by rfl, by intro wz; go_simp; rw [IntKind.wrap_i64]; omega⟩) ?_
        try simp only [Act.put, List.getElem_toArray, List.getElem_cons_succ, List.getElem_cons_zero, List.setIfInBounds_toArray, List.set_cons_zero, List.set_cons_succ]
        refine wpAny_take (i := 3) (v := .string (S.extract 0 h)) rfl (by kernel_rfl) (by kernel_rfl) (by kernel_rfl) (fun _ _ _ h => h) (Or.inl ⟨by rfl, by intro wz; go_simp; intro h9; omega⟩) ?_
        try simp only [Act.put, List.getElem_toArray, List.getElem_cons_succ, List.getElem_cons_zero, List.setIfInBounds_toArray, List.set_cons_zero, List.set_cons_succ]
        refine wpAny_take (i := 5) (v := .string S) rfl (by kernel_rfl) (by kernel_rfl) (by kernel_rfl) (fun _ _ _ h => h) (Or.inl ⟨by rfl, by intro wz; go_simp⟩) ?_
        try simp only [Act.put, List.getElem_toArray, List.getElem_cons_succ, List.getElem_cons_zero, List.setIfInBounds_toArray, List.set_cons_zero, List.set_cons_succ]
        refine wpAny_take (i := 6) (v := .int .i64 (1997 + (k : Int))) rfl (by kernel_rfl) (by kernel_rfl) (by kernel_rfl) (fun _ _ _ h => h) (Or.inl ⟨by rfl, by intro wz; go_simp⟩) ?_
        try simp only [Act.put, List.getElem_toArray, List.getElem_cons_succ, List.getElem_cons_zero, List.setIfInBounds_toArray, List.set_cons_zero, List.set_cons_succ]
        refine wpAny_take (i := 7) (v := .int .i64 (h : Int)) rfl (by kernel_rfl) (by kernel_rfl) (by kernel_rfl) (fun _ _ _ h => h) (Or.inl ⟨by rfl, by intro wz; go_simp; rw [IntKind.wrap_i64]; omega⟩) ?_
        try simp only [Act.put, List.getElem_toArray, List.getElem_cons_succ, List.getElem_cons_zero, List.setIfInBounds_toArray, List.set_cons_zero, List.set_cons_succ]
        refine wpAny_take (i := 8) (v := .string (S.extract h S.size)) rfl (by kernel_rfl) (by kernel_rfl) (by kernel_rfl) (fun _ _ _ h => h) (Or.inl ⟨by rfl, by intro wz; go_simp; intro h9; omega⟩) ?_
        try simp only [Act.put, List.getElem_toArray, List.getElem_cons_succ, List.getElem_cons_zero, List.setIfInBounds_toArray, List.set_cons_zero, List.set_cons_succ]
        rw [HL1.out, HL2.out]
        refine wpAny_ready (rs := [4, 9]) (by kernel_rfl) (by simp) ?_
        refine AllReady.cons rfl (fun K hK => ?_) ?_
        · go_simp
          refine hK _ _ ?_
          clear hK K
          try simp only [Act.put, List.getElem_toArray, List.getElem_cons_succ, List.getElem_cons_zero, List.setIfInBounds_toArray, List.set_cons_zero, List.set_cons_succ]
          refine wpAny_ready (rs := [9]) (by kernel_rfl) (by simp) ?_
          refine AllReady.cons rfl (fun K hK => ?_) ?_
          · go_simp
            refine hK _ _ ?_
            clear hK K
            try simp only [Act.put, List.getElem_toArray, List.getElem_cons_succ, List.getElem_cons_zero, List.setIfInBounds_toArray, List.set_cons_zero, List.set_cons_succ]
            refine wpAny_ready (rs := [10]) (by kernel_rfl) (by simp) ?_
            refine AllReady.cons rfl (fun K hK => ?_) ?_
            · go_simp
              refine hK _ _ ?_
              clear hK K
              try simp only [Act.put, List.getElem_toArray, List.getElem_cons_succ, List.getElem_cons_zero, List.setIfInBounds_toArray, List.set_cons_zero, List.set_cons_succ]
              refine wpAny_ready (rs := [11]) (by kernel_rfl) (by simp) ?_
              refine AllReady.cons rfl (fun K hK => ?_) ?_
              · go_simp
                refine (joinX W0 _ a _ L1 L2 r2 HR2.out (Tss.texts2 W0 [L1] [L2]) (by have := HLL.out.1; omega) (by have := HLL.out.1; omega) (((below_new _ _).trans ((below_new _ _).mono (below_new _ _).size)).trans ((below_new _ _).mono (by simp; omega))) (Eb.below HE3.out hd3 (Eb.pos HE3.out))).mono ?_
                rintro e w4 ⟨ad4, cap4, rfl, ht4, hb4⟩
                refine hK _ _ ?_
                clear hK K
                try simp only [Act.put, List.getElem_toArray, List.getElem_cons_succ, List.getElem_cons_zero, List.setIfInBounds_toArray, List.set_cons_zero, List.set_cons_succ]
                refine wpAny_take (i := 12) (v := .tuple #[.slice ad4 (resL r2).length cap4, resV a r2]) rfl (by kernel_rfl) (by kernel_rfl) (by kernel_rfl) (fun _ _ _ h => h) (Or.inl ⟨by rfl, by intro wz; go_simp⟩) ?_
                try simp only [Act.put, List.getElem_toArray, List.getElem_cons_succ, List.getElem_cons_zero, List.setIfInBounds_toArray, List.set_cons_zero, List.set_cons_succ]
                refine wpAny_take (i := 13) (v := .slice ad4 (resL r2).length cap4) rfl (by kernel_rfl) (by kernel_rfl) (by kernel_rfl) (fun _ _ _ h => h) (Or.inl ⟨by rfl, by intro wz; go_simp⟩) ?_
                try simp only [Act.put, List.getElem_toArray, List.getElem_cons_succ, List.getElem_cons_zero, List.setIfInBounds_toArray, List.set_cons_zero, List.set_cons_succ]
                refine wpAny_take (i := 14) (v := resV a r2) rfl (by kernel_rfl) (by kernel_rfl) (by kernel_rfl) (fun _ _ _ h => h) (Or.inl ⟨by rfl, by intro wz; go_simp⟩) ?_
                try simp only [Act.put, List.getElem_toArray, List.getElem_cons_succ, List.getElem_cons_zero, List.setIfInBounds_toArray, List.set_cons_zero, List.set_cons_succ]
                refine wpAny_take (i := 15) (v := .slice ad4 (resL r2).length cap4) rfl (by kernel_rfl) (by kernel_rfl) (by kernel_rfl) (fun _ _ _ h => h) (Or.inl ⟨by rfl, by intro wz; go_simp⟩) ?_
                try simp only [Act.put, List.getElem_toArray, List.getElem_cons_succ, List.getElem_cons_zero, List.setIfInBounds_toArray, List.set_cons_zero, List.set_cons_succ]
                refine wpAny_take (i := 16) (v := resV a r2) rfl (by kernel_rfl) (by kernel_rfl) (by kernel_rfl) (fun _ _ _ h => h) (Or.inl ⟨by rfl, by intro wz; go_simp⟩) ?_
                try simp only [Act.put, List.getElem_toArray, List.getElem_cons_succ, List.getElem_cons_zero, List.setIfInBounds_toArray, List.set_cons_zero, List.set_cons_succ]
                refine wpAny_done (by kernel_rfl) ?_ _
                go_wp2_with fail
                go_meet
                case rel => exact ⟨ad4, cap4, rfl, rfl, ht4, hd3.trans (hb4.mono hd3.size)⟩
              exact AllReady.nil
            exact AllReady.nil
          exact AllReady.nil
        refine AllReady.cons rfl (fun K hK => ?_) ?_
        · go_simp
          refine hK _ _ ?_
          clear hK K
          try simp only [Act.put, List.getElem_toArray, List.getElem_cons_succ, List.getElem_cons_zero, List.setIfInBounds_toArray, List.set_cons_zero, List.set_cons_succ]
          refine wpAny_ready (rs := [4]) (by kernel_rfl) (by simp) ?_
          refine AllReady.cons rfl (fun K hK => ?_) ?_
          · go_simp
            refine hK _ _ ?_
            clear hK K
            try simp only [Act.put, List.getElem_toArray, List.getElem_cons_succ, List.getElem_cons_zero, List.setIfInBounds_toArray, List.set_cons_zero, List.set_cons_succ]
            refine wpAny_ready (rs := [10]) (by kernel_rfl) (by simp) ?_
            refine AllReady.cons rfl (fun K hK => ?_) ?_
            · go_simp
              refine hK _ _ ?_
              clear hK K
              try simp only [Act.put, List.getElem_toArray, List.getElem_cons_succ, List.getElem_cons_zero, List.setIfInBounds_toArray, List.set_cons_zero, List.set_cons_succ]
              refine wpAny_ready (rs := [11]) (by kernel_rfl) (by simp) ?_
              refine AllReady.cons rfl (fun K hK => ?_) ?_
              · go_simp
                refine (joinX W0 _ a _ L1 L2 r2 HR2.out (Tss.texts2r W0 [L1] [L2]) (by have := HLL.out.1; omega) (by have := HLL.out.1; omega) (((below_new _ _).trans ((below_new _ _).mono (below_new _ _).size)).trans ((below_new _ _).mono (by simp; omega))) (Eb.below HE3.out hd3 (Eb.pos HE3.out))).mono ?_
                rintro e w4 ⟨ad4, cap4, rfl, ht4, hb4⟩
                refine hK _ _ ?_
                clear hK K
                try simp only [Act.put, List.getElem_toArray, List.getElem_cons_succ, List.getElem_cons_zero, List.setIfInBounds_toArray, List.set_cons_zero, List.set_cons_succ]
                refine wpAny_take (i := 12) (v := .tuple #[.slice ad4 (resL r2).length cap4, resV a r2]) rfl (by kernel_rfl) (by kernel_rfl) (by kernel_rfl) (fun _ _ _ h => h) (Or.inl ⟨by rfl, by intro wz; go_simp⟩) ?_
                try simp only [Act.put, List.getElem_toArray, List.getElem_cons_succ, List.getElem_cons_zero, List.setIfInBounds_toArray, List.set_cons_zero, List.set_cons_succ]
                refine wpAny_take (i := 13) (v := .slice ad4 (resL r2).length cap4) rfl (by kernel_rfl) (by kernel_rfl) (by kernel_rfl) (fun _ _ _ h => h) (Or.inl ⟨by rfl, by intro wz; go_simp⟩) ?_
                try simp only [Act.put, List.getElem_toArray, List.getElem_cons_succ, List.getElem_cons_zero, List.setIfInBounds_toArray, List.set_cons_zero, List.set_cons_succ]
                refine wpAny_take (i := 14) (v := resV a r2) rfl (by kernel_rfl) (by kernel_rfl) (by kernel_rfl) (fun _ _ _ h => h) (Or.inl ⟨by rfl, by intro wz; go_simp⟩) ?_
                try simp only [Act.put, List.getElem_toArray, List.getElem_cons_succ, List.getElem_cons_zero, List.setIfInBounds_toArray, List.set_cons_zero, List.set_cons_succ]
                refine wpAny_take (i := 15) (v := .slice ad4 (resL r2).length cap4) rfl (by kernel_rfl) (by kernel_rfl) (by kernel_rfl) (fun _ _ _ h => h) (Or.inl ⟨by rfl, by intro wz; go_simp⟩) ?_
                try simp only [Act.put, List.getElem_toArray, List.getElem_cons_succ, List.getElem_cons_zero, List.setIfInBounds_toArray, List.set_cons_zero, List.set_cons_succ]
                refine wpAny_take (i := 16) (v := resV a r2) rfl (by kernel_rfl) (by kernel_rfl) (by kernel_rfl) (fun _ _ _ h => h) (Or.inl ⟨by rfl, by intro wz; go_simp⟩) ?_
                try simp only [Act.put, List.getElem_toArray, List.getElem_cons_succ, List.getElem_cons_zero, List.setIfInBounds_toArray, List.set_cons_zero, List.set_cons_succ]
                refine wpAny_done (by kernel_rfl) ?_ _
                go_wp2_with fail
                go_meet
                case rel => exact ⟨ad4, cap4, rfl, rfl, ht4, hd3.trans (hb4.mono hd3.size)⟩
              exact AllReady.nil
            exact AllReady.nil
          exact AllReady.nil
        exact AllReady.nil
      case rest =>
        obtain ⟨ad4, cap4, rfl, rfl, ht4, b34⟩ := hcut
        obtain ⟨w4, hw4⟩ : ∃ w4, w4 = wc := ⟨_, rfl⟩
        rw [← hw4] at ht4 b34
        rw [← hw4]
        clear hw4
        have HT4 : Hid (∀ W, Below w4.heap.size w4 W → Tx W (.slice ad4 (resL r2).length cap4) (resL r2)) := fun W hW => ht4.below hW (Nat.le_refl _)
        clear ht4
        obtain ⟨q, HQ⟩ : ∃ q, Hid (q = (97 + j) / 2) := ⟨_, rfl⟩
        have hq3 : 2 * q ≤ 97 + j := by have := HQ.out; omega
        have hq4 : 97 + j ≤ 2 * q + 1 := by have := HQ.out; omega
        have hq5 : ((97 : Int) + (j : Int)) / 2 = (q : Int) := by omega
        have hq6 : ((97 : Int) + (j : Int)).tdiv 2 = (q : Int) := by rw [Int.tdiv_eq_ediv_of_nonneg (by omega)]; exact hq5
        have b24 := b23.trans (b34.mono b23.size)
        have HE4 : Hid (Eb w4 a) := Eb.below HE3.out b34 (Eb.pos HE3.out)
        go_upto_region 12 with fail
        refine wp_region_any (by kernel_rfl) ?_
        try (change wpAny _ _ _ _ _ _ _ (World.drew _))
        have hd4 : Below w4.heap.size w4 w4.drew := (Below.refl _ w4).drew
        generalize w4.drew = W1 at hd4 ⊢
        refine wpAny_take (i := 0) (v := .slice (some ⟨w1.heap.size, 0, none⟩) (97 + j) (97 + j)) rfl (by kernel_rfl) (by kernel_rfl) (by kernel_rfl) (fun _ _ _ h => h) (Or.inl ⟨by rfl, by intro wz; go_simp⟩) ?_
        try simp only [Act.put, List.getElem_toArray, List.getElem_cons_zero, List.setIfInBounds_toArray, List.set_cons_zero, List.set_cons_succ]
        refine wpAny_take (i := 1) (v := .int .i64 (97 + (j : Int))) rfl (by kernel_rfl) (by kernel_rfl) (by kernel_rfl) (fun _ _ _ h => h) (Or.inl ⟨by rfl, by intro wz; go_simp⟩) ?_
        try simp only [Act.put, List.getElem_toArray, List.getElem_cons_succ, List.getElem_cons_zero, List.setIfInBounds_toArray, List.set_cons_zero, List.set_cons_succ]
        refine wpAny_take (i := 2) (v := .int .i64 (q : Int)) rfl (by kernel_rfl) (by kernel_rfl) (by kernel_rfl) (fun _ _ _ h => h) (Or.inl ⟨by rfl, by intro wz; go_simp; rw [IntKind.wrap_i64]; omega⟩) ?_
        try simp only [Act.put, List.getElem_toArray, List.getElem_cons_succ, List.getElem_cons_zero, List.setIfInBounds_toArray, List.set_cons_zero, List.set_cons_succ]
        refine wpAny_take (i := 3) (v := .slice (some ⟨w1.heap.size, 0, none⟩) q (97 + j)) rfl (by kernel_rfl) (by kernel_rfl) (by kernel_rfl) (fun _ _ _ h => h) (Or.inl ⟨by rfl, by intro wz; go_simp; intro h9; omega⟩) ?_
        try simp only [Act.put, List.getElem_toArray, List.getElem_cons_succ, List.getElem_cons_zero, List.setIfInBounds_toArray, List.set_cons_zero, List.set_cons_succ]
        refine wpAny_take (i := 4) (v := .slice (some ⟨w1.heap.size, 0, none⟩) (97 + j) (97 + j)) rfl (by kernel_rfl) (by kernel_rfl) (by kernel_rfl) (fun _ _ _ h => h) (Or.inl ⟨by rfl, by intro wz; go_simp⟩) ?_
        try simp only [Act.put, List.getElem_toArray, List.getElem_cons_succ, List.getElem_cons_zero, List.setIfInBounds_toArray, List.set_cons_zero, List.set_cons_succ]
        refine wpAny_take (i := 5) (v := .int .i64 (97 + (j : Int))) rfl (by kernel_rfl) (by kernel_rfl) (by kernel_rfl) (fun _ _ _ h => h) (Or.inl ⟨by rfl, by intro wz; go_simp⟩) ?_
        try simp only [Act.put, List.getElem_toArray, List.getElem_cons_succ, List.getElem_cons_zero, List.setIfInBounds_toArray, List.set_cons_zero, List.set_cons_succ]
        refine wpAny_take (i := 6) (v := .int .i64 (q : Int)) rfl (by kernel_rfl) (by kernel_rfl) (by kernel_rfl) (fun _ _ _ h => h) (Or.inl ⟨by rfl, by intro wz; go_simp; rw [IntKind.wrap_i64]; omega⟩) ?_
        try simp only [Act.put, List.getElem_toArray, List.getElem_cons_succ, List.getElem_cons_zero, List.setIfInBounds_toArray, List.set_cons_zero, List.set_cons_succ]
        refine wpAny_take (i := 7) (v := .slice (some ⟨w1.heap.size, q, none⟩) (97 + j - q) (97 + j - q)) rfl (by kernel_rfl) (by kernel_rfl) (by kernel_rfl) (fun _ _ _ h => h) (Or.inl ⟨by rfl, by intro wz; go_simp; rw [if_pos (by omega), if_neg (by omega)]⟩) ?_
        try simp only [Act.put, List.getElem_toArray, List.getElem_cons_succ, List.getElem_cons_zero, List.setIfInBounds_toArray, List.set_cons_zero, List.set_cons_succ]
        refine wpAny_ready (rs := [8]) (by kernel_rfl) (by simp) ?_
        refine AllReady.cons rfl (fun K hK => ?_) ?_
        · go_simp
          refine hK _ _ ?_
          clear hK K
          try simp only [Act.put, List.getElem_toArray, List.getElem_cons_succ, List.getElem_cons_zero, List.setIfInBounds_toArray, List.set_cons_zero, List.set_cons_succ]
          refine wpAny_ready (rs := [9]) (by kernel_rfl) (by simp) ?_
          refine AllReady.cons rfl (fun K hK => ?_) ?_
          · go_simp
            have hL1 := HLW.out _ (b24.trans (hd4.mono b24.size))
            have hct := cat2_any W1 a _ _ (es q) (es (97 + j - q)) (es_head hL1 (by omega)) (es_tail hL1 (by omega)) (ok_es q (by omega)) (ok_es _ (by omega)) (Eb.below HE4.out hd4 (Eb.pos HE4.out))
            rw [es_app q j (by omega), HR1.out] at hct
            refine hct.mono ?_
            clear hct hL1
            rintro e w5 ⟨ad5, cap5, rfl, ht5, b5⟩
            refine hK _ _ ?_
            clear hK K
            try simp only [Act.put, List.getElem_toArray, List.getElem_cons_succ, List.getElem_cons_zero, List.setIfInBounds_toArray, List.set_cons_zero, List.set_cons_succ]
            refine wpAny_take (i := 10) (v := .tuple #[.slice ad5 (resL r1).length cap5, resV a r1]) rfl (by kernel_rfl) (by kernel_rfl) (by kernel_rfl) (fun _ _ _ h => h) (Or.inl ⟨by rfl, by intro wz; go_simp⟩) ?_
            try simp only [Act.put, List.getElem_toArray, List.getElem_cons_succ, List.getElem_cons_zero, List.setIfInBounds_toArray, List.set_cons_zero, List.set_cons_succ]
            refine wpAny_take (i := 11) (v := .slice ad5 (resL r1).length cap5) rfl (by kernel_rfl) (by kernel_rfl) (by kernel_rfl) (fun _ _ _ h => h) (Or.inl ⟨by rfl, by intro wz; go_simp⟩) ?_
            try simp only [Act.put, List.getElem_toArray, List.getElem_cons_succ, List.getElem_cons_zero, List.setIfInBounds_toArray, List.set_cons_zero, List.set_cons_succ]
            refine wpAny_take (i := 12) (v := resV a r1) rfl (by kernel_rfl) (by kernel_rfl) (by kernel_rfl) (fun _ _ _ h => h) (Or.inl ⟨by rfl, by intro wz; go_simp⟩) ?_
            try simp only [Act.put, List.getElem_toArray, List.getElem_cons_succ, List.getElem_cons_zero, List.setIfInBounds_toArray, List.set_cons_zero, List.set_cons_succ]
            refine wpAny_take (i := 13) (v := .slice ad5 (resL r1).length cap5) rfl (by kernel_rfl) (by kernel_rfl) (by kernel_rfl) (fun _ _ _ h => h) (Or.inl ⟨by rfl, by intro wz; go_simp⟩) ?_
            try simp only [Act.put, List.getElem_toArray, List.getElem_cons_succ, List.getElem_cons_zero, List.setIfInBounds_toArray, List.set_cons_zero, List.set_cons_succ]
            refine wpAny_take (i := 14) (v := resV a r1) rfl (by kernel_rfl) (by kernel_rfl) (by kernel_rfl) (fun _ _ _ h => h) (Or.inl ⟨by rfl, by intro wz; go_simp⟩) ?_
            try simp only [Act.put, List.getElem_toArray, List.getElem_cons_succ, List.getElem_cons_zero, List.setIfInBounds_toArray, List.set_cons_zero, List.set_cons_succ]
            refine wpAny_done (by kernel_rfl) ?_ _
            have b45 := hd4.trans (b5.mono hd4.size)
            have HT5 : Hid (∀ W, Below w5.heap.size w5 W → Tx W (.slice ad5 (resL r1).length cap5) (resL r1)) := fun W hW => ht5.below hW (Nat.le_refl _)
            clear ht5 b5 hd4
            obtain ⟨M1, HM1⟩ : ∃ M1 : List UInt8, Hid (S.extract 0 10 = ⟨M1.toArray⟩) := ⟨_, bytes_eq (S.extract 0 10)⟩
            obtain ⟨M2, HM2⟩ : ∃ M2 : List UInt8, Hid (S.extract 11 S.size = ⟨M2.toArray⟩) := ⟨_, bytes_eq (S.extract 11 S.size)⟩
            have HML : Hid (M1.length = 10 ∧ M2.length = 1997 + k - 11) := cut_gap (by rw [HS.out]; exact HM1.out) (by rw [HS.out]; exact HM2.out) (by rw [HS.out]; exact HSZ.out) (by omega)
            obtain ⟨r4, HR4⟩ : ∃ r, Hid (flatB [M1, M2] = r) := ⟨_, rfl⟩
            have HE5 : Hid (Eb w5 a) := Eb.below HE4.out b45 (Eb.pos HE4.out)
            go_upto_region 13 with fail
            refine wp_region_any (by kernel_rfl) ?_
            try (change wpAny _ _ _ _ _ _ _ (World.drew _))
            have hd5 : Below w5.heap.size w5 w5.drew := (Below.refl _ w5).drew
            generalize w5.drew = W2 at hd5 ⊢
            refine wpAny_take (i := 0) (v := .string S) rfl (by kernel_rfl) (by kernel_rfl) (by kernel_rfl) (fun _ _ _ h => h) (Or.inl ⟨by rfl, by intro wz; go_simp⟩) ?_
            try simp only [Act.put, List.getElem_toArray, List.getElem_cons_zero, List.setIfInBounds_toArray, List.set_cons_zero, List.set_cons_succ]
            refine wpAny_take (i := 1) (v := .string (S.extract 0 10)) rfl (by kernel_rfl) (by kernel_rfl) (by kernel_rfl) (fun _ _ _ h => h) (Or.inl ⟨by rfl, by intro wz; go_simp; intro h9; omega⟩) ?_
            try simp only [Act.put, List.getElem_toArray, List.getElem_cons_succ, List.getElem_cons_zero, List.setIfInBounds_toArray, List.set_cons_zero, List.set_cons_succ]
            refine wpAny_take (i := 2) (v := .string S) rfl (by kernel_rfl) (by kernel_rfl) (by kernel_rfl) (fun _ _ _ h => h) (Or.inl ⟨by rfl, by intro wz; go_simp⟩) ?_
            try simp only [Act.put, List.getElem_toArray, List.getElem_cons_succ, List.getElem_cons_zero, List.setIfInBounds_toArray, List.set_cons_zero, List.set_cons_succ]
            refine wpAny_take (i := 3) (v := .string (S.extract 11 S.size)) rfl (by kernel_rfl) (by kernel_rfl) (by kernel_rfl) (fun _ _ _ h => h) (Or.inl ⟨by rfl, by intro wz; go_simp; intro h9; omega⟩) ?_
            try simp only [Act.put, List.getElem_toArray, List.getElem_cons_succ, List.getElem_cons_zero, List.setIfInBounds_toArray, List.set_cons_zero, List.set_cons_succ]
            rw [HM1.out, HM2.out]
            refine wpAny_ready (rs := [4]) (by kernel_rfl) (by simp) ?_
            refine AllReady.cons rfl (fun K hK => ?_) ?_
            · go_simp
              refine hK _ _ ?_
              clear hK K
              try simp only [Act.put, List.getElem_toArray, List.getElem_cons_succ, List.getElem_cons_zero, List.setIfInBounds_toArray, List.set_cons_zero, List.set_cons_succ]
              refine wpAny_ready (rs := [5]) (by kernel_rfl) (by simp) ?_
              refine AllReady.cons rfl (fun K hK => ?_) ?_
              · go_simp
                have hft := flatX W2 a M1 M2 (by have := HML.out; omega) (by have := HML.out; omega) (Eb.below HE5.out hd5 (Eb.pos HE5.out))
                rw [HR4.out] at hft
                refine hft.mono ?_
                clear hft
                rintro e w6 ⟨ad6, cap6, rfl, ht6, b6⟩
                refine hK _ _ ?_
                clear hK K
                try simp only [Act.put, List.getElem_toArray, List.getElem_cons_succ, List.getElem_cons_zero, List.setIfInBounds_toArray, List.set_cons_zero, List.set_cons_succ]
                refine wpAny_take (i := 6) (v := .tuple #[.slice ad6 (resL r4).length cap6, resV a r4]) rfl (by kernel_rfl) (by kernel_rfl) (by kernel_rfl) (fun _ _ _ h => h) (Or.inl ⟨by rfl, by intro wz; go_simp⟩) ?_
                try simp only [Act.put, List.getElem_toArray, List.getElem_cons_succ, List.getElem_cons_zero, List.setIfInBounds_toArray, List.set_cons_zero, List.set_cons_succ]
                refine wpAny_take (i := 7) (v := .slice ad6 (resL r4).length cap6) rfl (by kernel_rfl) (by kernel_rfl) (by kernel_rfl) (fun _ _ _ h => h) (Or.inl ⟨by rfl, by intro wz; go_simp⟩) ?_
                try simp only [Act.put, List.getElem_toArray, List.getElem_cons_succ, List.getElem_cons_zero, List.setIfInBounds_toArray, List.set_cons_zero, List.set_cons_succ]
                refine wpAny_take (i := 8) (v := resV a r4) rfl (by kernel_rfl) (by kernel_rfl) (by kernel_rfl) (fun _ _ _ h => h) (Or.inl ⟨by rfl, by intro wz; go_simp⟩) ?_
                try simp only [Act.put, List.getElem_toArray, List.getElem_cons_succ, List.getElem_cons_zero, List.setIfInBounds_toArray, List.set_cons_zero, List.set_cons_succ]
                refine wpAny_take (i := 9) (v := .slice ad6 (resL r4).length cap6) rfl (by kernel_rfl) (by kernel_rfl) (by kernel_rfl) (fun _ _ _ h => h) (Or.inl ⟨by rfl, by intro wz; go_simp⟩) ?_
                try simp only [Act.put, List.getElem_toArray, List.getElem_cons_succ, List.getElem_cons_zero, List.setIfInBounds_toArray, List.set_cons_zero, List.set_cons_succ]
                refine wpAny_take (i := 10) (v := resV a r4) rfl (by kernel_rfl) (by kernel_rfl) (by kernel_rfl) (fun _ _ _ h => h) (Or.inl ⟨by rfl, by intro wz; go_simp⟩) ?_
                try simp only [Act.put, List.getElem_toArray, List.getElem_cons_succ, List.getElem_cons_zero, List.setIfInBounds_toArray, List.set_cons_zero, List.set_cons_succ]
                refine wpAny_done (by kernel_rfl) ?_ _
                have b56 := hd5.trans (b6.mono hd5.size)
                have HT6 : Hid (∀ W, Below w6.heap.size w6 W → Tx W (.slice ad6 (resL r4).length cap6) (resL r4)) := fun W hW => ht6.below hW (Nat.le_refl _)
                clear ht6 b6 hd5
                have b46 := b45.trans (b56.mono b45.size)
                have b26 := b24.trans (b46.mono b24.size)
                have hb6 := hb2.trans (b26.mono hb2.size)
                have HE6 : Hid (Eb w6 a) := HE.out _ hb6
                have HL6 : Hid _ := HLW.out _ b26
                have herr := err_same a
                have hern := err_nil a
                have c6 := HE6.out.1
                clear b45 b56 b34 b23 b24 b26 HE3 HE4 HE5 HLW HL1 HL2 HM1 HM2 hh1 hh2 hq1 hq2 hq3 hq4 hq5 hq6 HH HQ hbj hbk HE
                by_cases hj3 : j ≤ 3
                · by_cases hk3 : k ≤ 3
                  · have e1 : r1 = some (es (97 + j)) := by rw [← HR1.out, bound_es, if_pos (by omega)]
                    have e2 : r2 = some [xs (1997 + k)] := by rw [← HR2.out, joinB_ones, HLL.out.2, xs_length, if_pos (by omega)]
                    obtain ⟨J, e4, hJ⟩ : ∃ J : List UInt8, r4 = some [J] ∧ J.length = 1997 + k := by
                      refine ⟨Lib.join [M1, M2] [32], ?_, ?_⟩
                      · rw [← HR4.out]; unfold flatB flatSum; rw [if_pos (by have := HML.out; simp; omega)]
                      · have h1 := join_length1 M1 [M2]; have h2 : flatSum [M1, M2] = 1997 + k + 1 := by (unfold flatSum; have := HML.out; simp; omega)
                        omega
                    subst e1 e2 e4
                    obtain ⟨g4, o4, cp4, hv4, _, _, hc4⟩ := (HT4.out w6 b46).inRow (by simp [rL_some])
                    obtain ⟨g6, o6, cp6, hv6, _, _, hc6⟩ := (HT6.out w6 (Below.refl _ _)).inRow (by simp [rL_some])
                    have cb : w6.cell? ⟨g4, o4, none⟩ = some (.string S) := by have := hc4 0 (xs (1997 + k)) rfl; rw [HS.out, Nat.add_zero] at this; exact this
                    have cd : w6.cell? ⟨g6, o6, none⟩ = some (.string ⟨J.toArray⟩) := by have := hc6 0 J rfl; rw [Nat.add_zero] at this; exact this
                    simp only [rL_some] at hv4 hv6
                    cases hv4
                    cases hv6
                    clear hc4 hc6
                    have hJs : (⟨J.toArray⟩ : ByteArray).size = 1997 + k := by rw [str_size']; exact hJ
                    simp only [rV_some, rL_some]
                    have hel := es_length (97 + j)
                    clear HR1 HR2 HR4 HT3 HT4 HT5 HT6
                    go_wp2_with fail
                    refine (fits_yes _ (es (97 + j)) w6 HL6.out (by rw [fits_es]; exact decide_eq_true (by omega))).mono ?_
                    rintro e w7 ⟨rfl, b67⟩
                    go_wp2_with fail
                    have hone := Tx.one w7 (xs (1997 + k))
                    rw [HS.out] at hone
                    refine (fits_yes _ [xs (1997 + k)] _ hone (by rw [fits_one, xs_length]; exact decide_eq_true (by omega))).mono ?_
                    rintro e w8 ⟨rfl, b78⟩
                    go_wp2_with fail
                    go_ret
                    have b7n := (below_new w7 (.cells #[.string S] 9)).trans (b78.mono (below_new w7 _).size)
                    have b68 := b67.trans (b7n.mono b67.size)
                    exact ⟨ret_bool (by simp; omega), hb6.trans (b68.mono hb6.size)⟩
                  · have e1 : r1 = some (es (97 + j)) := by rw [← HR1.out, bound_es, if_pos (by omega)]
                    have e2 : r2 = none := by rw [← HR2.out, joinB_ones, HLL.out.2, xs_length, if_neg (by omega)]
                    have e4 : r4 = none := by rw [← HR4.out]; unfold flatB flatSum; rw [if_neg (by have := HML.out; simp; omega)]
                    subst e1 e2 e4
                    simp only [rV_none, rL_none, rV_some, rL_some]
                    have hel := es_length (97 + j)
                    clear HR1 HR2 HR4 HT3 HT4 HT5 HT6
                    go_wp2_with fail
                    refine (fits_yes _ (es (97 + j)) w6 HL6.out (by rw [fits_es]; exact decide_eq_true (by omega))).mono ?_
                    rintro e w7 ⟨rfl, b67⟩
                    go_wp2_with fail
                    have hone := Tx.one w7 (xs (1997 + k))
                    rw [HS.out] at hone
                    refine (fits_no _ [xs (1997 + k)] _ a hone (by simp) (by rw [fits_one, xs_length]; exact decide_eq_false (by omega)) (Eb.below (Eb.below HE6.out b67 (Eb.pos HE6.out)) (below_new _ _) (Eb.pos (Eb.below HE6.out b67 (Eb.pos HE6.out))))).mono ?_
                    rintro e w8 ⟨rfl, b78⟩
                    go_wp2_with fail
                    go_ret
                    have b7n := (below_new w7 (.cells #[.string S] 9)).trans (b78.mono (below_new w7 _).size)
                    have b68 := b67.trans (b7n.mono b67.size)
                    exact ⟨ret_bool (by simp; omega), hb6.trans (b68.mono hb6.size)⟩
                · by_cases hk3 : k ≤ 3
                  · have e1 : r1 = none := by rw [← HR1.out, bound_es, if_neg (by omega)]
                    have e2 : r2 = some [xs (1997 + k)] := by rw [← HR2.out, joinB_ones, HLL.out.2, xs_length, if_pos (by omega)]
                    obtain ⟨J, e4, hJ⟩ : ∃ J : List UInt8, r4 = some [J] ∧ J.length = 1997 + k := by
                      refine ⟨Lib.join [M1, M2] [32], ?_, ?_⟩
                      · rw [← HR4.out]; unfold flatB flatSum; rw [if_pos (by have := HML.out; simp; omega)]
                      · have h1 := join_length1 M1 [M2]; have h2 : flatSum [M1, M2] = 1997 + k + 1 := by (unfold flatSum; have := HML.out; simp; omega)
                        omega
                    subst e1 e2 e4
                    obtain ⟨g4, o4, cp4, hv4, _, _, hc4⟩ := (HT4.out w6 b46).inRow (by simp [rL_some])
                    obtain ⟨g6, o6, cp6, hv6, _, _, hc6⟩ := (HT6.out w6 (Below.refl _ _)).inRow (by simp [rL_some])
                    have cb : w6.cell? ⟨g4, o4, none⟩ = some (.string S) := by have := hc4 0 (xs (1997 + k)) rfl; rw [HS.out, Nat.add_zero] at this; exact this
                    have cd : w6.cell? ⟨g6, o6, none⟩ = some (.string ⟨J.toArray⟩) := by have := hc6 0 J rfl; rw [Nat.add_zero] at this; exact this
                    simp only [rL_some] at hv4 hv6
                    cases hv4
                    cases hv6
                    clear hc4 hc6
                    have hJs : (⟨J.toArray⟩ : ByteArray).size = 1997 + k := by rw [str_size']; exact hJ
                    simp only [rV_none, rL_none, rV_some, rL_some]
                    clear HR1 HR2 HR4 HT3 HT4 HT5 HT6
                    go_wp2_with fail
                    refine (fits_no _ (es (97 + j)) w6 a HL6.out (by rw [es_length]; omega) (by rw [fits_es]; exact decide_eq_false (by omega)) HE6.out).mono ?_
                    rintro e w7 ⟨rfl, b67⟩
                    go_wp2_with fail
                    have hone := Tx.one w7 (xs (1997 + k))
                    rw [HS.out] at hone
                    refine (fits_yes _ [xs (1997 + k)] _ hone (by rw [fits_one, xs_length]; exact decide_eq_true (by omega))).mono ?_
                    rintro e w8 ⟨rfl, b78⟩
                    go_wp2_with fail
                    go_ret
                    have b7n := (below_new w7 (.cells #[.string S] 9)).trans (b78.mono (below_new w7 _).size)
                    have b68 := b67.trans (b7n.mono b67.size)
                    exact ⟨ret_bool (by simp; omega), hb6.trans (b68.mono hb6.size)⟩
                  · have e1 : r1 = none := by rw [← HR1.out, bound_es, if_neg (by omega)]
                    have e2 : r2 = none := by rw [← HR2.out, joinB_ones, HLL.out.2, xs_length, if_neg (by omega)]
                    have e4 : r4 = none := by rw [← HR4.out]; unfold flatB flatSum; rw [if_neg (by have := HML.out; simp; omega)]
                    subst e1 e2 e4
                    simp only [rV_none, rL_none]
                    clear HR1 HR2 HR4 HT3 HT4 HT5 HT6
                    go_wp2_with fail
                    refine (fits_no _ (es (97 + j)) w6 a HL6.out (by rw [es_length]; omega) (by rw [fits_es]; exact decide_eq_false (by omega)) HE6.out).mono ?_
                    rintro e w7 ⟨rfl, b67⟩
                    go_wp2_with fail
                    have hone := Tx.one w7 (xs (1997 + k))
                    rw [HS.out] at hone
                    refine (fits_no _ [xs (1997 + k)] _ a hone (by simp) (by rw [fits_one, xs_length]; exact decide_eq_false (by omega)) (Eb.below (Eb.below HE6.out b67 (Eb.pos HE6.out)) (below_new _ _) (Eb.pos (Eb.below HE6.out b67 (Eb.pos HE6.out))))).mono ?_
                    rintro e w8 ⟨rfl, b78⟩
                    go_wp2_with fail
                    go_ret
                    have b7n := (below_new w7 (.cells #[.string S] 9)).trans (b78.mono (below_new w7 _).size)
                    have b68 := b67.trans (b7n.mono b67.size)
                    exact ⟨rfl, hb6.trans (b68.mono hb6.size)⟩
              exact AllReady.nil
            exact AllReady.nil
          exact AllReady.nil
        exact AllReady.nil
end Go.Proofs.YtdajacodfnidfaaDoor

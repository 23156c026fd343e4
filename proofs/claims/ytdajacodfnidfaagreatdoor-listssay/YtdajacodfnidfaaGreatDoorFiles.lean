/- Files. -/
import Derived.Test.YtdajacodfnidfaaGreatDoorTx
import Derived.Test.YtdajacodfnidfaaGreatDoorShelf2
import Derived.Sort.OwnSorted
import Derived.Shelf.Slices.In.SortNone
import Derived.Lib.OwnBridge
import Derived.Lib.RowBridge
namespace Go.Proofs.YtdajacodfnidfaaGreatDoor
open Go.RowKit Go.Shelf Go.Sort

/-- Does it begin with a dot? -/
def dotL (s : List UInt8) : Bool := Lib.hasPrefix s [46]
theorem dot_any (s : ByteArray) (w : World) :
    Calls Tryz.prog 94 #[.string s] w fun e w' => e = .returned (.bool (dotL s.data.toList)) ∧ w' = w := by
  go_enter Tryz.func94, Tryz.ntmps94
  go_wp2_with (go_at_call 113; refine (Tryz.strings_HasPrefix _ _ _).mono ?_; rintro e w1 ⟨rfl, hw1⟩; obtain rfl := hw1.symm)
  go_ret
  exact ⟨rfl, rfl⟩
theorem sort_none (a : Option Addr) (cap : Nat) (w : World) : Calls Tryz.prog 96 #[.slice a 0 cap] w fun e w' => e = .returned (.tuple #[]) ∧ w' = w :=
  fun cs =>
    let ⟨e, w', fr, r, st, x⟩ := (AnyS.slices_Sort_string_none_alone Tryz.lays190 (cs.length + 3) a cap w).2 cs (fun d hd => by cases hd; omega)
    ⟨e, w', fr, r, st.comes, x⟩
theorem owns_after {B : Nat} {e : TypeId} {k n : Nat} {v : Value} {xs : List Value} {W W' : World} (h : W.ownsRow B e k v n xs) (hb : Below W.heap.size W W') : W'.ownsRow B e k v n xs :=
  h.kept (row := none) ⟨hb.os, hb.tape, hb.output, hb.size, fun j hj _ => hb.block j hj⟩ (by cases v.ownBlock <;> simp)
/-- Is the name one that is wanted? -/
def wantB (d : Bool) (l : List Pc) (n : List UInt8) : Bool := (d || !dotL n) && mt l n
def upto (d : Bool) (l : List Pc) (ns : List (List UInt8)) (k : Nat) : List (List UInt8) := (ns.take k).filter (wantB d l)
theorem upto_zero (d : Bool) (l : List Pc) (ns : List (List UInt8)) : upto d l ns 0 = [] := by simp [upto]
theorem upto_succ (d : Bool) (l : List Pc) (ns : List (List UInt8)) (k : Nat) (n : List UInt8) (h : ns[k]? = some n) : upto d l ns (k + 1) = upto d l ns k ++ (if wantB d l n then [n] else []) := by
  unfold upto
  rw [List.take_add_one, h, List.filter_append]
  cases e : wantB d l n <;> simp [e]
theorem upto_length (d : Bool) (l : List Pc) (ns : List (List UInt8)) (k : Nat) : (upto d l ns k).length ≤ ns.length := by
  unfold upto
  exact Nat.le_trans (List.length_filter_le _ _) (by simp; omega)
def sortB (zs : List (List UInt8)) : List (List UInt8) := zs.mergeSort fun x y => decide (x ≤ y)
def filesB (d : Bool) (l : List Pc) (ns : List (List UInt8)) : List (List UInt8) := Lib.compact (sortB (ns.filter (wantB d l)))
theorem str_data' (l : List UInt8) : (⟨l.toArray⟩ : ByteArray).data.toList = l := by simp
theorem str_size' (l : List UInt8) : (⟨l.toArray⟩ : ByteArray).size = l.length := by show l.toArray.size = _; simp
/-- What sorting leaves owned, compacted. -/
theorem compacted {w w1 : World} {g cap nn q : Nat} {os : Array Obj} {ss : List (List UInt8)} (hown : w1.ownsRow w.heap.size 9 1 (.slice (some ⟨g, 0, none⟩) ss.length cap) ss.length (ss.map encStr)) (hbel : Below w.heap.size w w1) :
    (putRow encStr (Sort.ahead (grow (putRow encStr (Sort.ahead w1 nn) g 0 (sortB ss).toArray) os) q) g 0 (Lib.compact (sortB ss) ++ List.replicate (ss.length - (Lib.compact (sortB ss)).length) []).toArray).ownsRow w.heap.size 9 1 (.slice (some ⟨g, 0, none⟩) (Lib.compact (sortB ss)).length cap) (Lib.compact (sortB ss)).length ((Lib.compact (sortB ss)).map encStr) ∧
    Below w.heap.size w (putRow encStr (Sort.ahead (grow (putRow encStr (Sort.ahead w1 nn) g 0 (sortB ss).toArray) os) q) g 0 (Lib.compact (sortB ss) ++ List.replicate (ss.length - (Lib.compact (sortB ss)).length) []).toArray) := by
  have hl : (sortB ss).length = ss.length := List.length_mergeSort ss
  have hle := Lib.compact_length_le (sortB ss)
  rcases hown.2 with ⟨h0, _⟩ | ⟨g', cap', cur, hv, hbase, hb, h1, h2, h3, h4⟩
  · cases h0
  cases hv
  have hs := ownsRow_sorted (n := nn) (os := os) (ts := sortB ss) hl hbase hb h1 h2 h3
  have hc := Lib.ownsRow_putRow (q := q) (k := (Lib.compact (sortB ss)).length) (ys := Lib.compact (sortB ss) ++ List.replicate (ss.length - (Lib.compact (sortB ss)).length) []) hs (by simp; omega) (by omega)
  rw [List.take_left] at hc
  refine ⟨hc, Lib.below_putRow (hbel.grown (grownBy_sorted _) hbel.size (fun j hj => ?_)) hbase⟩
  cases hj
  exact hbase

set_option maxRecDepth 100000 in
set_option maxHeartbeats 4000000 in
theorem files_any (p : ByteArray) (hp : p.size < 4294967296) (v : Value) (ns : List (List UInt8)) (hl : ns.length < 4294967296) (hz : ∀ s ∈ ns, s.length < 4294967296) (w : World) (h : TxAt w v ns) :
    Calls Tryz.prog 73 #[.string p, v] w fun e w' => ∃ v', e = .returned v' ∧ Tx w' v' (filesB (dotL p.data.toList) (pcs (letts p.data.toList)) ns) ∧ Below w.heap.size w w' := by
  obtain ⟨i0, hi, hz0, hz1, hz2⟩ := info_parts info9
  have hlen : (pcs (letts p.data.toList)).length < 4294967296 := by
    have h1 := pcs_length _ (letts p.data.toList) (Nat.le_refl _)
    have h2 := letts_length_le p.data.toList
    simp at h2; omega
  obtain ⟨l, HL⟩ : ∃ l, Hid (pcs (letts p.data.toList) = l) := ⟨_, rfl⟩
  obtain ⟨d, HDT⟩ : ∃ d, Hid (dotL p.data.toList = d) := ⟨_, rfl⟩
  rw [HL.out] at hlen ⊢
  rw [HDT.out]
  have HZ : Hid _ := hz
  clear hz
  obtain ⟨gz, oz, adz, capz, rfl, hcz, hnz, hez⟩ := h
  have HN : Hid _ := hnz
  have HE : Hid _ := hez
  clear hnz hez
  go_enter Tryz.func73, Tryz.ntmps73
  go_wp2_with fail
  refine (pieces_any p hp _).mono ?_
  rintro e w1 ⟨vp, rfl, ho, hb1⟩
  rw [HL.out] at ho
  obtain ⟨g, ad, cap, rfl, had, hcap, hpc, hg⟩ := PcAt.owned ho
  have HAD : Hid _ := had
  have HG : Hid _ := hg
  have HPC : Hid _ := hpc
  clear had hg hpc ho
  go_wp2_with fail
  refine (dot_any p _).mono ?_
  rintro e w2 ⟨rfl, hw2⟩
  obtain rfl := hw2.symm
  rw [HDT.out]
  go_wp2_with fail
  go_loopw [5, 9, 16] (fun v5 _ v16 wr => ∃ k : Nat, v16 = .int .i64 k ∧ k ≤ ns.length ∧ wr.ownsRow w1.heap.size 9 1 v5 (upto d l ns k).length (txV (upto d l ns k)) ∧ Below w1.heap.size w1 wr) (fun _ _ v16 _ => ns.length - (intOf v16).toNat)
  case atStart => exact ⟨0, rfl, by omega, by rw [upto_zero]; exact ⟨rfl, .inl ⟨rfl, rfl⟩⟩, Below.refl _ _⟩
  case round =>
    obtain ⟨k, rfl, hk, how, hbr⟩ := hrel
    by_cases hkl : k < ns.length
    · obtain ⟨n, hn⟩ : ∃ n, ns[k]? = some n := ⟨_, List.getElem?_eq_getElem hkl⟩
      have hn32 := HZ.out n (List.mem_of_getElem? hn)
      have hns : (⟨n.toArray⟩ : ByteArray).size < 4294967296 := by rw [str_size']; exact hn32
      have HNS : Hid _ := hns
      have HNN : Hid _ := hn
      obtain ⟨rfl, hgz⟩ := HN.out (fun e => by rw [e] at hkl; simp at hkl)
      have c0 := (hbr.cell (p := ⟨gz, oz + k, none⟩) (Nat.lt_of_lt_of_le hgz hb1.size)).trans ((hb1.cell (p := ⟨gz, oz + k, none⟩) hgz).trans (HE.out k n hn))
      clear hn hns
      have HOW : Hid _ := how
      clear how
      go_upto_region 6 with fail
      go_cut [30] from 20 to 29 (fun v wx => v = .bool (wantB d l n) ∧ Below wr.heap.size wr wx)
      case first => as_aux_lemma =>
        have hgp := PcAt.below (l := l) HPC.out hbr HG.out
        have hgl : l ≠ [] → g < wr.heap.size := fun e => Nat.lt_of_lt_of_le (HG.out e) hbr.size
        have HGP : Hid _ := hgp
        have HGL : Hid _ := hgl
        clear hgp hgl
        cases d
        · go_wp2_with fail
          refine (dot_any _ _).mono ?_
          rintro e w3 ⟨rfl, hw3⟩
          obtain rfl := hw3.symm
          rw [str_data']
          cases hdn : dotL n
          · go_wp2_with fail
            refine (matches_any g cap ad l _ HNS.out hlen HAD.out hcap _ HGP.out HGL.out).mono ?_
            rintro e w4 ⟨rfl, hb4⟩
            rw [str_data']
            go_wp2_with fail
            go_meet
            case rel => exact ⟨by simp [wantB, hdn], hb4⟩
          · go_wp2_with fail
            go_meet
            case rel => exact ⟨by simp [wantB, hdn], Below.refl _ _⟩
        · go_wp2_with fail
          refine (matches_any g cap ad l _ HNS.out hlen HAD.out hcap _ HGP.out HGL.out).mono ?_
          rintro e w4 ⟨rfl, hb4⟩
          rw [str_data']
          go_wp2_with fail
          go_meet
          case rel => exact ⟨by simp [wantB], hb4⟩
      case rest =>
        obtain ⟨rfl, hbc⟩ := hcut
        have hoc := owns_after HOW.out hbc
        have hus := upto_succ d l ns k n HNN.out
        have hul := upto_length d l ns k
        have HUL : Hid ((upto d l ns k).length < 4294967296) := by unfold Hid; omega
        have HUS : Hid _ := hus
        clear hus hul
        generalize upto d l ns k = U at hoc HUS HUL
        have bB : w1.heap.size ≤ wc.heap.size := Nat.le_trans hbr.size hbc.size
        have b1c : Below w1.heap.size w1 wc := hbr.trans (hbc.mono hbr.size)
        cases hwn : wantB d l n
        · go_wp2_with fail
          exact ⟨⟨k + 1, by simp, by omega, by rw [HUS.out, hwn]; simpa using hoc, b1c⟩, by simp [intOf]; omega⟩
        · have hul := HUL.out
          go_wp2_with (at_builtin; refine wpList_append_own _ rfl _ _ 23 rfl w1.heap.size 9 i0 (.string ⟨#[]⟩) 1 16 Tryz.underlying23 hi hz0 hz1 hz2 rfl (by decide) _ _ _ rfl (hoc.alloc _) ⟨wc.heap.size, 0, none⟩ 1 1 [.string ⟨n.toArray⟩] rfl rfl (cells_new _ [.string ⟨n.toArray⟩] _) (by simp [Value.oneCell']) (by have := maxLen_big; omega) (by omega) (by simp; omega) ?_; intro v' w5 hown' hgrow _)
          have e1 : txV (U ++ [n]) = txV U ++ [.string ⟨n.toArray⟩] := by simp only [txV, List.map_append, List.map_cons, List.map_nil]
          refine ⟨⟨k + 1, by simp, by omega, ?_, ?_⟩, by simp [intOf]; omega⟩
          · rw [HUS.out, hwn, if_pos rfl, e1, List.length_append]
            exact hown'
          · have hgrow2 : (wc.alloc (.cells #[.string ⟨n.toArray⟩] 9)).grownBy w5 u5.ownBlock := hgrow
            refine (b1c.alloc bB _).grown hgrow2 (by simp; omega) fun q ej => ?_
            rcases hoc.2 with ⟨rfl, _⟩ | ⟨g5, cap5, cur5, rfl, hb5, _, _⟩
            · simp [Value.ownBlock] at ej
            · obtain rfl : g5 = q := by simpa [Value.ownBlock] using ej
              exact hb5
    · have hkz : k = ns.length := by omega
      subst hkz
      have hfu : upto d l ns ns.length = ns.filter (wantB d l) := by simp [upto]
      rw [hfu] at how
      have hfl : (ns.filter (wantB d l)).length < 4294967296 := Nat.lt_of_le_of_lt (List.length_filter_le _ _) hl
      have HFB : Hid (filesB d l ns = Lib.compact (sortB (ns.filter (wantB d l)))) := rfl
      generalize ns.filter (wantB d l) = FS at how hfl HFB
      rcases how.2 with ⟨hv, hn0⟩ | ⟨gf, capf, cur, hv, hbase, hbf, h1, h2, h3, h4⟩
      · subst hv
        have hF0 : FS = [] := List.eq_nil_of_length_eq_zero hn0
        have HF0 : Hid _ := hF0
        clear hF0 how hn0
        go_wp2_with fail
        refine (sort_none _ _ _).mono ?_
        rintro e w6 ⟨rfl, hw6⟩
        obtain rfl := hw6.symm
        go_wp2_with fail
        refine (Tryz.slices_Compact_string_empty _ _ _).mono ?_
        rintro e w7 ⟨rfl, hw7⟩
        obtain rfl := hw7.symm
        go_wp2_with fail
        go_ret
        refine ⟨_, rfl, ?_, hb1.trans (hbr.mono hb1.size)⟩
        have h00 : Lib.compact (sortB []) = [] := by simp [sortB, Lib.compact, Lib.compactUpTo]
        rw [HFB.out, HF0.out, h00]
        exact .inl ⟨rfl, rfl⟩
      · subst hv
        have hl2 : (sortB FS).length = FS.length := List.length_mergeSort FS
        have hH : Holds encStr wr gf 0 FS.toArray := holds_of_block hbf (by rw [Nat.mul_one] at h4; exact h4)
        have hgl : gf < wr.heap.size := (Array.getElem?_eq_some_iff.1 hbf).1
        have HCO : Hid _ := fun (nn q : Nat) (os : Array Obj) => compacted (w := w1) (w1 := wr) (g := gf) (cap := capf) (nn := nn) (q := q) (os := os) (ss := FS) how hbr
        have HS : Hid _ := fun (nn : Nat) (os : Array Obj) => ownsRow_sorted (n := nn) (os := os) (ts := sortB FS) hl2 hbase hbf h1 h2 h3
        have HH : Hid _ := hH
        have HL2 : Hid _ := hl2
        clear how hbf h4 h3 hH hl2
        go_wp2_with fail
        refine (Tryz.slices_Sort_string gf 0 capf FS wr HH.out hgl (by omega)).mono ?_
        rintro e w6 ⟨rfl, n6, os6, hw6⟩
        have H6 : Hid (w6 = grow (putRow encStr (Sort.ahead wr n6) gf 0 (sortB FS).toArray) os6) := hw6
        clear hw6
        have hH2 : Hid (Holds encStr w6 gf 0 (sortB FS).toArray) := by
          unfold Hid
          have hs := HS.out n6 os6
          rw [← H6.out] at hs
          rcases hs.2 with ⟨h0, _⟩ | ⟨g', cap', cur', hv', _, hb', _, _, _, h4'⟩
          · cases h0
          · cases hv'
            exact holds_of_block hb' (by rw [HL2.out]; simpa using h4')
        go_wp2_with fail
        have hcc := Tryz.slices_Compact_string gf 0 capf (sortB FS) w6 hH2.out (by rw [HL2.out]; omega) (by rw [HL2.out]; exact h1)
        rw [HL2.out] at hcc
        refine hcc.mono ?_
        clear hcc
        rintro e w7 ⟨rfl, q7, hw7⟩
        obtain ⟨ho7, hb7⟩ := HCO.out n6 q7 os6
        rw [← H6.out, ← hw7] at ho7 hb7
        clear hw7
        go_wp2_with fail
        go_ret
        refine ⟨_, rfl, ?_, hb1.trans (hb7.mono hb1.size)⟩
        rw [HFB.out]
        exact Tx.owned ho7
end Go.Proofs.YtdajacodfnidfaaGreatDoor

/- Lists made flat, and split again: plain facts. -/
import Derived.Test.YtfafhjglcaikoaaGreatDoorG1
import Derived.Test.YtfafhjglcaikoaaGreatDoorG19
import Derived.Shelf.Strings.Prefix
import Derived.Shelf.Slices.CompactS
import Derived.Test.YtfafhjglcaikoaaGreatDoorProg
import Derived.Test.YtfafhjglcaikoaaGreatDoorG3
import Derived.Sort.OwnSorted
import Derived.Shelf.Slices.In.SortNone
import Derived.Lib.OwnBridge
import Derived.Lib.RowBridge
import Derived.Shelf.Strconv.Itoa3
import Derived.Test.YtfafhjglcaikoaaGreatDoorG5
import Derived.Laws.AppendOwnNone
import Derived.Shelf.Strings.Search1
import Derived.Ground.NamesProg
import Derived.Shelf.LaysM
import Derived.Shelf.Strings.OnBuilder
import Derived.Test.YtfafhjglcaikoaaGreatDoorG12
import Derived.Lib.AppendIntMem
import Derived.Lib.ItoaLen
import Derived.Lib.IndexLaws
import Derived.BigQuiet
import Derived.Deep.QuietTactic
import Derived.Test.YtfafhjglcaikoaaGreatDoorG14
import Derived.Lib.Join
/-! Slices of texts, nil ones told apart. -/
namespace Go.Proofs.YtfafhjglcaikoaaGreatDoor
open Go.RowKit Go.Shelf

theorem Tx.texts {W : World} {v : Value} {ps : List (List UInt8)} (h : Tx W v ps) : TxAt W v ps := by
  rcases h with ⟨rfl, rfl⟩ | ⟨ad, cap, rfl, h1, h2⟩
  · exact ⟨0, 0, none, 0, rfl, Nat.le_refl _, fun e => absurd rfl e, fun k p hp => by simp at hp⟩
  · by_cases hne : ps = []
    · subst hne
      exact ⟨0, 0, some ad, cap, rfl, h1, fun e => absurd rfl e, fun k p hp => by simp at hp⟩
    · obtain ⟨g, o, rfl, h3, h4⟩ := h2 hne
      exact ⟨g, o, _, cap, rfl, h1, fun _ => ⟨rfl, h3⟩, h4⟩
end Go.Proofs.YtfafhjglcaikoaaGreatDoor
/-! DERIVED: THE SHELF's CONTRACTS AT THIS DUMP, IN PLAIN WORDS (tools/lay-plain.mjs out of 'YtfafhjglcaikoaaGreatDoorLShelf2.lean', which tools/lay-shelf.mjs wrote): THE SAME DECLARATIONS UNDER THE SAME NAMES: 'import', 'namespace', 'open', 'def', 'theorem' AND NOTHING ELSE: no command of the shelf's: FOR A HAND-IN. Each laying: the table of numbers ('.._ren') and one theorem, a field a fact of the dump's own or the kernel's comparison; each contract: ONE APPLICATION. -/
namespace Go.Proofs
open Go.Shelf
def Tryz.lays99_ren : Go.Shelf.Ren := ⟨fun | 99 => 307 | 206 => 312 | n => n, fun | 9 => 9 | 4 => 4 | 3 => 3 | n => n, fun | n => n⟩
theorem Tryz.lays99 : Go.Proofs.Lays.n99 Tryz.prog Tryz.lays99_ren := {
  mixed := by kernel_rfl
  f99 := Tryz.func307.trans (congrArg some (by kernel_rfl))
  f206 := Tryz.func312.trans (congrArg some (by kernel_rfl))
  t3 := Tryz.underlying3
  a3 := Tryz.isAgg3
  z3 := Tryz.sizeOf3
  v3 := Tryz.zeroValue3
  t4 := Tryz.underlying4
  a4 := Tryz.isAgg4
  z4 := Tryz.sizeOf4
  v4 := Tryz.zeroValue4
  t9 := Tryz.underlying9
  a9 := Tryz.isAgg9
  z9 := Tryz.sizeOf9
  v9 := Tryz.zeroValue9 }
open Go.RowKit Go.Lib in
/-- strings.HasPrefix: "HasPrefix reports whether the string s begins with prefix.": IT RETURNS 'Lib.hasPrefix s prefix'; the world is as it was. (LAID: no walk: one application.) -/
theorem Tryz.strings_HasPrefix (s p : ByteArray) (w : World) :
    Calls Tryz.prog 307 #[.string s, .string p] w fun e w' => e = .returned (.bool (Lib.hasPrefix s.data.toList p.data.toList)) ∧ w' = w := Any.strings_HasPrefix Tryz.lays99 s p w
def Tryz.lays194_ren : Go.Shelf.Ren := ⟨fun | 194 => 300 | n => n, fun | 31 => 23 | 9 => 9 | 3 => 3 | 4 => 4 | 0 => 0 | n => n, fun | n => n⟩
theorem Tryz.lays194 : Go.Proofs.Lays.n194 Tryz.prog Tryz.lays194_ren := {
  mixed := by kernel_rfl
  f194 := Tryz.func300.trans (congrArg some (by kernel_rfl))
  t0 := Tryz.underlying0
  a0 := Tryz.isAgg0
  z0 := Tryz.sizeOf0
  v0 := Tryz.zeroValue0
  t3 := Tryz.underlying3
  a3 := Tryz.isAgg3
  z3 := Tryz.sizeOf3
  v3 := Tryz.zeroValue3
  t4 := Tryz.underlying4
  a4 := Tryz.isAgg4
  z4 := Tryz.sizeOf4
  v4 := Tryz.zeroValue4
  t9 := Tryz.underlying9
  a9 := Tryz.isAgg9
  z9 := Tryz.sizeOf9
  v9 := Tryz.zeroValue9
  t31 := Tryz.underlying23
  a31 := Tryz.isAgg23
  z31 := Tryz.sizeOf23
  v31 := Tryz.zeroValue23 }
open Go.RowKit Go.Lib Go.Sort in
/-- slices.Compact at []string: "Compact replaces consecutive runs of equal elements with a single copy. This is like the uniq command found on Unix. Compact modifies the contents of the slice s and returns the modified slice, which may have a smaller length. Compact zeroes the elements between the new length and the original length. The result preserves the nilness of s.": IT RETURNS THE SLICE CUT TO 'Lib.compact zs'; ITS CELLS HOLD 'Lib.compact zs', THEN ZERO VALUES up to the old length; all else is as it was, but for the count of draws. IN THE WORDS OF slices.Sort's CONTRACT ('Holds', 'putRow'): so the everyday 'slices.Sort(xs); xs = slices.Compact(xs)' goes from the one contract to the other. It asks 'zs.length ≤ cap' (every slice's: the reslicing 's[:k]' looks at it). Length 0, nil: '.._empty'. (LAID: no walk: one application.) -/
theorem Tryz.slices_Compact_string (blk off cap : Nat) (zs : List (List UInt8)) (w : World) (hH : Holds encStr w blk off zs.toArray) (hsz : zs.length ≤ 9223372036854775807) (hcap : zs.length ≤ cap) :
    Calls Tryz.prog 300 #[.slice (some ⟨blk, off, none⟩) zs.length cap] w fun e w' => e = .returned (.slice (some ⟨blk, off, none⟩) (Lib.compact zs).length cap) ∧ ∃ q, w' = putRow encStr (Sort.ahead w q) blk off (Lib.compact zs ++ List.replicate (zs.length - (Lib.compact zs).length) []).toArray := Any.slices_Compact_string Tryz.lays194 blk off cap zs w hH hsz hcap
open Go.RowKit Go.Lib Go.Sort in
/-- The same at a slice of length 0, a nil one too: it comes back as it is. (LAID: no walk: one application.) -/
theorem Tryz.slices_Compact_string_empty (a : Option Addr) (cap : Nat) (w : World) :
    Calls Tryz.prog 300 #[.slice a 0 cap] w fun e w' => e = .returned (.slice a 0 cap) ∧ w' = w := Any.slices_Compact_string_empty Tryz.lays194 a cap w
end Go.Proofs
/-! Files. -/
namespace Go.Proofs.YtfafhjglcaikoaaGreatDoor
open Go.RowKit Go.Shelf Go.Sort

/-- Does it begin with a dot? -/
def dotL (s : List UInt8) : Bool := Lib.hasPrefix s [46]
theorem dot_any (s : ByteArray) (w : World) :
    Calls Tryz.prog 299 #[.string s] w fun e w' => e = .returned (.bool (dotL s.data.toList)) ∧ w' = w := by
  go_enter Tryz.func299, Tryz.ntmps299
  go_wp2_with (go_at_call 307; refine (Tryz.strings_HasPrefix _ _ _).mono ?_; rintro e w1 ⟨rfl, hw1⟩; obtain rfl := hw1.symm)
  go_ret
  exact ⟨rfl, rfl⟩
theorem owns_after {B : Nat} {e : TypeId} {k n : Nat} {v : Value} {xs : List Value} {W W' : World} (h : W.ownsRow B e k v n xs) (hb : Below W.heap.size W W') : W'.ownsRow B e k v n xs :=
  h.kept (row := none) ⟨hb.os, hb.tape, hb.output, hb.size, fun j hj _ => hb.block j hj⟩ (by cases v.ownBlock <;> simp)
/-- Is the name one that is wanted? -/
def wantB (d : Bool) (l : List Pc) (n : List UInt8) : Bool := (d || !dotL n) && mt l n
def upto (d : Bool) (l : List Pc) (ns : List (List UInt8)) (k : Nat) : List (List UInt8) := (ns.take k).filter (wantB d l)
theorem upto_zero (d : Bool) (l : List Pc) (ns : List (List UInt8)) : upto d l ns 0 = [] := by simp [upto]
theorem upto_succ (d : Bool) (l : List Pc) (ns : List (List UInt8)) (k : Nat) (n : List UInt8) (h : ns[k]? = some n) : upto d l ns (k + 1) = upto d l ns k ++ (if wantB d l n then [n] else []) := by
  unfold upto
  rw [List.take_add_one, h, List.filter_append]
  cases e : wantB d l n <;> simp [e]
theorem upto_length (d : Bool) (l : List Pc) (ns : List (List UInt8)) (k : Nat) : (upto d l ns k).length ≤ ns.length := by
  unfold upto
  exact Nat.le_trans (List.length_filter_le _ _) (by simp; omega)
def sortB (zs : List (List UInt8)) : List (List UInt8) := zs.mergeSort fun x y => decide (x ≤ y)
def filesB (d : Bool) (l : List Pc) (ns : List (List UInt8)) : List (List UInt8) := Lib.compact (sortB (ns.filter (wantB d l)))
theorem str_data' (l : List UInt8) : (⟨l.toArray⟩ : ByteArray).data.toList = l := by simp
theorem str_size' (l : List UInt8) : (⟨l.toArray⟩ : ByteArray).size = l.length := by show l.toArray.size = _; simp
/-- What sorting leaves owned, compacted. -/
theorem compacted {w w1 : World} {g cap nn q : Nat} {os : Array Obj} {ss : List (List UInt8)} (hown : w1.ownsRow w.heap.size 9 1 (.slice (some ⟨g, 0, none⟩) ss.length cap) ss.length (ss.map encStr)) (hbel : Below w.heap.size w w1) :
    (putRow encStr (Sort.ahead (grow (putRow encStr (Sort.ahead w1 nn) g 0 (sortB ss).toArray) os) q) g 0 (Lib.compact (sortB ss) ++ List.replicate (ss.length - (Lib.compact (sortB ss)).length) []).toArray).ownsRow w.heap.size 9 1 (.slice (some ⟨g, 0, none⟩) (Lib.compact (sortB ss)).length cap) (Lib.compact (sortB ss)).length ((Lib.compact (sortB ss)).map encStr) ∧
    Below w.heap.size w (putRow encStr (Sort.ahead (grow (putRow encStr (Sort.ahead w1 nn) g 0 (sortB ss).toArray) os) q) g 0 (Lib.compact (sortB ss) ++ List.replicate (ss.length - (Lib.compact (sortB ss)).length) []).toArray) := by
  have hl : (sortB ss).length = ss.length := List.length_mergeSort ss
  have hle := Lib.compact_length_le (sortB ss)
  rcases hown.2 with ⟨h0, _⟩ | ⟨g', cap', cur, hv, hbase, hb, h1, h2, h3, h4⟩
  · cases h0
  cases hv
  have hs := ownsRow_sorted (n := nn) (os := os) (ts := sortB ss) hl hbase hb h1 h2 h3
  have hc := Lib.ownsRow_putRow (q := q) (k := (Lib.compact (sortB ss)).length) (ys := Lib.compact (sortB ss) ++ List.replicate (ss.length - (Lib.compact (sortB ss)).length) []) hs (by simp; omega) (by omega)
  rw [List.take_left] at hc
  refine ⟨hc, Lib.below_putRow (hbel.grown (grownBy_sorted _) hbel.size (fun j hj => ?_)) hbase⟩
  cases hj
  exact hbase

set_option maxRecDepth 100000 in
set_option maxHeartbeats 4000000 in
theorem files_anyL (p : ByteArray) (hp : p.size < 4294967296) (v : Value) (ns : List (List UInt8)) (hl : ns.length < 4294967296) (hz : ∀ s ∈ ns, s.length < 4294967296) (w : World) (h : TxAt w v ns) :
    Calls Tryz.prog 283 #[.string p, v] w fun e w' => ∃ v', e = .returned v' ∧ Tx w' v' (filesB (dotL p.data.toList) (pcs (letts p.data.toList)) ns) ∧ Below w.heap.size w w' := by
  obtain ⟨i0, hi, hz0, hz1, hz2⟩ := info_parts info9
  have hlen : (pcs (letts p.data.toList)).length < 4294967296 := by
    have h1 := pcs_length _ (letts p.data.toList) (Nat.le_refl _)
    have h2 := letts_length_le p.data.toList
    simp at h2; omega
  obtain ⟨l, HL⟩ : ∃ l, Hid (pcs (letts p.data.toList) = l) := ⟨_, rfl⟩
  obtain ⟨d, HDT⟩ : ∃ d, Hid (dotL p.data.toList = d) := ⟨_, rfl⟩
  rw [HL.out] at hlen ⊢
  rw [HDT.out]
  have HZ : Hid _ := hz
  clear hz
  obtain ⟨gz, oz, adz, capz, rfl, hcz, hnz, hez⟩ := h
  have HN : Hid _ := hnz
  have HE : Hid _ := hez
  clear hnz hez
  go_enter Tryz.func283, Tryz.ntmps283
  go_wp2_with fail
  refine (pieces_any p hp _).mono ?_
  rintro e w1 ⟨vp, rfl, ho, hb1⟩
  rw [HL.out] at ho
  obtain ⟨g, ad, cap, rfl, had, hcap, hpc, hg⟩ := PcAt.owned ho
  have HAD : Hid _ := had
  have HG : Hid _ := hg
  have HPC : Hid _ := hpc
  clear had hg hpc ho
  go_wp2_with fail
  refine (dot_any p _).mono ?_
  rintro e w2 ⟨rfl, hw2⟩
  obtain rfl := hw2.symm
  rw [HDT.out]
  go_wp2_with fail
  go_loopw [5, 9, 16] (fun v5 _ v16 wr => ∃ k : Nat, v16 = .int .i64 k ∧ k ≤ ns.length ∧ wr.ownsRow w1.heap.size 9 1 v5 (upto d l ns k).length (txV (upto d l ns k)) ∧ Below w1.heap.size w1 wr) (fun _ _ v16 _ => ns.length - (intOf v16).toNat)
  case atStart => exact ⟨0, rfl, by omega, by rw [upto_zero]; exact ⟨rfl, .inl ⟨rfl, rfl⟩⟩, Below.refl _ _⟩
  case round =>
    obtain ⟨k, rfl, hk, how, hbr⟩ := hrel
    by_cases hkl : k < ns.length
    · obtain ⟨n, hn⟩ : ∃ n, ns[k]? = some n := ⟨_, List.getElem?_eq_getElem hkl⟩
      have hn32 := HZ.out n (List.mem_of_getElem? hn)
      have hns : (⟨n.toArray⟩ : ByteArray).size < 4294967296 := by rw [str_size']; exact hn32
      have HNS : Hid _ := hns
      have HNN : Hid _ := hn
      obtain ⟨rfl, hgz⟩ := HN.out (fun e => by rw [e] at hkl; simp at hkl)
      have c0 := (hbr.cell (p := ⟨gz, oz + k, none⟩) (Nat.lt_of_lt_of_le hgz hb1.size)).trans ((hb1.cell (p := ⟨gz, oz + k, none⟩) hgz).trans (HE.out k n hn))
      clear hn hns
      have HOW : Hid _ := how
      clear how
      go_upto_region 6 with fail
      go_cut [30] from 20 to 29 (fun v wx => v = .bool (wantB d l n) ∧ Below wr.heap.size wr wx)
      case first => as_aux_lemma =>
        have hgp := PcAt.below (l := l) HPC.out hbr HG.out
        have hgl : l ≠ [] → g < wr.heap.size := fun e => Nat.lt_of_lt_of_le (HG.out e) hbr.size
        have HGP : Hid _ := hgp
        have HGL : Hid _ := hgl
        clear hgp hgl
        cases d
        · go_wp2_with fail
          refine (dot_any _ _).mono ?_
          rintro e w3 ⟨rfl, hw3⟩
          obtain rfl := hw3.symm
          rw [str_data']
          cases hdn : dotL n
          · go_wp2_with fail
            refine (matches_any g cap ad l _ HNS.out hlen HAD.out hcap _ HGP.out HGL.out).mono ?_
            rintro e w4 ⟨rfl, hb4⟩
            rw [str_data']
            go_wp2_with fail
            go_meet
            case rel => exact ⟨by simp [wantB, hdn], hb4⟩
          · go_wp2_with fail
            go_meet
            case rel => exact ⟨by simp [wantB, hdn], Below.refl _ _⟩
        · go_wp2_with fail
          refine (matches_any g cap ad l _ HNS.out hlen HAD.out hcap _ HGP.out HGL.out).mono ?_
          rintro e w4 ⟨rfl, hb4⟩
          rw [str_data']
          go_wp2_with fail
          go_meet
          case rel => exact ⟨by simp [wantB], hb4⟩
      case rest =>
        obtain ⟨rfl, hbc⟩ := hcut
        have hoc := owns_after HOW.out hbc
        have hus := upto_succ d l ns k n HNN.out
        have hul := upto_length d l ns k
        have HUL : Hid ((upto d l ns k).length < 4294967296) := by unfold Hid; omega
        have HUS : Hid _ := hus
        clear hus hul
        generalize upto d l ns k = U at hoc HUS HUL
        have bB : w1.heap.size ≤ wc.heap.size := Nat.le_trans hbr.size hbc.size
        have b1c : Below w1.heap.size w1 wc := hbr.trans (hbc.mono hbr.size)
        cases hwn : wantB d l n
        · go_wp2_with fail
          exact ⟨⟨k + 1, by simp, by omega, by rw [HUS.out, hwn]; simpa using hoc, b1c⟩, by simp [intOf]; omega⟩
        · have hul := HUL.out
          go_wp2_with (at_builtin; refine wpList_append_own _ rfl _ _ 23 rfl w1.heap.size 9 i0 (.string ⟨#[]⟩) 1 16 Tryz.underlying23 hi hz0 hz1 hz2 rfl (by decide) _ _ _ rfl (hoc.alloc _) ⟨wc.heap.size, 0, none⟩ 1 1 [.string ⟨n.toArray⟩] rfl rfl (cells_new _ [.string ⟨n.toArray⟩] _) (by simp [Value.oneCell']) (by have := maxLen_big; omega) (by omega) (by simp; omega) ?_; intro v' w5 hown' hgrow _)
          have e1 : txV (U ++ [n]) = txV U ++ [.string ⟨n.toArray⟩] := by simp only [txV, List.map_append, List.map_cons, List.map_nil]
          refine ⟨⟨k + 1, by simp, by omega, ?_, ?_⟩, by simp [intOf]; omega⟩
          · rw [HUS.out, hwn, if_pos rfl, e1, List.length_append]
            exact hown'
          · have hgrow2 : (wc.alloc (.cells #[.string ⟨n.toArray⟩] 9)).grownBy w5 u5.ownBlock := hgrow
            refine (b1c.alloc bB _).grown hgrow2 (by simp; omega) fun q ej => ?_
            rcases hoc.2 with ⟨rfl, _⟩ | ⟨g5, cap5, cur5, rfl, hb5, _, _⟩
            · simp [Value.ownBlock] at ej
            · obtain rfl : g5 = q := by simpa [Value.ownBlock] using ej
              exact hb5
    · have hkz : k = ns.length := by omega
      subst hkz
      have hfu : upto d l ns ns.length = ns.filter (wantB d l) := by simp [upto]
      rw [hfu] at how
      have hfl : (ns.filter (wantB d l)).length < 4294967296 := Nat.lt_of_le_of_lt (List.length_filter_le _ _) hl
      have HFB : Hid (filesB d l ns = Lib.compact (sortB (ns.filter (wantB d l)))) := rfl
      generalize ns.filter (wantB d l) = FS at how hfl HFB
      rcases how.2 with ⟨hv, hn0⟩ | ⟨gf, capf, cur, hv, hbase, hbf, h1, h2, h3, h4⟩
      · subst hv
        have hF0 : FS = [] := List.eq_nil_of_length_eq_zero hn0
        have HF0 : Hid _ := hF0
        clear hF0 how hn0
        go_wp2_with fail
        refine (sort_none _ _ _).mono ?_
        rintro e w6 ⟨rfl, hw6⟩
        obtain rfl := hw6.symm
        go_wp2_with fail
        refine (Tryz.slices_Compact_string_empty _ _ _).mono ?_
        rintro e w7 ⟨rfl, hw7⟩
        obtain rfl := hw7.symm
        go_wp2_with fail
        go_ret
        refine ⟨_, rfl, ?_, hb1.trans (hbr.mono hb1.size)⟩
        have h00 : Lib.compact (sortB []) = [] := by simp [sortB, Lib.compact, Lib.compactUpTo]
        rw [HFB.out, HF0.out, h00]
        exact .inl ⟨rfl, rfl⟩
      · subst hv
        have hl2 : (sortB FS).length = FS.length := List.length_mergeSort FS
        have hH : Holds encStr wr gf 0 FS.toArray := holds_of_block hbf (by rw [Nat.mul_one] at h4; exact h4)
        have hgl : gf < wr.heap.size := (Array.getElem?_eq_some_iff.1 hbf).1
        have HCO : Hid _ := fun (nn q : Nat) (os : Array Obj) => compacted (w := w1) (w1 := wr) (g := gf) (cap := capf) (nn := nn) (q := q) (os := os) (ss := FS) how hbr
        have HS : Hid _ := fun (nn : Nat) (os : Array Obj) => ownsRow_sorted (n := nn) (os := os) (ts := sortB FS) hl2 hbase hbf h1 h2 h3
        have HH : Hid _ := hH
        have HL2 : Hid _ := hl2
        clear how hbf h4 h3 hH hl2
        go_wp2_with fail
        refine (Tryz.slices_Sort_string gf 0 capf FS wr HH.out hgl (by omega)).mono ?_
        rintro e w6 ⟨rfl, n6, os6, hw6⟩
        have H6 : Hid (w6 = grow (putRow encStr (Sort.ahead wr n6) gf 0 (sortB FS).toArray) os6) := hw6
        clear hw6
        have hH2 : Hid (Holds encStr w6 gf 0 (sortB FS).toArray) := by
          unfold Hid
          have hs := HS.out n6 os6
          rw [← H6.out] at hs
          rcases hs.2 with ⟨h0, _⟩ | ⟨g', cap', cur', hv', _, hb', _, _, _, h4'⟩
          · cases h0
          · cases hv'
            exact holds_of_block hb' (by rw [HL2.out]; simpa using h4')
        go_wp2_with fail
        have hcc := Tryz.slices_Compact_string gf 0 capf (sortB FS) w6 hH2.out (by rw [HL2.out]; omega) (by rw [HL2.out]; exact h1)
        rw [HL2.out] at hcc
        refine hcc.mono ?_
        clear hcc
        rintro e w7 ⟨rfl, q7, hw7⟩
        obtain ⟨ho7, hb7⟩ := HCO.out n6 q7 os6
        rw [← H6.out, ← hw7] at ho7 hb7
        clear hw7
        go_wp2_with fail
        go_ret
        refine ⟨_, rfl, ?_, hb1.trans (hb7.mono hb1.size)⟩
        rw [HFB.out]
        exact Tx.owned ho7
end Go.Proofs.YtfafhjglcaikoaaGreatDoor
/-! DERIVED: THE SHELF's CONTRACTS AT THIS DUMP, IN PLAIN WORDS (tools/lay-plain.mjs out of 'YtfafhjglcaikoaaGreatDoorLShelf3.lean', which tools/lay-shelf.mjs wrote): THE SAME DECLARATIONS UNDER THE SAME NAMES: 'import', 'namespace', 'open', 'def', 'theorem' AND NOTHING ELSE: no command of the shelf's: FOR A HAND-IN. Each laying: the table of numbers ('.._ren') and one theorem, a field a fact of the dump's own or the kernel's comparison; each contract: ONE APPLICATION. -/
namespace Go.Proofs
open Go.Shelf
def Tryz.lays171_ren : Go.Shelf.Ren := ⟨fun | 171 => 235 | 243 => 273 | 246 => 293 | 283 => 302 | 284 => 303 | 285 => 304 | 286 => 305 | 129 => 268 | 317 => 308 | 318 => 309 | 319 => 310 | 320 => 311 | 337 => 313 | 338 => 314 | n => n, fun | 3 => 3 | 9 => 9 | 2 => 2 | 4 => 4 | 171 => 358 | 0 => 0 | 53 => 309 | 37 => 298 | 5 => 5 | 173 => 360 | 212 => 364 | 51 => 330 | 20 => 20 | 213 => 365 | 46 => 77 | 232 => 366 | 233 => 367 | n => n, fun | 17 => 14 | 18 => 15 | 19 => 16 | n => n⟩
theorem Tryz.lays171 : Go.Proofs.Lays.n171 Tryz.prog Tryz.lays171_ren := {
  mixed := by kernel_rfl
  f129 := Tryz.func268.trans (congrArg some (by kernel_rfl))
  f171 := Tryz.func235.trans (congrArg some (by kernel_rfl))
  f243 := Tryz.func273.trans (congrArg some (by kernel_rfl))
  f246 := Tryz.func293.trans (congrArg some (by kernel_rfl))
  f283 := Tryz.func302.trans (congrArg some (by kernel_rfl))
  f284 := Tryz.func303.trans (congrArg some (by kernel_rfl))
  f285 := Tryz.func304.trans (congrArg some (by kernel_rfl))
  f286 := Tryz.func305.trans (congrArg some (by kernel_rfl))
  f317 := Tryz.func308.trans (congrArg some (by kernel_rfl))
  f318 := Tryz.func309.trans (congrArg some (by kernel_rfl))
  f319 := Tryz.func310.trans (congrArg some (by kernel_rfl))
  f320 := Tryz.func311.trans (congrArg some (by kernel_rfl))
  f337 := Tryz.func313.trans (congrArg some (by kernel_rfl))
  f338 := Tryz.func314.trans (congrArg some (by kernel_rfl))
  t0 := Tryz.underlying0
  a0 := Tryz.isAgg0
  z0 := Tryz.sizeOf0
  v0 := Tryz.zeroValue0
  t2 := Tryz.underlying2
  a2 := Tryz.isAgg2
  z2 := Tryz.sizeOf2
  v2 := Tryz.zeroValue2
  t3 := Tryz.underlying3
  a3 := Tryz.isAgg3
  z3 := Tryz.sizeOf3
  v3 := Tryz.zeroValue3
  t4 := Tryz.underlying4
  a4 := Tryz.isAgg4
  z4 := Tryz.sizeOf4
  v4 := Tryz.zeroValue4
  t5 := Tryz.underlying5
  a5 := Tryz.isAgg5
  z5 := Tryz.sizeOf5
  v5 := Tryz.zeroValue5
  t9 := Tryz.underlying9
  a9 := Tryz.isAgg9
  z9 := Tryz.sizeOf9
  v9 := Tryz.zeroValue9
  t20 := Tryz.underlying20
  a20 := Tryz.isAgg20
  z20 := Tryz.sizeOf20
  v20 := Tryz.zeroValue20
  t37 := Tryz.underlying298
  a37 := Tryz.isAgg298
  z37 := Tryz.sizeOf298
  v37 := Tryz.zeroValue298
  t46 := Tryz.underlying77
  a46 := Tryz.isAgg77
  z46 := Tryz.sizeOf77
  v46 := Tryz.zeroValue77
  t51 := Tryz.underlying330
  a51 := Tryz.isAgg330
  z51 := Tryz.sizeOf330
  v51 := Tryz.zeroValue330
  t53 := Tryz.underlying309
  a53 := Tryz.isAgg309
  z53 := Tryz.sizeOf309
  v53 := Tryz.zeroValue309
  t171 := Tryz.underlying358
  a171 := Tryz.isAgg358
  z171 := Tryz.sizeOf358
  v171 := Tryz.zeroValue358
  t173 := Tryz.underlying360
  a173 := Tryz.isAgg360
  z173 := Tryz.sizeOf360
  v173 := Tryz.zeroValue360
  t212 := Tryz.underlying364
  a212 := Tryz.isAgg364
  z212 := Tryz.sizeOf364
  v212 := Tryz.zeroValue364
  t213 := Tryz.underlying365
  a213 := Tryz.isAgg365
  z213 := Tryz.sizeOf365
  t232 := Tryz.underlying366
  a232 := Tryz.isAgg366
  z232 := Tryz.sizeOf366
  v232 := Tryz.zeroValue366
  t233 := Tryz.underlying367
  a233 := Tryz.isAgg367
  z233 := Tryz.sizeOf367
  v233 := Tryz.zeroValue367
  g17 := by kernel_rfl
  g18 := by kernel_rfl
  g19 := by kernel_rfl }
open Go.RowKit Go.Sort Go.Lib in
/-- THE ROAD WITHOUT THE TABLE: 0 <= i < 100: NO PREMISE ON THE WORLD, AND THE WORLD IS AS IT WAS: a row that keeps its argument in that range need list no table ('laid = []'). (LAID: no walk: one application.) -/
theorem Tryz.strconv_Itoa_small (i : Nat) (hi : i < 100) (w : World) :
    Calls Tryz.prog 235 #[.int .i64 i] w fun e w' => e = .returned (.string ⟨(Lib.decDigits i).toArray⟩) ∧ w' = w := Any.strconv_Itoa_small Tryz.lays171 i hi w
end Go.Proofs
/-! Plain facts on lists of texts within their bounds. -/
namespace Go.Proofs.YtfafhjglcaikoaaGreatDoor

/-- Not too big? -/
def fitsB (l : List (List UInt8)) : Bool := decide (l.length ≤ 100) && l.all fun s => decide (s.length ≤ 2000)
theorem fitsB_iff (l : List (List UInt8)) : fitsB l = true ↔ l.length ≤ 100 ∧ ∀ s ∈ l, s.length ≤ 2000 := by
  simp [fitsB]
theorem fits_nil : fitsB [] = true := rfl
theorem fits_app_iff (U I : List (List UInt8)) (hU : fitsB U = true) : fitsB (U ++ I) = true ↔ I.length ≤ 100 - U.length ∧ fitsB I = true := by
  rw [fitsB_iff] at *
  rw [fitsB_iff]
  constructor
  · rintro ⟨h1, h2⟩
    rw [List.length_append] at h1
    exact ⟨by omega, by omega, fun s hs => h2 s (List.mem_append_right _ hs)⟩
  · rintro ⟨h1, h2, h3⟩
    refine ⟨by rw [List.length_append]; omega, fun s hs => ?_⟩
    rcases List.mem_append.1 hs with h | h
    · exact hU.2 s h
    · exact h3 s h
theorem fits_left (U I : List (List UInt8)) (h : fitsB (U ++ I) = true) : fitsB U = true := by
  rw [fitsB_iff] at *
  rw [List.length_append] at h
  exact ⟨by omega, fun s hs => h.2 s (List.mem_append_left _ hs)⟩
theorem fits_right (U I : List (List UInt8)) (h : fitsB (U ++ I) = true) : fitsB I = true := by
  rw [fitsB_iff] at *
  rw [List.length_append] at h
  exact ⟨by omega, fun s hs => h.2 s (List.mem_append_right _ hs)⟩
theorem fits_length (U : List (List UInt8)) (h : fitsB U = true) : U.length ≤ 100 := ((fitsB_iff U).1 h).1
theorem fits_mem (U : List (List UInt8)) (h : fitsB U = true) (s : List UInt8) (hs : s ∈ U) : s.length ≤ 2000 := ((fitsB_iff U).1 h).2 s hs
theorem fits_take (l : List (List UInt8)) (k : Nat) (h : fitsB (l.take k) = false) : fitsB l = false := by
  cases e : fitsB l
  · rfl
  · have h2 : fitsB (l.take k ++ l.drop k) = true := by rw [List.take_append_drop]; exact e
    rw [fits_left _ _ h2] at h
    cases h

/-- What each of the first k becomes, one behind the other. -/
def gat {α : Type} (f : α → List (List UInt8)) (l : List α) (k : Nat) : List (List UInt8) := ((l.take k).map f).flatten
def gatAll {α : Type} (f : α → List (List UInt8)) (l : List α) : List (List UInt8) := (l.map f).flatten
theorem gat_zero {α : Type} (f : α → List (List UInt8)) (l : List α) : gat f l 0 = [] := by simp [gat]
theorem gat_succ {α : Type} (f : α → List (List UInt8)) (l : List α) (k : Nat) (x : α) (h : l[k]? = some x) : gat f l (k + 1) = gat f l k ++ f x := by
  unfold gat
  rw [List.take_add_one, h]
  simp
theorem gat_all {α : Type} (f : α → List (List UInt8)) (l : List α) : gat f l l.length = gatAll f l := by
  unfold gat gatAll
  rw [List.take_length]
theorem gat_fits {α : Type} (f : α → List (List UInt8)) (l : List α) (k : Nat) (h : fitsB (gat f l k) = false) : fitsB (gatAll f l) = false := by
  cases e : fitsB (gatAll f l)
  · rfl
  · have h2 : fitsB (gat f l k ++ ((l.drop k).map f).flatten) = true := by
      have h3 : gatAll f l = gat f l k ++ ((l.drop k).map f).flatten := by
        unfold gatAll gat
        rw [← List.flatten_append, ← List.map_append, List.take_append_drop]
      rw [← h3]
      exact e
    rw [fits_left _ _ h2] at h
    cases h

/-- One item at least. -/
def oneB (l : List (List UInt8)) : List (List UInt8) := if l.length = 0 then [[]] else l
theorem oneB_pos (l : List (List UInt8)) : 1 ≤ (oneB l).length := by
  unfold oneB
  split
  · simp
  · omega
/-- The i-th; the only one at every i. -/
def atB (l : List (List UInt8)) (i : Nat) : List UInt8 := if l.length = 1 then l.getD 0 [] else l.getD i []
def joinedN (a b : Nat) : Nat := if a = 1 ∨ b = 1 then max a b else min a b
def jtB (a b : List (List UInt8)) : List (List UInt8) := (List.range (joinedN a.length b.length)).map fun i => atB a i ++ atB b i
theorem jt_length (a b : List (List UInt8)) : (jtB a b).length = joinedN a.length b.length := by simp [jtB]
theorem jt_take (a b : List (List UInt8)) (k : Nat) (h : k < joinedN a.length b.length) : (jtB a b).take (k + 1) = (jtB a b).take k ++ [atB a k ++ atB b k] := by
  rw [List.take_add_one]
  congr 1
  unfold jtB
  rw [List.getElem?_map, List.getElem?_range h]
  rfl
theorem joined_le (a b : Nat) : joinedN a b ≤ max a b := by
  unfold joinedN
  split <;> omega
theorem joined_at (a b k : Nat) (h : k < joinedN a b) (_ha : 1 ≤ a) : a = 1 ∨ k < a := by
  unfold joinedN at h
  split at h <;> omega
theorem joined_at' (a b k : Nat) (h : k < joinedN a b) (_hb : 1 ≤ b) : b = 1 ∨ k < b := by
  unfold joinedN at h
  split at h <;> omega
/-- Joined from the left, or too big. -/
def joinFrom (m : List (List UInt8)) : List (List (List UInt8)) → Option (List (List UInt8))
  | [] => if fitsB m then some m else none
  | l :: ls => if fitsB (jtB m (oneB l)) then joinFrom (jtB m (oneB l)) ls else none
def joinB : List (List (List UInt8)) → Option (List (List UInt8))
  | [] => some [[]]
  | l :: ls => joinFrom (oneB l) ls
end Go.Proofs.YtfafhjglcaikoaaGreatDoor
/-! Lists within their bounds: Fits, add. -/
namespace Go.Proofs.YtfafhjglcaikoaaGreatDoor
open Go.RowKit Go.Shelf

/-- The error, and that it lies where it should. -/
abbrev bigV (a : Addr) : Value := .iface 368 (.pointer (some a))
def Eb (w : World) (a : Addr) : Prop := w.cell? ⟨1, 0, none⟩ = some (bigV a) ∧ 1 < w.heap.size
theorem Eb.below {w w' : World} {a : Addr} {B : Nat} (h : Eb w a) (hb : Below B w w') (hB : 2 ≤ B) : Eb w' a :=
  ⟨(hb.cell (p := ⟨1, 0, none⟩) (by show 1 < B; omega)).trans h.1, Nat.lt_of_lt_of_le h.2 hb.size⟩
theorem Eb.pos {w : World} {a : Addr} (h : Eb w a) : 2 ≤ w.heap.size := h.2

/-- One text, new. -/
theorem Tx.one (W : World) (s : List UInt8) : Tx (W.alloc (.cells #[.string ⟨s.toArray⟩] 9)) (.slice (some ⟨W.heap.size, 0, none⟩) 1 1) [s] := by
  refine .inr ⟨⟨W.heap.size, 0, none⟩, 1, rfl, Nat.le_refl _, fun _ => ⟨W.heap.size, 0, rfl, by simp, fun k p hp => ?_⟩⟩
  have hc := (Cel.new W 9 #[.string ⟨s.toArray⟩]).cell k
  rw [Nat.zero_add, hc]
  cases k with
  | zero => simp at hp; subst hp; rfl
  | succ k => simp at hp

theorem tooLong_atL (w : World) : PredAt Tryz.prog 145 #[] (fun l : List UInt8 => Value.string ⟨l.toArray⟩) (fun l => decide (2000 < l.length)) w := by
  intro W x _
  unfold FnGives
  have hsz := str_size' x
  go_enter Tryz.func145, Tryz.ntmps145
  go_wp2
  go_ret
  exact ⟨ret_bool (decide_eq_decide.2 (by omega)), 0, rfl⟩

/-- Is one too long? -/
def longB (ns : List (List UInt8)) : Bool := ns.any fun s => decide (2000 < s.length)
theorem fits_long (ns : List (List UInt8)) (h : ns.length ≤ 100) : longB ns = !fitsB ns := by
  cases e : fitsB ns
  · cases e2 : longB ns
    · exfalso
      have : fitsB ns = true := by
        rw [fitsB_iff]
        refine ⟨h, fun s hs => ?_⟩
        unfold longB at e2
        rw [List.any_eq_false] at e2
        have := e2 s hs
        simp at this
        exact this
      rw [this] at e
      cases e
    · rfl
  · have h2 := (fitsB_iff ns).1 e
    show longB ns = false
    unfold longB
    rw [List.any_eq_false]
    intro s hs
    have := h2.2 s hs
    simp
    omega

theorem long_any (v : Value) (ns : List (List UInt8)) (w : World) (h : Tx w v ns) (hl : ns.length < 4294967296) :
    Calls Tryz.prog 144 #[v, .func (.func 145) #[] #[]] w fun e w' => e = .returned (.bool (longB ns)) ∧ Below w.heap.size w w' := by
  by_cases hne : ns = []
  · subst hne
    obtain ⟨ad, cap, rfl⟩ := h.form
    exact (Tryz.slices_ContainsFunc_empty (α := List UInt8) ad cap _ w).mono fun e w' ⟨he, hw⟩ => ⟨he, by rw [hw]; exact Below.refl _ _⟩
  · obtain ⟨g, o, cap, rfl, h1, h2, h3⟩ := h.inRow hne
    refine (Tryz.slices_ContainsFunc (fun l : List UInt8 => Value.string ⟨l.toArray⟩) (fun l => decide (2000 < l.length)) 145 #[] (enters_of Tryz.func145 (by kernel_rfl) rfl) g o ns.length cap ns w (tooLong_atL w) (Nat.le_refl _) (by omega) ?_).mono ?_
    · intro j hj
      rw [getElem!_pos ns j hj]
      exact h3 j _ (List.getElem?_eq_getElem hj)
    · rintro e w' ⟨rfl, q, rfl⟩
      refine ⟨?_, below_drewN' (Below.refl _ w) q⟩
      rw [List.take_length]
      rfl

set_option maxHeartbeats 1000000 in
theorem fits_yes (v : Value) (ns : List (List UInt8)) (w : World) (h : Tx w v ns) (hf : fitsB ns = true) :
    Calls Tryz.prog 101 #[v] w fun e w' => e = .returned .nilIface ∧ Below w.heap.size w w' := by
  have hl := fits_length ns hf
  have hlo : longB ns = false := by rw [fits_long ns hl, hf]; rfl
  have HL : Hid _ := hlo
  have HT : Hid (Tx w v ns) := h
  obtain ⟨_, _, ad, cap, rfl, _, _, _⟩ := h.texts
  clear h hlo hf
  go_enter Tryz.func101, Tryz.ntmps101
  go_wp2_with fail
  refine (long_any _ ns _ HT.out (by omega)).mono ?_
  rintro e w1 ⟨rfl, hb1⟩
  rw [HL.out]
  go_wp2_with fail
  go_ret
  exact ⟨rfl, hb1⟩

set_option maxHeartbeats 1000000 in
theorem fits_no (v : Value) (ns : List (List UInt8)) (w : World) (a : Addr) (h : Tx w v ns) (hl : ns.length < 4294967296) (hf : fitsB ns = false) (hE : Eb w a) :
    Calls Tryz.prog 101 #[v] w fun e w' => e = .returned (bigV a) ∧ Below w.heap.size w w' := by
  have HE : Hid (Eb w a) := hE
  have HF : Hid _ := hf
  have HT : Hid (Tx w v ns) := h
  obtain ⟨_, _, ad, cap, rfl, _, _, _⟩ := h.texts
  clear h hE hf
  by_cases h100 : ns.length > 100
  · have c0 := HE.out.1
    go_enter Tryz.func101, Tryz.ntmps101
    go_wp2_with fail
    go_ret
    exact ⟨rfl, Below.refl _ _⟩
  · have HL : Hid (longB ns = true) := by unfold Hid; rw [fits_long ns (by omega), HF.out]; rfl
    go_enter Tryz.func101, Tryz.ntmps101
    go_wp2_with fail
    refine (long_any _ ns _ HT.out (by omega)).mono ?_
    rintro e w1 ⟨rfl, hb1⟩
    rw [HL.out]
    have c0 := (Eb.below HE.out hb1 (Eb.pos HE.out)).1
    go_wp2_with fail
    go_ret
    exact ⟨rfl, hb1⟩

theorem own_form {W : World} {B : Nat} {v : Value} {ps : List (List UInt8)} (h : W.ownsRow B 9 1 v ps.length (txV ps)) : ∃ ad cap, v = .slice ad ps.length cap := by
  rcases h.2 with ⟨hv, h0⟩ | ⟨g, cap, cur, hv, _⟩
  · exact ⟨none, 0, by rw [hv, h0]⟩
  · exact ⟨_, cap, hv⟩
theorem grown_ownL {w w1 w' : World} {B : Nat} {v : Value} {n : Nat} {xs : List Value} (hB : B ≤ w1.heap.size) (hb : Below B w w1) (ho : w1.ownsRow B 9 1 v n xs) (hg : w1.grownBy w' v.ownBlock) : Below B w w' := by
  refine hb.grown hg hB fun q ej => ?_
  rcases ho.2 with ⟨rfl, _⟩ | ⟨g5, cap5, cur5, rfl, hb5, _, _⟩
  · simp [Value.ownBlock] at ej
  · obtain rfl : g5 = q := by simpa [Value.ownBlock] using ej
    exact hb5

set_option maxRecDepth 100000 in
set_option maxHeartbeats 2000000 in
theorem add_yes (B : Nat) (v vi : Value) (U I : List (List UInt8)) (w : World) (hB : B ≤ w.heap.size) (ho : w.ownsRow B 9 1 v U.length (txV U)) (hi : Tx w vi I) (hU : fitsB U = true) (hf : fitsB (U ++ I) = true) :
    Calls Tryz.prog 234 #[v, vi] w fun e w' => ∃ v', e = .returned (.tuple #[v', .nilIface]) ∧ w'.ownsRow B 9 1 v' (U ++ I).length (txV (U ++ I)) ∧ Below B w w' := by
  obtain ⟨i0, hi0, hz0, hz1, hz2⟩ := info_parts info9
  have hq := (fits_app_iff U I hU).1 hf
  have hUl := fits_length U hU
  have hIl := fits_length I hq.2
  have hle : ¬ (I.length : Int) > 100 - (U.length : Int) := by have := hq.1; omega
  have HF : Hid _ := hq.2
  clear hq hf hU
  obtain ⟨ad, cap, rfl⟩ := own_form ho
  have HO : Hid _ := ho
  have HT : Hid (Tx w vi I) := hi
  rcases hi with ⟨rfl, rfl⟩ | ⟨adi, capi, rfl, h1, h2⟩
  · clear ho
    go_enter Tryz.func234, Tryz.ntmps234
    go_wp2_with fail
    refine (fits_yes _ [] _ HT.out HF.out).mono ?_
    rintro e w1 ⟨rfl, hb1⟩
    have ho1 := owns_after HO.out hb1
    go_wp2_with (at_builtin; refine wpList_append_own_none rfl _ _ 23 rfl B 9 i0 1 Tryz.underlying23 hi0 _ _ _ rfl ho1 rfl ?_)
    go_ret2
    refine ⟨_, rfl, ?_, hb1.mono hB⟩
    rw [List.append_nil]
    exact ho1
  · clear ho h2
    go_enter Tryz.func234, Tryz.ntmps234
    go_wp2_with fail
    refine (fits_yes _ I _ HT.out HF.out).mono ?_
    rintro e w1 ⟨rfl, hb1⟩
    have ho1 := owns_after HO.out hb1
    have hB1 : B ≤ w1.heap.size := Nat.le_trans hB hb1.size
    have hc1 := Tx.cells (Tx.below HT.out hb1 (Nat.le_refl _))
    go_wp2_with (at_builtin; refine wpList_append_own _ rfl _ _ 23 rfl B 9 i0 (.string ⟨#[]⟩) 1 16 Tryz.underlying23 hi0 hz0 hz1 hz2 rfl (by decide) _ _ _ rfl ho1 adi I.length capi (txV I) rfl (by rw [txV_length]; omega) hc1 (txV_one I) (by have := maxLen_big; omega) (by omega) hB1 ?_; intro v' w5 hown' hgrow _)
    go_ret2
    refine ⟨_, rfl, ?_, grown_ownL hB1 (hb1.mono hB) ho1 hgrow⟩
    rw [txV_append, List.length_append]
    exact hown'

set_option maxRecDepth 100000 in
set_option maxHeartbeats 2000000 in
theorem add_no (v vi : Value) (U I : List (List UInt8)) (w : World) (a : Addr) (hv : ∃ ad cap, v = .slice ad U.length cap) (hi : Tx w vi I) (hIl : I.length < 4294967296) (hU : fitsB U = true) (hf : fitsB (U ++ I) = false) (hE : Eb w a) :
    Calls Tryz.prog 234 #[v, vi] w fun e w' => e = .returned (.tuple #[.slice none 0 0, bigV a]) ∧ Below w.heap.size w w' := by
  have hq := fits_app_iff U I hU
  have hUl := fits_length U hU
  obtain ⟨ad, cap, rfl⟩ := hv
  have HT : Hid (Tx w vi I) := hi
  have HE : Hid (Eb w a) := hE
  obtain ⟨_, _, adi, capi, rfl, _, _, _⟩ := hi.texts
  have HQ : Hid (¬ (I.length ≤ 100 - U.length ∧ fitsB I = true)) := by
    unfold Hid
    rw [← hq, hf]
    simp
  clear hi hE hq hf hU
  by_cases hle : (I.length : Int) > 100 - (U.length : Int)
  · have c0 := HE.out.1
    have c0d : w.drew.cell? ⟨1, 0, none⟩ = some (bigV a) := c0
    go_enter Tryz.func234, Tryz.ntmps234
    go_wp2_with fail
    go_region
    all_goals go_wp2_with fail
    all_goals go_ret2
    all_goals exact ⟨rfl, (Below.refl _ w).drew⟩
  · have HF : Hid (fitsB I = false) := by
      unfold Hid
      cases e : fitsB I
      · rfl
      · exact absurd ⟨by omega, e⟩ HQ.out
    go_enter Tryz.func234, Tryz.ntmps234
    go_wp2_with fail
    refine (fits_no _ I _ a HT.out hIl HF.out HE.out).mono ?_
    rintro e w1 ⟨rfl, hb1⟩
    have c0 := (Eb.below HE.out hb1 (Eb.pos HE.out)).1
    have c0d : w1.drew.cell? ⟨1, 0, none⟩ = some (bigV a) := c0
    go_wp2_with fail
    go_region
    all_goals go_wp2_with fail
    all_goals go_ret2
    all_goals exact ⟨rfl, hb1.drew⟩
end Go.Proofs.YtfafhjglcaikoaaGreatDoor
/-! DERIVED: THE SHELF's CONTRACTS AT THIS DUMP, IN PLAIN WORDS (tools/lay-plain.mjs out of 'YtfafhjglcaikoaaGreatDoorBShelf.lean', which tools/lay-shelf.mjs wrote): THE SAME DECLARATIONS UNDER THE SAME NAMES: 'import', 'namespace', 'open', 'def', 'theorem' AND NOTHING ELSE: no command of the shelf's: FOR A HAND-IN. Each laying: the table of numbers ('.._ren') and one theorem, a field a fact of the dump's own or the kernel's comparison; each contract: ONE APPLICATION. -/
namespace Go.Proofs
open Go.Shelf
def Tryz.lays217_ren : Go.Shelf.Ren := ⟨fun | 217 => 231 | 266 => 272 | n => n, fun | 9 => 9 | 5 => 5 | 3 => 3 | n => n, fun | n => n⟩
theorem Tryz.lays217 : Go.Proofs.Lays.n217 Tryz.prog Tryz.lays217_ren := {
  mixed := by kernel_rfl
  f217 := Tryz.func231.trans (congrArg some (by kernel_rfl))
  f266 := Tryz.func272.trans (congrArg some (by kernel_rfl))
  t3 := Tryz.underlying3
  a3 := Tryz.isAgg3
  z3 := Tryz.sizeOf3
  v3 := Tryz.zeroValue3
  t5 := Tryz.underlying5
  a5 := Tryz.isAgg5
  z5 := Tryz.sizeOf5
  v5 := Tryz.zeroValue5
  t9 := Tryz.underlying9
  a9 := Tryz.isAgg9
  z9 := Tryz.sizeOf9
  v9 := Tryz.zeroValue9 }
open Go.RowKit Go.Lib in
/-- internal/stringslite.IndexByte (what strings.IndexByte calls): IT RETURNS 'Lib.indexByte s c'; the world is as it was. (LAID: no walk: one application.) -/
theorem Tryz.stringslite_IndexByte (s : ByteArray) (c : Int) (w : World) :
    Calls Tryz.prog 231 #[.string s, .int .u8 c] w fun e w' => e = .returned (.int .i64 (Lib.indexByte s.data.toList c.toNat.toUInt8)) ∧ w' = w := Any.stringslite_IndexByte Tryz.lays217 s c w
end Go.Proofs
/-! DERIVED: THE SHELF's CONTRACTS AT THIS DUMP, IN PLAIN WORDS (tools/lay-plain.mjs out of 'YtfafhjglcaikoaaGreatDoorLShelf5.lean', which tools/lay-shelf.mjs wrote): THE SAME DECLARATIONS UNDER THE SAME NAMES: 'import', 'namespace', 'open', 'def', 'theorem' AND NOTHING ELSE: no command of the shelf's: FOR A HAND-IN. Each laying: the table of numbers ('.._ren') and one theorem, a field a fact of the dump's own or the kernel's comparison; each contract: ONE APPLICATION. -/
namespace Go.Proofs
open Go.Shelf
def Tryz.laysM171_ren : Go.Shelf.Ren := ⟨fun | 171 => 235 | 243 => 273 | 246 => 293 | 283 => 302 | 284 => 303 | 285 => 304 | 286 => 305 | 129 => 268 | 317 => 308 | 318 => 309 | 319 => 310 | 320 => 311 | 337 => 313 | 338 => 314 | n => n, fun | 3 => 3 | 9 => 9 | 2 => 2 | 4 => 4 | 171 => 358 | 0 => 0 | 53 => 309 | 37 => 298 | 5 => 5 | 173 => 360 | 212 => 364 | 51 => 330 | 20 => 20 | 213 => 365 | 46 => 77 | 232 => 366 | 233 => 367 | n => n, fun | 17 => 14 | 18 => 15 | 19 => 16 | n => n⟩
theorem Tryz.laysM171 : Go.Proofs.LaysM.n171 Tryz.prog Tryz.laysM171_ren := {
  mixed := by kernel_rfl
  f129 := Tryz.func268.trans (congrArg some (by kernel_rfl))
  f171 := Tryz.func235.trans (congrArg some (by kernel_rfl))
  f243 := Tryz.func273.trans (congrArg some (by kernel_rfl))
  f246 := Tryz.func293.trans (congrArg some (by kernel_rfl))
  f283 := Tryz.func302.trans (congrArg some (by kernel_rfl))
  f284 := Tryz.func303.trans (congrArg some (by kernel_rfl))
  f285 := Tryz.func304.trans (congrArg some (by kernel_rfl))
  f286 := Tryz.func305.trans (congrArg some (by kernel_rfl))
  f317 := Tryz.func308.trans (congrArg some (by kernel_rfl))
  f318 := Tryz.func309.trans (congrArg some (by kernel_rfl))
  f319 := Tryz.func310.trans (congrArg some (by kernel_rfl))
  f320 := Tryz.func311.trans (congrArg some (by kernel_rfl))
  f337 := Tryz.func313.trans (congrArg some (by kernel_rfl))
  f338 := Tryz.func314.trans (congrArg some (by kernel_rfl))
  t0 := Tryz.underlying0
  a0 := Tryz.isAgg0
  z0 := Tryz.sizeOf0
  v0 := Tryz.zeroValue0
  t2 := Tryz.underlying2
  a2 := Tryz.isAgg2
  z2 := Tryz.sizeOf2
  v2 := Tryz.zeroValue2
  t3 := Tryz.underlying3
  a3 := Tryz.isAgg3
  z3 := Tryz.sizeOf3
  v3 := Tryz.zeroValue3
  t4 := Tryz.underlying4
  a4 := Tryz.isAgg4
  z4 := Tryz.sizeOf4
  v4 := Tryz.zeroValue4
  t5 := Tryz.underlying5
  a5 := Tryz.isAgg5
  z5 := Tryz.sizeOf5
  v5 := Tryz.zeroValue5
  t9 := Tryz.underlying9
  a9 := Tryz.isAgg9
  z9 := Tryz.sizeOf9
  v9 := Tryz.zeroValue9
  t20 := Tryz.underlying20
  a20 := Tryz.isAgg20
  z20 := Tryz.sizeOf20
  v20 := Tryz.zeroValue20
  t37 := Tryz.underlying298
  a37 := Tryz.isAgg298
  z37 := Tryz.sizeOf298
  v37 := Tryz.zeroValue298
  t46 := Tryz.underlying77
  a46 := Tryz.isAgg77
  z46 := Tryz.sizeOf77
  v46 := Tryz.zeroValue77
  t51 := Tryz.underlying330
  a51 := Tryz.isAgg330
  z51 := Tryz.sizeOf330
  v51 := Tryz.zeroValue330
  t53 := Tryz.underlying309
  a53 := Tryz.isAgg309
  z53 := Tryz.sizeOf309
  v53 := Tryz.zeroValue309
  t171 := Tryz.underlying358
  a171 := Tryz.isAgg358
  z171 := Tryz.sizeOf358
  v171 := Tryz.zeroValue358
  t173 := Tryz.underlying360
  a173 := Tryz.isAgg360
  z173 := Tryz.sizeOf360
  v173 := Tryz.zeroValue360
  t212 := Tryz.underlying364
  a212 := Tryz.isAgg364
  z212 := Tryz.sizeOf364
  v212 := Tryz.zeroValue364
  t213 := Tryz.underlying365
  a213 := Tryz.isAgg365
  z213 := Tryz.sizeOf365
  t232 := Tryz.underlying366
  a232 := Tryz.isAgg366
  z232 := Tryz.sizeOf366
  v232 := Tryz.zeroValue366
  t233 := Tryz.underlying367
  a233 := Tryz.isAgg367
  z233 := Tryz.sizeOf367
  v233 := Tryz.zeroValue367
  g17 := by kernel_rfl
  g18 := by kernel_rfl
  g19 := by kernel_rfl
  i0 := by kernel_rfl
  i2 := by kernel_rfl
  i3 := by kernel_rfl
  i4 := by kernel_rfl
  i5 := by kernel_rfl
  i9 := by kernel_rfl
  i20 := by kernel_rfl
  i37 := by kernel_rfl
  i46 := by kernel_rfl
  i51 := by kernel_rfl
  i53 := by kernel_rfl
  i171 := by kernel_rfl
  i173 := by kernel_rfl
  i212 := by kernel_rfl
  i232 := by kernel_rfl
  i233 := by kernel_rfl
  m17 := by kernel_rfl
  m18 := by kernel_rfl
  m19 := by kernel_rfl }
open Go.RowKit Go.Sort Go.Lib in
/-- strconv.Itoa: "Itoa is equivalent to FormatInt(int64(i), 10).": i's DECIMAL NUMERAL ('Lib.itoa': a '-' where i is negative, then the digits), FOR EVERY int. The world behind the call: the world before it, new blocks behind the heap (the library's 'var a [24]byte'), draws. (LAID: no walk: one application.) -/
theorem Tryz.strconv_Itoa (n : Int) (h0 : -9223372036854775808 ≤ n) (h1 : n ≤ 9223372036854775807) (w : World) (htab : Lib.TabIs Tryz.prog w "internal/strconv.uint64pow10" .u64 Lib.pow10Tab) :
    Calls Tryz.prog 235 #[.int .i64 n] w fun e w' => e = .returned (.string ⟨(Lib.itoa n).toArray⟩) ∧ ∃ k os, w' = grow (w.drewN k) os := Any.strconv_Itoa Tryz.laysM171 n h0 h1 w htab
end Go.Proofs
/-! DERIVED: THE SHELF's CONTRACTS AT THIS DUMP, IN PLAIN WORDS (tools/lay-plain.mjs out of 'YtfafhjglcaikoaaGreatDoorLShelf4.lean', which tools/lay-shelf.mjs wrote): THE SAME DECLARATIONS UNDER THE SAME NAMES: 'import', 'namespace', 'open', 'def', 'theorem' AND NOTHING ELSE: no command of the shelf's: FOR A HAND-IN. Each laying: the table of numbers ('.._ren') and one theorem, a field a fact of the dump's own or the kernel's comparison; each contract: ONE APPLICATION. -/
namespace Go.Proofs
open Go.Shelf
def Tryz.lays156_ren : Go.Shelf.Ren := ⟨fun | 156 => 204 | 165 => 236 | 166 => 237 | 169 => 238 | 240 => 274 | 241 => 275 | 276 => 294 | 277 => 295 | n => n, fun | 31 => 23 | 9 => 9 | 3 => 3 | 4 => 4 | 0 => 0 | 20 => 20 | 72 => 300 | 76 => 97 | 70 => 297 | 37 => 298 | 75 => 51 | 127 => 333 | 164 => 349 | 5 => 5 | 80 => 303 | n => n, fun | n => n⟩
theorem Tryz.lays156 : Go.Proofs.Lays.n156 Tryz.prog Tryz.lays156_ren := {
  mixed := by kernel_rfl
  f156 := Tryz.func204.trans (congrArg some (by kernel_rfl))
  f165 := Tryz.func236.trans (congrArg some (by kernel_rfl))
  f166 := Tryz.func237.trans (congrArg some (by kernel_rfl))
  f169 := Tryz.func238.trans (congrArg some (by kernel_rfl))
  f240 := Tryz.func274.trans (congrArg some (by kernel_rfl))
  f241 := Tryz.func275.trans (congrArg some (by kernel_rfl))
  f276 := Tryz.func294.trans (congrArg some (by kernel_rfl))
  f277 := Tryz.func295.trans (congrArg some (by kernel_rfl))
  t0 := Tryz.underlying0
  a0 := Tryz.isAgg0
  z0 := Tryz.sizeOf0
  v0 := Tryz.zeroValue0
  t3 := Tryz.underlying3
  a3 := Tryz.isAgg3
  z3 := Tryz.sizeOf3
  v3 := Tryz.zeroValue3
  t4 := Tryz.underlying4
  a4 := Tryz.isAgg4
  z4 := Tryz.sizeOf4
  v4 := Tryz.zeroValue4
  t9 := Tryz.underlying9
  a9 := Tryz.isAgg9
  z9 := Tryz.sizeOf9
  v9 := Tryz.zeroValue9
  t20 := Tryz.underlying20
  a20 := Tryz.isAgg20
  z20 := Tryz.sizeOf20
  v20 := Tryz.zeroValue20
  t31 := Tryz.underlying23
  a31 := Tryz.isAgg23
  z31 := Tryz.sizeOf23
  v31 := Tryz.zeroValue23
  t37 := Tryz.underlying298
  a37 := Tryz.isAgg298
  z37 := Tryz.sizeOf298
  v37 := Tryz.zeroValue298
  t70 := Tryz.underlying297
  a70 := Tryz.isAgg297
  z70 := Tryz.sizeOf297
  v70 := Tryz.zeroValue297
  t72 := Tryz.underlying300
  a72 := Tryz.isAgg300
  z72 := Tryz.sizeOf300
  v72 := Tryz.zeroValue300
  t75 := Tryz.underlying51
  a75 := Tryz.isAgg51
  z75 := Tryz.sizeOf51
  v75 := Tryz.zeroValue51
  t76 := Tryz.underlying97
  a76 := Tryz.isAgg97
  z76 := Tryz.sizeOf97
  v76 := Tryz.zeroValue97
  t127 := Tryz.underlying333
  a127 := Tryz.isAgg333
  z127 := Tryz.sizeOf333
  v127 := Tryz.zeroValue333
  t164 := Tryz.underlying349
  a164 := Tryz.isAgg349
  z164 := Tryz.sizeOf349
  v164 := Tryz.zeroValue349 }
theorem Tryz.Builder_Extra_156 : Builder.Extra Tryz.prog Tryz.lays156_ren := {
  sizeBuilder := by kernel_rfl
  liesBuilder := by kernel_rfl
  t5 := Tryz.underlying5
  a5 := Tryz.isAgg5
  z5 := Tryz.sizeOf5
  v5 := Tryz.zeroValue5
  infoByte := by kernel_rfl
  cellsByte := by kernel_rfl
  sizeByte := by kernel_rfl
  neB5 := by decide }
open Go.RowKit in
/-- No element: the empty string; the world is as it was. (Whatever the slice's address and capacity: a nil slice too.) (LAID: no walk: one application.) -/
theorem Tryz.strings_Join_none (a : Option Addr) (c : Nat) (sep : ByteArray) (w : World) :
    Calls Tryz.prog 204 #[.slice a 0 c, .string sep] w fun e w' => e = .returned (.string ⟨#[]⟩) ∧ w' = w := Any.strings_Join_none Tryz.lays156 Tryz.Builder_Extra_156 a c sep w
open Go.RowKit in
/-- strings.Join: "Join concatenates the elements of its first argument to create a single string. The separator string sep is placed between elements in the resulting string.": HOWEVER MANY ELEMENTS. Below the heap's end the world is as it was. (LAID: no walk: one application.) -/
theorem Tryz.strings_Join (bk o c : Nat) (xs : List ByteArray) (sep : ByteArray) (w : World) (hcells : ∀ (j : Nat) x, xs[j]? = some x → w.cell? ⟨bk, o + j, none⟩ = some (.string x)) (hbk : bk < w.heap.size) (hN : xs.length ≤ 140737488355328) (hcap : xs.length ≤ c) (hlen : (Lib.join (xs.map (·.data.toList)) sep.data.toList).length ≤ 140737488355328) :
    Calls Tryz.prog 204 #[.slice (some ⟨bk, o, none⟩) xs.length c, .string sep] w fun e w' => e = .returned (.string ⟨(Lib.join (xs.map (·.data.toList)) sep.data.toList).toArray⟩) ∧ Below w.heap.size w w' := Any.strings_Join Tryz.lays156 Tryz.Builder_Extra_156 bk o c xs sep w hcells hbk hN hcap hlen
end Go.Proofs
/-! Slices of texts, and what a command of the shell's own answers. -/
namespace Go.Proofs.YtfafhjglcaikoaaGreatDoor
open Go.RowKit Go.Shelf
attribute [local go_sem] Oper.semAt_some

theorem str_eq (s : ByteArray) : Value.string s = str s.data.toList := by cases s; simp [str]
theorem Tx.oneB {W : World} {v : Value} {a : List UInt8} (h : Tx W v [a]) : ∃ g o cap, v = .slice (some ⟨g, o, none⟩) 1 cap ∧ 1 ≤ cap ∧ g < W.heap.size ∧ W.cell? ⟨g, o, none⟩ = some (str a) := by
  obtain ⟨g, o, cap, h1, h2, h3, h4⟩ := h.inRow (by simp)
  exact ⟨g, o, cap, h1, h2, h3, h4 0 a rfl⟩
theorem Tx.two {W : World} {v : Value} {a b : List UInt8} (h : Tx W v [a, b]) : ∃ g o cap, v = .slice (some ⟨g, o, none⟩) 2 cap ∧ 2 ≤ cap ∧ g < W.heap.size ∧ W.cell? ⟨g, o, none⟩ = some (str a) ∧ W.cell? ⟨g, o + 1, none⟩ = some (str b) := by
  obtain ⟨g, o, cap, h1, h2, h3, h4⟩ := h.inRow (by simp)
  exact ⟨g, o, cap, h1, h2, h3, h4 0 a rfl, h4 1 b rfl⟩
theorem Tx.built {W : World} {ps : List (List UInt8)} (t : TypeId) : Tx (W.alloc (.cells (ps.map str).toArray t)) (.slice (some ⟨W.heap.size, 0, none⟩) ps.length ps.length) ps := by
  refine .inr ⟨_, _, rfl, Nat.le_refl _, fun _ => ⟨_, 0, rfl, by simp, fun k p hp => ?_⟩⟩
  rw [(Cel.new W t (ps.map str).toArray).cell]
  simp [hp]

/-! ### the plain answers -/
def lineL (l : List UInt8) : List UInt8 := l.takeWhile (· != 10)
def restL (l : List UInt8) : List UInt8 := (l.dropWhile (· != 10)).drop 1
theorem line_none : ∀ l : List UInt8, Lib.indexByte l 10 = -1 → lineL l = l ∧ restL l = []
  | [], _ => ⟨rfl, rfl⟩
  | b :: l, h => by
    unfold Lib.indexByte at h
    by_cases hb : (b == 10) = true
    · simp [hb] at h
    · have hb' : (b == 10) = false := by simpa using hb
      by_cases hi : Lib.indexByte l 10 = -1
      · obtain ⟨h1, h2⟩ := line_none l hi
        have hn : (b != 10) = true := by simp [bne, hb']
        exact ⟨by unfold lineL at h1 ⊢; rw [List.takeWhile_cons, if_pos hn, h1], by unfold restL at h2 ⊢; rw [List.dropWhile_cons, if_pos hn, h2]⟩
      · exfalso
        have hi' : (Lib.indexByte l 10 == -1) = false := by simpa using hi
        have := Lib.indexByte_ge l 10
        simp [hb', hi'] at h
        omega
theorem line_some : ∀ (l : List UInt8) (k : Nat), Lib.indexByte l 10 = k → lineL l = l.take k ∧ restL l = l.drop (k + 1) ∧ k < l.length
  | [], k, h => by unfold Lib.indexByte at h; omega
  | b :: l, k, h => by
    unfold Lib.indexByte at h
    by_cases hb : (b == 10) = true
    · simp [hb] at h
      have hk : k = 0 := by omega
      subst hk
      have hn : ¬ ((b != 10) = true) := by simp [bne, hb]
      exact ⟨by unfold lineL; rw [List.takeWhile_cons, if_neg hn]; rfl, by unfold restL; rw [List.dropWhile_cons, if_neg hn], by simp⟩
    · have hb' : (b == 10) = false := by simpa using hb
      have hn : (b != 10) = true := by simp [bne, hb']
      by_cases hi : (Lib.indexByte l 10 == -1) = true
      · simp [hb', hi] at h
      · have hi' : (Lib.indexByte l 10 == -1) = false := by simpa using hi
        have hge := Lib.indexByte_ge l 10
        simp [hb', hi'] at h
        have hne : Lib.indexByte l 10 ≠ -1 := by simpa using hi
        obtain ⟨j, hj⟩ : ∃ j : Nat, Lib.indexByte l 10 = j := ⟨(Lib.indexByte l 10).toNat, by omega⟩
        obtain ⟨h1, h2, h3⟩ := line_some l j hj
        have hk : k = j + 1 := by omega
        subst hk
        exact ⟨by unfold lineL at h1 ⊢; rw [List.takeWhile_cons, if_pos hn, h1]; rfl, by unfold restL at h2 ⊢; rw [List.dropWhile_cons, if_pos hn, h2]; rfl, by simp; omega⟩
/-- What a command answers. -/
structure Oc where
  out : List UInt8
  rest : List UInt8
  status : Int
  name : List UInt8
  value : List UInt8
  fin : Bool
abbrev ocC (o : Oc) : List Value := [str o.out, str o.rest, .int .i64 o.status, str o.name, str o.value, .bool o.fin]
abbrev ocV (o : Oc) : Value := .agg #[str o.out, str o.rest, .int .i64 o.status, str o.name, str o.value, .bool o.fin]
def stB (b : Bool) : Int := if b then 0 else 1
def numsR : List (List UInt8) → Int × Int × Bool
  | [a, b] => (((T.parseV a).getD 0 : Nat), ((T.parseV b).getD 0 : Nat), (T.parseV a).isSome && (T.parseV b).isSome)
  | _ => (0, 0, false)
def sumL (a b : Int) : List UInt8 := Lib.itoa ((a + b) % 1000000000) ++ [10]
def addR (args : List (List UInt8)) : List UInt8 × Int := if (numsR args).2.2 then (sumL (numsR args).1 (numsR args).2.1, 0) else ([], 1)
def lessR (args : List (List UInt8)) : Bool := (numsR args).2.2 && decide ((numsR args).1 < (numsR args).2.1)
def eqR : List (List UInt8) → Bool
  | [a, b] => a == b
  | _ => false
def likeR : List (List UInt8) → Bool
  | [a, b] => mt (pcs (letts b)) a
  | _ => false
def endR : List (List UInt8) → Int
  | [] => 0
  | a :: _ => match T.parseV a with
    | some n => if n ≤ 255 then n else 0
    | none => 0
def readR (inp : List UInt8) : List (List UInt8) → Oc
  | [a] => if T.nameB a && !inp.isEmpty then ⟨[], restL inp, 0, a, lineL inp, false⟩ else ⟨[], inp, 1, [], [], false⟩
  | _ => ⟨[], inp, 1, [], [], false⟩
end Go.Proofs.YtfafhjglcaikoaaGreatDoor
namespace Go.Proofs.YtfafhjglcaikoaaGreatDoor

theorem splitR_length : ∀ (cs : List (List UInt8 × Lt)) (acc : List UInt8), (splitR acc cs).length ≤ cs.length + 1
  | [], acc => by simp only [splitR, one]; split <;> simp
  | (raw, l) :: cs, acc => by
    simp only [splitR]
    split
    · have h1 := splitR_length cs []
      have h2 : (one acc).length ≤ 1 := by unfold one; split <;> simp
      simp only [List.length_append, List.length_cons]; omega
    · have h1 := splitR_length cs (acc ++ raw)
      simp only [List.length_cons]; omega
theorem splitL_length (l : List UInt8) : (splitL l).length ≤ l.length + 1 := by
  have h1 := splitR_length (chunks l) []
  have h2 : (chunks l).length ≤ l.length := by
    have := letts_length_le l
    rw [← chunks_snd, List.length_map] at this
    exact this
  unfold splitL
  omega
theorem splitR_mem : ∀ (cs : List (List UInt8 × Lt)) (acc z : List UInt8), z ∈ splitR acc cs → z.length ≤ acc.length + (cs.flatMap Prod.fst).length
  | [], acc, z, h => by
    simp only [splitR, one] at h
    split at h
    · cases h
    · rw [List.mem_singleton] at h
      subst h
      omega
  | (raw, l) :: cs, acc, z, h => by
    simp only [splitR] at h
    rw [List.flatMap_cons, List.length_append]
    split at h
    · rcases List.mem_append.1 h with h1 | h1
      · unfold one at h1
        split at h1
        · cases h1
        · rw [List.mem_singleton] at h1
          subst h1
          omega
      · have := splitR_mem cs [] z h1
        rw [List.length_nil] at this
        omega
    · have := splitR_mem cs (acc ++ raw) z h
      rw [List.length_append] at this
      simp only
      omega
theorem splitL_mem (l z : List UInt8) (h : z ∈ splitL l) : z.length ≤ l.length := by
  have h1 := splitR_mem (chunks l) [] z h
  rw [chunks_flat, List.length_nil] at h1
  omega
/-- How many bytes, with a space ahead of each. -/
def flatSum (l : List (List UInt8)) : Nat := (l.map fun s => 1 + s.length).sum
theorem flatSum_take (l : List (List UInt8)) (j : Nat) (s : List UInt8) (h : l[j]? = some s) : flatSum (l.take (j + 1)) = flatSum (l.take j) + (1 + s.length) := by
  unfold flatSum
  rw [List.take_add_one, h]
  simp
theorem flatSum_le (l : List (List UInt8)) (k : Nat) : flatSum (l.take k) ≤ flatSum l := by
  conv => rhs; rw [← List.take_append_drop k l]
  unfold flatSum
  rw [List.map_append, List.sum_append]
  omega
theorem flatSum_length (l : List (List UInt8)) : l.length ≤ flatSum l := by
  induction l with
  | nil => simp
  | cons s l ih =>
    unfold flatSum at *
    simp only [List.map_cons, List.sum_cons, List.length_cons]
    omega
theorem flatSum_mem (l : List (List UInt8)) (s : List UInt8) (h : s ∈ l) : s.length ≤ flatSum l := by
  induction l with
  | nil => simp at h
  | cons t l ih =>
    unfold flatSum at *
    simp only [List.map_cons, List.sum_cons]
    rcases List.mem_cons.1 h with rfl | h
    · omega
    · have := ih h
      omega
theorem join_length : ∀ (l : List (List UInt8)), (Lib.join l [32]).length ≤ flatSum l
  | [] => by simp [Lib.join]
  | [s] => by simp [Lib.join, flatSum]
  | s :: t :: l => by
    have ih := join_length (t :: l)
    unfold Lib.join at *
    rw [List.intercalate_cons_cons]
    unfold flatSum at *
    simp only [List.map_cons, List.sum_cons, List.length_append, List.length_cons, List.length_nil] at *
    omega
theorem join_length1 (s : List UInt8) (l : List (List UInt8)) : (Lib.join (s :: l) [32]).length + 1 = flatSum (s :: l) := by
  induction l generalizing s with
  | nil => simp [Lib.join, flatSum]; omega
  | cons t l ih =>
    have h := ih t
    unfold Lib.join at *
    rw [List.intercalate_cons_cons]
    unfold flatSum at *
    simp only [List.map_cons, List.sum_cons, List.length_append, List.length_cons, List.length_nil] at *
    omega
/-- One item, or too big. -/
def flatB (l : List (List UInt8)) : Option (List (List UInt8)) := if flatSum l ≤ 2001 then some [Lib.join l [32]] else none
theorem flatB_fits (l r : List (List UInt8)) (h : flatB l = some r) : r = [Lib.join l [32]] ∧ fitsB r = true := by
  unfold flatB at h
  split at h
  · next hl =>
    cases h
    refine ⟨rfl, ?_⟩
    rw [fitsB_iff]
    refine ⟨by simp, fun s hs => ?_⟩
    simp at hs
    subst hs
    cases l with
    | nil => simp [Lib.join]
    | cons s l =>
      have := join_length1 s l
      omega
  · cases h
theorem one_ne (l : List UInt8) (h : l ≠ []) : one l = [l] := by
  unfold one
  rw [if_neg h]
theorem escL_ne (l : List UInt8) (h : l ≠ []) : escL l ≠ [] := by
  cases l with
  | nil => exact absurd rfl h
  | cons c l =>
    rw [escL_cons]
    cases specialC c <;> simp
/-- Escaped, made flat, and split again. -/
theorem split_flat : ∀ (l : List (List UInt8)), (∀ s ∈ l, s ≠ []) → splitL (Lib.join (l.map escL) [32]) = l.map escL
  | [], _ => by decide
  | [s], h => by
    have hs := h s (by simp)
    show splitL (Lib.join [escL s] [32]) = [escL s]
    have e : Lib.join [escL s] [32] = escL s := by simp [Lib.join]
    rw [e, split_esc, one_ne _ (escL_ne s hs)]
  | s :: t :: l, h => by
    have hs := h s (by simp)
    have ih := split_flat (t :: l) (fun x hx => h x (List.mem_cons_of_mem _ hx))
    have e : Lib.join ((s :: t :: l).map escL) [32] = escL s ++ 32 :: Lib.join ((t :: l).map escL) [32] := by
      unfold Lib.join
      rw [List.map_cons, List.map_cons, List.intercalate_cons_cons]
      simp
    rw [e, split_two _ _ 32 (cl_esc s) (by decide), ih, split_esc, one_ne _ (escL_ne s hs)]
    rfl
theorem plain_back (l : List (List UInt8)) : (l.map escL).map (fun x => (letts x).map Prod.fst) = l := by
  rw [List.map_map]
  conv => rhs; rw [← List.map_id l]
  apply List.map_congr_left
  intro x _
  exact plain_esc x
theorem escL_length_ge (l : List UInt8) : l.length ≤ (escL l).length := by
  induction l with
  | nil => simp
  | cons c l ih =>
    rw [escL_cons]
    cases specialC c <;> simp <;> omega
theorem escL_length_le (l : List UInt8) : (escL l).length ≤ 2 * l.length := by
  induction l with
  | nil => simp [escL]
  | cons c l ih =>
    rw [escL_cons]
    cases specialC c <;> simp <;> omega
theorem fits_unesc (l : List (List UInt8)) (h : fitsB (l.map escL) = true) : fitsB l = true := by
  rw [fitsB_iff] at *
  refine ⟨by simpa using h.1, fun s hs => ?_⟩
  have h1 := h.2 (escL s) (List.mem_map_of_mem hs)
  have h2 := escL_length_ge s
  omega
theorem gat_single {α : Type} (f : α → List UInt8) (l : List α) : gatAll (fun x => [f x]) l = l.map f := by
  unfold gatAll
  induction l with
  | nil => rfl
  | cons x l ih => simp only [List.map_cons, List.flatten_cons, ih, List.singleton_append]
theorem gat_one {α : Type} (f : α → List (List UInt8)) (x : α) : gatAll f [x] = f x := by simp [gatAll]
end Go.Proofs.YtfafhjglcaikoaaGreatDoor

/- The replacer's Replace. -/
import Derived.Test.YtlihkblllakhmaaGreatDoorQuB
import Derived.Deep.Cut
import Derived.Deep.CutRange
import Derived.Deep.DeepCutAuto
namespace Go.Proofs.YtlihkblllakhmaaGreatDoor
open Go.RowKit
attribute [local go_sem] Oper.semAt_some byte_one

def cnt (l : List UInt8) (i : Nat) : Nat := ((tos.take i).map l.count).sum
/-- How many signs are escaped. -/
def nE (l : List UInt8) : Nat := l.countP isE
theorem tos_at (i : Nat) (h : i < 4) : ∃ c, tos[i]? = some c ∧ c ∈ esc4.drop 0 ∧ ∀ l, cnt l (i + 1) = cnt l i + l.count c := by
  rcases (by omega : i = 0 ∨ i = 1 ∨ i = 2 ∨ i = 3) with rfl | rfl | rfl | rfl
  · exact ⟨91, rfl, by decide, fun l => by simp [cnt, tos]⟩
  · exact ⟨36, rfl, by decide, fun l => by simp [cnt, tos]⟩
  · exact ⟨92, rfl, by decide, fun l => by simp [cnt, tos, Nat.add_assoc]⟩
  · exact ⟨34, rfl, by decide, fun l => by simp [cnt, tos, Nat.add_assoc]⟩
theorem cnt_all (l : List UInt8) : cnt l 4 = nE l := by
  rw [nE, ← count_tos]
  simp [cnt, tos, Nat.add_assoc]
theorem cnt_le (l : List UInt8) (i : Nat) : cnt l i ≤ nE l := by
  rw [← cnt_all, cnt, cnt, show tos.take 4 = tos from rfl]
  conv => rhs; rw [← List.take_append_drop i tos]
  rw [List.map_append, List.sum_append]
  omega
theorem take_succ_count (l : List UInt8) (i : Nat) (h : i < l.length) : nE (l.take (i + 1)) = nE (l.take i) + if isE l[i] then 1 else 0 := by
  rw [nE, nE, List.take_add_one, List.countP_append, List.getElem?_eq_getElem h]
  simp [List.countP_cons]
theorem neq_some (g k : Nat) (w : World) : (binOp .neq 146 (.slice (some ⟨g, 0, none⟩) 2 k) (.slice none 0 0)).run Tryz.prog w = .ok (.bool true) w := by kernel_rfl
theorem neq_none (w : World) : (binOp .neq 146 (.slice none 0 0) (.slice none 0 0)).run Tryz.prog w = .ok (.bool false) w := by kernel_rfl
/-- What is written so far, then zeros. -/
def rowB (done : List UInt8) (N : Nat) : List Value := done.map (fun c => .int .u8 c.toNat) ++ List.replicate (N - done.length) (.int .u8 0)
theorem rowB_len (done : List UInt8) (N : Nat) (h : done.length ≤ N) : (rowB done N).length = N := by simp [rowB]; omega
theorem rowB_set (done : List UInt8) (N : Nat) (x : UInt8) (h : done.length < N) : (rowB done N).set done.length (.int .u8 x.toNat) = rowB (done ++ [x]) N := by
  rw [rowB, List.set_append_right _ _ (by simp), rowB, List.map_append, List.append_assoc]
  congr 1
  rw [List.length_map, Nat.sub_self, show N - done.length = (N - (done ++ [x]).length) + 1 by simp; omega, List.replicate_succ]
  rfl
theorem rowB_splice (done : List UInt8) (N : Nat) (x : UInt8) (_h : done.length + 2 ≤ N) : splice (rowB done N) done.length [.int .u8 92, .int .u8 x.toNat] = rowB (done ++ [92, x]) N := by
  have h1 : (rowB done N).take done.length = done.map (fun c => .int .u8 c.toNat) := by rw [rowB, List.take_append_of_le_length (by simp), List.take_of_length_le (by simp)]
  have h2 : (rowB done N).drop (done.length + 2) = List.replicate (N - (done ++ [92, x]).length) (.int .u8 0) := by
    rw [rowB, show done.length + 2 = (done.map (fun c => Value.int .u8 c.toNat)).length + 2 by simp, List.drop_length_add_append, List.drop_replicate]
    congr 1
    simp
    omega
  simp only [splice, List.length_cons, List.length_nil, Nat.zero_add]
  rw [h1, h2, rowB, List.map_append]
  simp only [List.append_assoc]
  rfl
theorem rowB_full (l : List UInt8) (N : Nat) (_h : l.length = N) (j : Nat) (hj : j < l.length) : (rowB l N)[j]? = some (.int .u8 (l[j].toNat : Int)) := by
  rw [rowB, List.getElem?_append_left (by simpa using hj), List.getElem?_map, List.getElem?_eq_getElem hj]
  rfl
theorem made_buf (N : Nat) : madeCells (Value.int .u8 0).cells N = (rowB [] N).toArray := by
  apply Array.ext
  · simp [madeCells, rowB]
  · intro i h1 h2
    simp [madeCells, Value.cells, rowB, Nat.mod_one]
theorem make_buf (N : Nat) (hN : N ≤ 2147483648) (w : World) : (Instr.makeSlice 146 (.int .i64 (N : Nat)) (.int .i64 (N : Nat))).run Tryz.prog w = .ok (.slice (some ⟨w.heap.size, 0, none⟩) N N) (w.alloc (.cells (rowB [] N).toArray 5)) := by
  obtain ⟨i0, hi, hz0, hz1, hz2⟩ := info_parts info5
  have h := run_make (P := Tryz.prog) w 146 5 i0 (.int .u8 0) Tryz.underlying146 hi hz0 .i64 .i64 N N (by omega) (by omega) (by rw [hz2]; omega) (by omega)
  rw [h, hz1, Int.toNat_natCast, Nat.mul_one, made_buf]
theorem escP_take (l : List UInt8) (i : Nat) (h : i < l.length) : escP (l.take (i + 1)) = escP (l.take i) ++ escB l[i] := by
  rw [List.take_add_one, escP_append, List.getElem?_eq_getElem h]
  simp [escP]
theorem escP_take_le (l : List UInt8) (i : Nat) : (escP (l.take i)).length ≤ (escP l).length := by
  conv => rhs; rw [← List.take_append_drop i l, escP_append, List.length_append]
  omega
theorem turn_drewN (W : World) (n : Nat) : Turn (fun _ => False) W (W.drewN n) := ⟨rfl, rfl, rfl, Nat.le_refl _, fun _ _ _ => rfl⟩
theorem cell_turn {W w : World} (hT : Turn (fun _ => False) W w) {a : Addr} {v : Value} (h : W.cell? a = some v) : w.cell? a = some v := (World.cell?_of_block (hT.block a.block (World.block_lt_of_cell? W _ h) (fun e => e))).trans h
set_option maxRecDepth 100000 in
set_option maxHeartbeats 4000000 in
theorem replace_any (W : World) (b : Nat) (cs : Array Value) (B : Nat) (tr : Value) (hR : RepI B W b 0 cs tr) (hBb : B ≤ b) (s : ByteArray) (hs : s.size < 1073741824) :
    Calls Tryz.prog 149 #[.pointer (some ⟨b, 0, none⟩), .string s] W fun e w' => e = .returned (str (escP s.data.toList)) ∧ Below W.heap.size W w' := by
  obtain ⟨g, cap, rfl, ht⟩ := hR.tosAt
  have c256 := (hR.cel.cell 256).trans hR.top
  have t0 := ht 0 91 rfl
  have t1 := ht 1 36 rfl
  have t2 := ht 2 92 rfl
  have t3 := ht 3 34 rfl
  have HR : Hid _ := hR
  have HT : Hid (∀ i c, tos[i]? = some c → W.cell? ⟨g, i, none⟩ = some (str [c])) := ht
  clear ht hR t0 t1 t2 t3
  obtain ⟨z, hz⟩ : ∃ z : Bool, decide ((32 : Int) ≤ (s.size : Nat)) = z := ⟨_, rfl⟩
  go_enter Tryz.func149, Tryz.ntmps149
  go_upto_if 26 with fail
  go_cut [5, 6] from 7 to 80 (fun v5 v6 wx => v5 = .int .i64 ((s.size + nE s.data.toList : Nat) : Int) ∧ v6 = .bool (decide (nE s.data.toList ≠ 0)) ∧ Hid (Turn (fun _ => False) W wx))
  case first =>
    have hE : nE s.data.toList ≤ s.size := List.countP_le_length
    clear hz
    cases z with
    | true =>
      go_wp2_with fail
      go_loopw [5, 6, 32] (fun v5 v6 v32 wr => ∃ i : Nat, i ≤ 4 ∧ v32 = .int .i64 i ∧ v5 = .int .i64 ((s.size + cnt s.data.toList i : Nat) : Int) ∧ v6 = .bool (decide (cnt s.data.toList i ≠ 0)) ∧ Hid (Turn (fun _ => False) W wr)) (fun _ _ v32 _ => 4 - (intOf v32).toNat)
      case atStart => exact ⟨0, by omega, rfl, rfl, rfl, Turn.refl _ W⟩
      case round =>
        obtain ⟨i, hi, rfl, rfl, rfl, HX⟩ := hrel
        by_cases hi4 : i = 4
        · subst hi4
          rw [cnt_all]
          go_wp2_with fail
          go_meet
          exact ⟨rfl, rfl, HX⟩
        · obtain ⟨c, hc, hm, hn⟩ := tos_at i (by omega)
          have ti := cell_turn HX.out (HT.out i c hc)
          have c256' := cell_turn HX.out c256
          have hi5 : (i : Int) < 4 := by omega
          obtain ⟨g', k', q1, _⟩ := HR.out.yes c hm
          have cc := cell_turn HX.out ((HR.out.cel.cell c.toNat).trans q1)
          have hcl : (c.toNat : Int) < 256 := by have := UInt8.toNat_lt c; omega
          have hcn : cnt s.data.toList (i + 1) ≤ nE s.data.toList := cnt_le _ _
          rw [hn] at hcn
          obtain ⟨k, hk⟩ : ∃ k, k = s.data.toList.count c := ⟨_, rfl⟩
          obtain ⟨m, hm'⟩ : ∃ m, m = cnt s.data.toList i := ⟨_, rfl⟩
          have HC : Hid (∀ w, Calls Tryz.prog 151 #[.string s, str [c]] w fun e w' => e = .returned (.int .i64 (k : Nat)) ∧ w' = w) := fun w => hk ▸ count_one s c w
          rw [← hk, ← hm'] at hcn
          have HN : Hid (cnt s.data.toList (i + 1) = m + k) := by rw [hm', hk]; exact hn _
          rw [← hm']
          clear hk hm' hn q1 hc
          rcases Nat.eq_zero_or_pos k with h0 | h0
          · subst h0
            go_wp2_with (go_at_call 151; refine (HC.out _).mono ?_; rintro e w' ⟨rfl, hw⟩; obtain rfl := hw.symm; clear hw)
            exact ⟨⟨i + 1, by omega, rfl, by rw [HN.out]; simp, by rw [HN.out]; simp, HX⟩, by simp only [intOf]; omega⟩
          · have hk0 : ((k : Int) != 0) = true := by simp; omega
            have hk1 : ¬ ((k : Int) = 0) := by omega
            go_wp2_with (go_at_call 151; refine (HC.out _).mono ?_; rintro e w' ⟨rfl, hw⟩; obtain rfl := hw.symm; clear hw)
            go_quiet (fail)
            go_wp2_with fail
            exact ⟨⟨i + 1, by omega, rfl, by rw [HN.out]; congr 1; omega, by rw [HN.out]; congr 1; simp; omega, HX.out.trans (turn_drewN _ _) (fun _ h _ => h)⟩, by simp only [intOf]; omega⟩
    | false =>
      go_wp2_with fail
      go_loopw [5, 6, 10] (fun v5 v6 v10 wr => ∃ i : Nat, i ≤ s.size ∧ v10 = .int .i64 i ∧ v5 = .int .i64 ((s.size + nE (s.data.toList.take i) : Nat) : Int) ∧ v6 = .bool (decide (nE (s.data.toList.take i) ≠ 0)) ∧ W = wr) (fun _ _ v10 _ => s.size - (intOf v10).toNat)
      case atStart => exact ⟨0, by omega, rfl, rfl, rfl, rfl⟩
      case round =>
        obtain ⟨i, hi, rfl, rfl, rfl, hwr⟩ := hrel
        subst hwr
        by_cases hi4 : i = s.size
        · have hl : s.data.toList.take i = s.data.toList := List.take_of_length_le (by rw [hi4]; exact Nat.le_of_eq Array.length_toList)
          have hi5 : ¬ ((i : Int) < (s.size : Nat)) := by omega
          rw [hl]
          clear hl
          go_wp2_with fail
          go_meet
          exact ⟨rfl, by simp, Turn.refl _ W⟩
        · have hi6 : i < s.size := by omega
          have hi5 : (i : Int) < (s.size : Nat) := by omega
          have hlen : i < s.data.toList.length := by rw [Array.length_toList]; show i < s.size; omega
          have hn := take_succ_count s.data.toList i hlen
          have hle : nE (s.data.toList.take (i + 1)) ≤ s.size := Nat.le_trans List.countP_le_length (by rw [List.length_take, Array.length_toList]; show _ ≤ s.size; omega)
          obtain ⟨x, hx⟩ : ∃ x, x = s.data.toList[i] := ⟨_, rfl⟩
          have hb8 : s[i]'hi6 = x := by rw [hx]; rfl
          rw [← hx] at hn
          obtain ⟨m, hm⟩ : ∃ m, m = nE (s.data.toList.take i) := ⟨_, rfl⟩
          rw [← hm] at hn ⊢
          have HN : Hid (nE (s.data.toList.take (i + 1)) = m + if isE x then 1 else 0) := hn
          have hxl : (x.toNat : Int) < 256 := by have := UInt8.toNat_lt x; omega
          rw [hn] at hle
          clear hn hm hx hlen
          cases e : isE x with
          | true =>
            obtain ⟨g', k', q1, _⟩ := HR.out.yes x ((isE_iff x).1 e)
            have cc := (HR.out.cel.cell x.toNat).trans q1
            have hne := fun w => neq_some g' k' w
            rw [e] at hle
            clear q1
            go_wp2_with fail
            exact ⟨⟨i + 1, by omega, rfl, by rw [HN.out, e]; exact congrArg _ (by simp only [if_true]; omega), by rw [HN.out, e]; simp, trivial⟩, by simp only [intOf]; omega⟩
          | false =>
            have cc := (HR.out.cel.cell x.toNat).trans (HR.out.no x (fun h => by rw [(isE_iff x).2 h] at e; cases e))
            have hne := fun w => neq_none w
            rw [e] at hle
            go_wp2_with fail
            exact ⟨⟨i + 1, by omega, rfl, by rw [HN.out, e]; rfl, by rw [HN.out, e]; rfl, trivial⟩, by simp only [intOf]; omega⟩
  case rest =>
    obtain ⟨rfl, rfl, HX⟩ := hcut
    have hB : Below W.heap.size W wc := ⟨HX.out.os, HX.out.tape, HX.out.output, HX.out.size, fun k hk => HX.out.block k hk (fun e => e)⟩
    have HS : Hid (RepI B wc b 0 cs (.slice (some ⟨g, 0, none⟩) 4 cap)) := HR.out.turn HX.out (fun _ h => h.elim) hBb
    clear HR HT c256 HX
    by_cases hn0 : nE s.data.toList = 0
    · have hp : escP s.data.toList = s.data.toList := escP_none _ hn0
      go_wp2_with fail
      go_ret
      refine ⟨?_, hB⟩
      rw [hp]
      exact congrArg Ending.returned (show Value.string s = str s.data.toList by simp [str])
    · have hle : nE s.data.toList ≤ s.size := List.countP_le_length
      have hlen : (escP s.data.toList).length = s.size + nE s.data.toList := by rw [escP_len, Array.length_toList]; rfl
      obtain ⟨N, hN⟩ : ∃ N, N = s.size + nE s.data.toList := ⟨_, rfl⟩
      rw [← hN] at hlen ⊢
      have hN1 : N ≤ 2147483648 := by omega
      have hmk := make_buf N hN1
      have HL : Hid ((escP s.data.toList).length = N) := hlen
      have HB : Hid (Below W.heap.size W wc) := hB
      clear hN hle hlen hB
      go_wp2_with fail
      have hCb := Cel.new wc 5 (rowB [] N).toArray
      have hBb' : Below wc.heap.size wc (wc.alloc (.cells (rowB [] N).toArray 5)) := below_new wc _
      generalize wc.alloc (.cells (rowB [] N).toArray 5) = w1 at hCb hBb' ⊢
      go_loopw [13, 14] (fun v13 v14 wr => ∃ i : Nat, i ≤ s.size ∧ v14 = .int .i64 i ∧ v13 = .int .i64 ((escP (s.data.toList.take i)).length : Nat) ∧ Hid (Cel wr wc.heap.size 5 (rowB (escP (s.data.toList.take i)) N).toArray) ∧ Hid (Below wc.heap.size wc wr)) (fun _ v14 _ => s.size - (intOf v14).toNat)
      case atStart => exact ⟨0, by omega, rfl, rfl, hCb, hBb'⟩
      case round =>
        obtain ⟨i, hi, rfl, rfl, HC, HW⟩ := hrel
        by_cases hi4 : i = s.size
        · have hl : s.data.toList.take i = s.data.toList := List.take_of_length_le (by rw [hi4]; exact Nat.le_of_eq Array.length_toList)
          have hi5 : ¬ ((i : Int) < (s.size : Nat)) := by omega
          rw [hl] at HC ⊢
          clear hl
          have kc := run_convert_bytes_back (P := Tryz.prog) wr 146 9 5 ⟨wc.heap.size, 0, none⟩ N (escP s.data.toList) Tryz.underlying146 (by kernel_rfl) (by kernel_rfl) (fun j hj => by
            rw [Addr.add_lit, Nat.zero_add, HC.out.cell j, List.getElem?_toArray]
            exact rowB_full _ N HL.out j hj)
          rw [HL.out] at kc
          go_wp2_with fail
          go_ret
          exact ⟨rfl, HB.out.trans (Below.mono HW.out HB.out.size)⟩
        · have hi6 : i < s.size := by omega
          have hi5 : (i : Int) < (s.size : Nat) := by omega
          have hlen : i < s.data.toList.length := by rw [Array.length_toList]; show i < s.size; omega
          have hn := escP_take s.data.toList i hlen
          have hle := escP_take_le s.data.toList (i + 1)
          rw [HL.out] at hle
          obtain ⟨x, hx⟩ : ∃ x, x = s.data.toList[i] := ⟨_, rfl⟩
          have hb8 : s[i]'hi6 = x := by rw [hx]; rfl
          rw [← hx] at hn
          obtain ⟨D, hD⟩ : ∃ D, D = escP (s.data.toList.take i) := ⟨_, rfl⟩
          rw [← hD] at hn HC ⊢
          have HN : Hid (escP (s.data.toList.take (i + 1)) = D ++ escB x) := hn
          have hxl : (x.toNat : Int) < 256 := by have := UInt8.toNat_lt x; omega
          rw [hn] at hle
          have HDl : Hid (D.length ≤ N) := by
            have h := escP_take_le s.data.toList i
            rw [← hD, HL.out] at h
            exact h
          clear hn hD hx
          cases e : isE x with
          | true =>
            obtain ⟨g', k', q1, _, _, cur', fr', q4, q5, q6⟩ := HS.out.yes x ((isE_iff x).1 e)
            have cc := (HS.out.cel.below HW.out HS.out.cel.lt).cell x.toNat |>.trans q1
            have hne := fun w => neq_some g' k' w
            have y := (HW.out.block g' (Array.getElem?_eq_some_iff.1 q4).1).trans q4
            have HY : Hid (∀ j v, [Value.int .u8 92, .int .u8 x.toNat][j]? = some v → wr.cell? ((⟨g', 0, none⟩ : Addr).add j) = some v) := by
              intro j v hj
              rw [Addr.add_lit, Nat.zero_add]
              have : wr.cell? ⟨g', j, none⟩ = cur'[j]? := by simp [World.cell?, y]
              rw [this]
              match j, hj with
              | 0, hj => rw [q5]; exact hj
              | 1, hj => rw [q6]; exact hj
              | j + 2, hj => simp at hj
            have he : escB x = [92, x] := by rw [escB, e]; rfl
            rw [he] at hle HN
            clear q1 q4 q5 q6 y he
            have hle2 : D.length + 2 ≤ N := by simpa using hle
            clear hle
            have hj1 : (D.length : Int) ≤ (N : Nat) := by omega
            go_wp2_with fail
            go_region_law (refine step_copy_splice rfl (.tmp 105) (.tmp 111) 146 146 rfl 5 Tryz.underlying146 (by kernel_rfl) (some ⟨wc.heap.size, D.length, none⟩) (some ⟨g', 0, none⟩) (N - D.length) (N - D.length) 2 k' (by go_simp; intro h; omega) (by go_simp) wc.heap.size D.length (rowB D N) 5 HC.out [.int .u8 92, .int .u8 x.toNat] (by show 2 = min 2 (N - D.length); omega) (fun _ => ⟨rfl, _, rfl, HY.out⟩) (by rw [rowB_len _ _ (by omega)]; exact hle2) (by simp [Value.oneCell']) wc.heap.size wc HW.out.drew (Nat.le_refl _) ?_; intro w4 hg4 hb4)
            go_wp2_with fail
            refine ⟨⟨i + 1, by omega, rfl, by rw [HN.out]; simp, ?_, trivial⟩, by simp only [intOf]; omega⟩
            rw [HN.out, ← rowB_splice _ _ _ hle2]
            exact hg4.out
          | false =>
            have cc := (HS.out.cel.below HW.out HS.out.cel.lt).cell x.toNat |>.trans (HS.out.no x (fun h => by rw [(isE_iff x).2 h] at e; cases e))
            have hne := fun w => neq_none w
            have he : escB x = [x] := by rw [escB, e]; rfl
            rw [he] at hle HN
            have hle2 : D.length + 1 ≤ N := by simpa using hle
            clear hle he
            have hj1 : (D.length : Int) < (N : Nat) := by omega
            have ccj := (HC.out.cell D.length).trans (List.getElem?_toArray.trans (List.getElem?_eq_getElem (by rw [rowB_len _ _ (by omega)]; omega)))
            have ff := HC.out.frozen D.length
            go_wp2_with fail
            refine ⟨⟨i + 1, by omega, rfl, by rw [HN.out]; simp, ?_, ?_⟩, by simp only [intOf]; omega⟩
            · have := HC.out.set (j := D.length) (.int .u8 x.toNat)
              rw [HN.out, ← rowB_set _ _ _ (by omega)]
              exact (by simpa using this : Cel _ _ _ _)
            · exact HW.out.setCell (p := ⟨wc.heap.size, D.length, none⟩) (Nat.le_refl _) _
end Go.Proofs.YtlihkblllakhmaaGreatDoor

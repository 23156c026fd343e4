/- The replacer that is built of the four signs that are escaped. -/
import Derived.Test.YtlihkblllakhmaaGreatDoorQuA
import Derived.Laws.IdiomStrings
namespace Go.Proofs.YtlihkblllakhmaaGreatDoor
open Go.RowKit
attribute [local go_sem] Oper.semAt_some
theorem byte_one (o : UInt8) (h : 0 < (⟨#[o]⟩ : ByteArray).size) : (⟨#[o]⟩ : ByteArray)[0]'h = o := rfl
attribute [local go_sem] byte_one

/-- What is replaced, and by what. -/
def reps : List Value := [str [34], str [92, 34], str [92], str [92, 92], str [36], str [92, 36], str [91], str [92, 91]]
def esc4 : List UInt8 := [34, 92, 36, 91]
/-- The replacer's cells before anything is to be replaced. -/
def rep0 (v : Value) : Array Value := (Array.replicate 256 (.slice none 0 0)).push v
theorem zero_rep : Tryz.zeroCells149.toList = List.replicate 256 (.slice none 0 0) ++ [.slice none 0 0] := by kernel_rfl
theorem zero_len : Tryz.zeroCells149.size = 257 := by
  rw [← Array.length_toList, zero_rep, List.length_append, List.length_replicate]
  rfl
theorem zero_set (v : Value) : (Tryz.zeroCells149.toList.set 256 v).toArray = rep0 v := by
  rw [zero_rep, List.set_append_right _ _ (by rw [List.length_replicate]; exact Nat.le_refl _), List.length_replicate, rep0]
  apply Array.toList_inj.1
  rw [Array.toList_push, Array.toList_replicate]
  rfl
theorem rep0_size (v : Value) : (rep0 v).size = 257 := by rw [rep0, Array.size_push, Array.size_replicate]
theorem rep0_low (v : Value) (c : Nat) (h : c < 256) : (rep0 v)[c]? = some (.slice none 0 0) := by
  rw [rep0, Array.getElem?_push, Array.size_replicate, if_neg (by omega), Array.getElem?_replicate, if_pos h]
theorem rep0_top (v : Value) : (rep0 v)[256]? = some v := by
  rw [rep0, Array.getElem?_push, Array.size_replicate, if_pos rfl]
/-- The j-th pair and those behind it are in the replacer. -/
structure RepI (B : Nat) (W : World) (b j : Nat) (cs : Array Value) (tr : Value) : Prop where
  cel : Cel W b 149 cs
  size : cs.size = 257
  top : cs[256]? = some tr
  own : W.ownsRow B 9 1 tr (4 - j) ((esc4.drop j).reverse.map fun c => str [c])
  no : ∀ c : UInt8, c ∉ esc4.drop j → cs[c.toNat]? = some (.slice none 0 0)
  yes : ∀ c : UInt8, c ∈ esc4.drop j → ∃ g k, cs[c.toNat]? = some (.slice (some ⟨g, 0, none⟩) 2 k) ∧ B ≤ g ∧ g ≠ b ∧ ∃ cur fr, W.heap[g]? = some (.cells cur 5 fr) ∧ cur[0]? = some (.int .u8 92) ∧ cur[1]? = some (.int .u8 c.toNat)
theorem setRow_alloc (w : World) (C D : Array Value) (t : TypeId) : (w.alloc (.cells C t)).setRow w.heap.size D = w.alloc (.cells D t) := by
  have hm : ∀ (a : Array Obj) (x : Obj) (f : Obj → Obj), (a.push x).modify a.size f = a.push (f x) := by
    intro a x f
    apply Array.ext
    · simp
    · intro i h1 h2
      simp only [Array.getElem_modify, Array.getElem_push]
      by_cases h : a.size = i
      · subst h
        simp
      · have hi : i < a.size := by simp at h1; omega
        simp [h, hi]
  unfold World.setRow
  show ({ w.alloc (.cells C t) with heap := (w.heap.push (.cells C t)).modify w.heap.size _ } : World) = _
  rw [hm]
  rfl
theorem store_rep (w : World) (n : Nat) (C : Array Value) (hn : n = w.heap.size + 1) (ad : Option Addr) (l c : Nat) : (storeCells ⟨n, 0, none⟩ (Tryz.zeroCells149.toList.set 256 (.slice ad l c))).run Tryz.prog ((w.alloc (.cells C 9)).alloc (.cells Tryz.zeroCells149 149)) = .ok () ((w.alloc (.cells C 9)).alloc (.cells (rep0 (.slice ad l c)) 149)) := by
  have hs : (w.alloc (.cells C 9)).heap.size = n := by rw [hn]; simp
  have h := run_storeCells_from (P := Tryz.prog) n 149 (Tryz.zeroCells149.toList.set 256 (.slice ad l c)) 0 Tryz.zeroCells149 ((w.alloc (.cells C 9)).alloc (.cells Tryz.zeroCells149 149)) (by rw [← hs]; exact World.alloc_heap_new _ _) (by rw [List.length_set, Array.length_toList, Nat.zero_add]) (by
    intro v hv
    rcases List.mem_or_eq_of_mem_set hv with hv | rfl
    · rw [zero_rep, List.mem_append, List.mem_replicate, List.mem_singleton] at hv
      rcases hv with ⟨_, rfl⟩ | rfl <;> rfl
    · rfl)
  rw [h, List.take_zero, List.nil_append, zero_set, ← hs, setRow_alloc]
theorem rep_next (B b m k g2 : Nat) (o : UInt8) (cs : Array Value) (wr w4 : World) (tr tr' : Value) (HR : RepI B wr b (m + 1) cs tr) (hO : esc4.drop m = o :: esc4.drop (m + 1)) (ho : o ∉ esc4.drop (m + 1))
    (hT : ∀ x, x < wr.heap.size → x ≠ b → tr.ownBlock ≠ some x → w4.heap[x]? = wr.heap[x]?)
    (hcel : Cel w4 b 149 ((cs.setIfInBounds 256 tr').setIfInBounds o.toNat (.slice (some ⟨g2, 0, none⟩) 2 k)))
    (hown : w4.ownsRow B 9 1 tr' (4 - m) ((esc4.drop m).reverse.map fun c => str [c])) (h1 : B ≤ g2) (h2 : g2 ≠ b) (h3 : ∃ cur fr, w4.heap[g2]? = some (.cells cur 5 fr) ∧ cur[0]? = some (.int .u8 92) ∧ cur[1]? = some (.int .u8 o.toNat)) :
    RepI B w4 b m ((cs.setIfInBounds 256 tr').setIfInBounds o.toNat (.slice (some ⟨g2, 0, none⟩) 2 k)) tr' := by
  have ho3 := UInt8.toNat_lt o
  have hs := HR.size
  refine ⟨hcel, by simp [hs], ?_, hown, ?_, ?_⟩
  · rw [Array.getElem?_setIfInBounds_ne (by omega), Array.getElem?_setIfInBounds_self, if_pos (by omega)]
  · intro c hc
    rw [hO, List.mem_cons, not_or] at hc
    have hc3 := UInt8.toNat_lt c
    have hne : o.toNat ≠ c.toNat := fun e => hc.1 (UInt8.toNat_inj.1 e).symm
    rw [Array.getElem?_setIfInBounds_ne hne, Array.getElem?_setIfInBounds_ne (by omega)]
    exact HR.no c hc.2
  · intro c hc
    have hc3 := UInt8.toNat_lt c
    rw [hO, List.mem_cons] at hc
    by_cases e : c = o
    · subst e
      exact ⟨g2, k, by rw [Array.getElem?_setIfInBounds_self, if_pos (by simp; omega)], h1, h2, h3⟩
    · rcases hc with e' | hc
      · exact absurd e' e
      have hne : o.toNat ≠ c.toNat := fun e' => e (UInt8.toNat_inj.1 e').symm
      obtain ⟨g, k', q1, q2, q3, cur, fr, q4, q5⟩ := HR.yes c hc
      refine ⟨g, k', by rw [Array.getElem?_setIfInBounds_ne hne, Array.getElem?_setIfInBounds_ne (by omega)]; exact q1, q2, q3, cur, fr, ?_, q5⟩
      rw [hT g (Array.getElem?_eq_some_iff.1 q4).1 q3 ?_]
      · exact q4
      · intro e'
        rcases HR.own.2 with ⟨rfl, _⟩ | ⟨g', cap, cur', rfl, _, hgb, _⟩
        · simp [Value.ownBlock] at e'
        · obtain rfl : g' = g := by simpa [Value.ownBlock] using e'
          rw [q4] at hgb
          simp at hgb
theorem rep_start (w : World) (b : Nat) (hb : b = w.heap.size + 1) : RepI w.heap.size ((w.alloc (.cells #[str [], str [], str [], str []] 9)).alloc (.cells (rep0 (.slice (some ⟨w.heap.size, 0, none⟩) 0 4)) 149)) b 4 (rep0 (.slice (some ⟨w.heap.size, 0, none⟩) 0 4)) (.slice (some ⟨w.heap.size, 0, none⟩) 0 4) := by
  have hs : (w.alloc (.cells #[str [], str [], str [], str []] 9)).heap.size = b := by rw [hb]; simp
  refine ⟨by rw [← hs]; exact Cel.new _ _ _, rep0_size _, rep0_top _, ?_, fun c _ => rep0_low _ _ (UInt8.toNat_lt c), fun c h => by simp [esc4] at h⟩
  exact owns_turn (World.ownsRow_made w #[str [], str [], str [], str []] 4 (Nat.le_refl _) (by decide) rfl) (Turn.ofBelow (S := fun _ => False) (below_new _ _)) (fun _ _ e => e)
/-- The pairs, one by one. -/
theorem reps_at (W : World) (g : Nat) (hx : ∀ j u, reps[j]? = some u → W.cell? ((⟨g, 0, none⟩ : Addr).add j) = some u) : ∀ m, m < 4 → ∃ o : UInt8, W.cell? ⟨g, 2 * m, none⟩ = some (str [o]) ∧ W.cell? ⟨g, 2 * m + 1, none⟩ = some (str [92, o]) ∧ esc4.drop m = o :: esc4.drop (m + 1) ∧ o ∉ esc4.drop (m + 1) ∧ o.toNat < 256 := by
  intro m hm
  have x := hx (2 * m)
  have y := hx (2 * m + 1)
  simp only [Addr.add_lit, Nat.zero_add] at x y
  rcases (by omega : m = 0 ∨ m = 1 ∨ m = 2 ∨ m = 3) with rfl | rfl | rfl | rfl
  · exact ⟨34, x _ rfl, y _ rfl, rfl, by decide, by decide⟩
  · exact ⟨92, x _ rfl, y _ rfl, rfl, by decide, by decide⟩
  · exact ⟨36, x _ rfl, y _ rfl, rfl, by decide, by decide⟩
  · exact ⟨91, x _ rfl, y _ rfl, rfl, by decide, by decide⟩
theorem conv_one (w : World) (o : UInt8) : (convert 146 9 (.slice (some ⟨w.heap.size, 0, none⟩) 1 1)).run Tryz.prog (w.alloc (.cells #[.int .u8 o.toNat] 5)) = .ok (str [o]) (w.alloc (.cells #[.int .u8 o.toNat] 5)) :=
  run_convert_bytes_back (P := Tryz.prog) _ _ _ 5 ⟨w.heap.size, 0, none⟩ 1 [o] Tryz.underlying146 (by kernel_rfl) (by kernel_rfl) (fun j hj => by
    have := cells_new w [.int .u8 o.toNat] 5 j (.int .u8 o.toNat) (by
      obtain rfl : j = 0 := by simpa using hj
      rfl)
    rw [this]
    obtain rfl : j = 0 := by simpa using hj
    rfl)
set_option maxRecDepth 100000 in
set_option maxHeartbeats 2000000 in
theorem build_any (W : World) (q g cap : Nat) (hc : W.cell? ⟨q, 4, none⟩ = some (.slice (some ⟨g, 0, none⟩) 8 cap)) (hx : ∀ j u, reps[j]? = some u → W.cell? ((⟨g, 0, none⟩ : Addr).add j) = some u) :
    Calls Tryz.prog 60 #[.pointer (some ⟨q, 0, none⟩)] W fun e w' => ∃ b cs tr, e = .returned (.iface 150 (.pointer (some ⟨b, 0, none⟩))) ∧ W.heap.size ≤ b ∧ RepI W.heap.size w' b 0 cs tr ∧ Below W.heap.size W w' := by
  have x0 := hx 0 _ rfl
  have x1 := hx 1 _ rfl
  have x2 := hx 2 _ rfl
  have x3 := hx 3 _ rfl
  have x4 := hx 4 _ rfl
  have x5 := hx 5 _ rfl
  have x6 := hx 6 _ rfl
  have x7 := hx 7 _ rfl
  simp only [Addr.add_lit, Nat.zero_add] at x0 x1 x2 x3 x4 x5 x6 x7
  have hmk : ∀ w : World, (Instr.makeSlice 96 (.int .i64 0) (.int .i64 4)).run Tryz.prog w = .ok (.slice (some ⟨w.heap.size, 0, none⟩) 0 4) (w.alloc (.cells #[str [], str [], str [], str []] 9)) := fun _ => by kernel_rfl
  have hXX : ∀ w, w = W → ∀ m, m < 4 → ∃ o : UInt8, w.cell? ⟨g, 2 * m, none⟩ = some (str [o]) ∧ w.cell? ⟨g, 2 * m + 1, none⟩ = some (str [92, o]) ∧ esc4.drop m = o :: esc4.drop (m + 1) ∧ o ∉ esc4.drop (m + 1) ∧ o.toNat < 256 := fun w e => e ▸ reps_at W g hx
  have hgl : g < W.heap.size := World.block_lt_of_cell? W _ x0
  have heq : ∀ w : World, (binOp .eql 146 (.slice none 0 0) (.slice none 0 0)).run Tryz.prog w = .ok (.bool true) w := fun _ => by kernel_rfl
  obtain ⟨i0, hi, hz0, hz1, hz2⟩ := info_parts infoS
  obtain ⟨B0, hB0⟩ : ∃ B0, B0 = W.heap.size := ⟨_, rfl⟩
  clear hx
  go_enter Tryz.func60, Tryz.ntmps60
  go_wp2_with fail
  go_loopw [4, 5] (fun v4 v5 wr => ∃ k : Nat, k ≤ 4 ∧ v5 = .int .i64 ((2 * k : Nat) : Int) ∧ v4 = .bool (decide (k = 0)) ∧ W = wr) (fun _ v5 _ => 8 - (intOf v5).toNat)
  case atStart => exact ⟨0, by omega, rfl, rfl, rfl⟩
  case round =>
    obtain ⟨k, hk, rfl, rfl, hwr⟩ := hrel
    subst hwr
    rcases (by omega : k = 0 ∨ k = 1 ∨ k = 2 ∨ k = 3 ∨ k = 4) with rfl | rfl | rfl | rfl | rfl
    · go_wp2_with fail
      exact ⟨⟨1, by omega, rfl, rfl, trivial⟩, by decide⟩
    · go_wp2_with fail
      exact ⟨⟨2, by omega, rfl, rfl, trivial⟩, by decide⟩
    · go_wp2_with fail
      exact ⟨⟨3, by omega, rfl, rfl, trivial⟩, by decide⟩
    · go_wp2_with fail
      exact ⟨⟨4, by omega, rfl, rfl, trivial⟩, by decide⟩
    · go_wp2_with (rw [store_rep _ _ _ rfl])
      obtain ⟨b, hb⟩ : ∃ b, b = W.heap.size + 1 := ⟨_, rfl⟩
      have hR : RepI W.heap.size ((W.alloc (.cells #[str [], str [], str [], str []] 9)).alloc (.cells (rep0 (.slice (some ⟨W.heap.size, 0, none⟩) 0 4)) 149)) b 4 (rep0 (.slice (some ⟨W.heap.size, 0, none⟩) 0 4)) (.slice (some ⟨W.heap.size, 0, none⟩) 0 4) := rep_start W b hb
      have hB : Below W.heap.size W ((W.alloc (.cells #[str [], str [], str [], str []] 9)).alloc (.cells (rep0 (.slice (some ⟨W.heap.size, 0, none⟩) 0 4)) 149)) := ((Below.refl _ W).alloc (Nat.le_refl _) _).alloc (by simp) _
      rw [← hb]
      have Hb : Hid (b = W.heap.size + 1) := hb
      generalize ((W.alloc (.cells #[str [], str [], str [], str []] 9)).alloc (.cells (rep0 (.slice (some ⟨W.heap.size, 0, none⟩) 0 4)) 149)) = w1 at hR hB ⊢
      have hX := hXX W rfl
      clear x0 x1 x2 x3 x4 x5 x6 x7 hXX hb
      rw [← hB0] at hR hB Hb
      go_loopw [12] (fun v12 w2 => ∃ (j : Nat) (cs : Array Value) (tr : Value), j ≤ 4 ∧ v12 = .int .i64 ((2 * j : Nat) - 2 : Int) ∧ Hid (RepI B0 w2 b j cs tr) ∧ Hid (Below B0 W w2)) (fun v12 _ => (intOf v12 + 2).toNat)
      case atStart => exact ⟨4, _, _, Nat.le_refl _, rfl, hR, hB⟩
      case round =>
        obtain ⟨j, cs, tr, hj, rfl, HR, HB⟩ := hrel
        match j, hj, HR with
        | 0, _, HR =>
          go_wp2_with fail
          go_ret
          exact ⟨b, cs, tr, rfl, by have := Hb.out; omega, hB0 ▸ HR.out, hB0 ▸ HB.out⟩
        | m + 1, hm, HR =>
          obtain ⟨o, xo, xn, ho1, ho2, ho3⟩ := hX m (by omega)
          have HO : Hid (esc4.drop m = o :: esc4.drop (m + 1) ∧ o ∉ esc4.drop (m + 1)) := ⟨ho1, ho2⟩
          have yo := (HB.out.cell (p := ⟨g, 2 * m, none⟩) (hB0 ▸ hgl)).trans xo
          have yn := (HB.out.cell (p := ⟨g, 2 * m + 1, none⟩) (hB0 ▸ hgl)).trans xn
          have hi1 : ((2 * (m + 1) : Nat) - 2 : Int) = ((2 * m : Nat) : Int) := by omega
          have hi2 : ((2 * m : Nat) : Int) < 8 := by omega
          have hi3 : ((2 * m : Nat) : Int) + 1 < 8 := by omega
          have hi4 : ((2 * m : Nat) : Int) + 1 = ((2 * m + 1 : Nat) : Int) := by omega
          have hc1 : (o.toNat : Int) < 256 := by omega
          have c0 := (HR.out.cel.cell o.toNat).trans (HR.out.no o ho2)
          have ct := (HR.out.cel.cell 256).trans HR.out.top
          have f0 := HR.out.cel.frozen o.toNat
          have ft := HR.out.cel.frozen 256
          have hown0 := HR.out.own
          obtain ⟨n, hn⟩ : ∃ n, 4 - (m + 1) = n := ⟨_, rfl⟩
          rw [hn] at hown0
          obtain ⟨ad, cp, rfl⟩ := owns_slice hown0
          clear ho1 ho2 xo xn hX
          rw [hi1]
          clear hi1
          have kc := fun w => conv_one w o
          have hb149 : b < wr.heap.size := HR.out.cel.lt
          go_wp2_with ((at_builtin; refine wpList_append_own_at _ rfl _ _ 96 rfl B0 9 i0 _ 1 16 Tryz.underlying96 hi hz0 hz1 hz2 rfl (by decide) _ n _ rfl ((hown0.alloc _).alloc _) ⟨wr.heap.size + 1, 0, none⟩ 1 1 [str [o]] rfl rfl (cells_new2 _ _ [str [o]] _) (by simp [Value.oneCell']) (by have := maxLen_big; omega) (by omega) (by simp; have := HB.out.size; omega) ?_; intro v' w' hown hgrow _ _; obtain ⟨ad', cp', rfl⟩ := owns_slice hown; have hcel : Cel w' b 149 cs := Cel.turn ((HR.out.cel.below (below_new _ _) hb149).below (below_new _ _) (by simp; omega)) (Turn.ofGrown hgrow) (fun e => owns_apart HR.out.cel hown0 (by decide) e); have ct' := (hcel.cell 256).trans HR.out.top; have ft' := hcel.frozen 256; have hbel : Below B0 wr w' := grown_own (by simp; have := HB.out.size; omega) (((Below.refl _ wr).alloc (by have := HB.out.size; omega) _).alloc (by simp; have := HB.out.size; omega) _) ((hown0.alloc _).alloc _) hgrow))
          have hcel2 : Cel (w'.setCell ⟨b, 256, none⟩ (.slice ad' (n + 1) cp')) b 149 (cs.setIfInBounds 256 (.slice ad' (n + 1) cp')) := hcel.set _
          have hown2 : (w'.setCell ⟨b, 256, none⟩ (.slice ad' (n + 1) cp')).ownsRow B0 9 1 (.slice ad' (n + 1) cp') (n + 1) (((esc4.drop (m + 1)).reverse.map fun c => str [c]) ++ [str [o]]) := owns_turn (S := fun i => i = b) hown (Turn.setCell (p := ⟨b, 256, none⟩) (Turn.refl (fun i => i = b) _) (fun _ => rfl) _) (fun x hx e => by subst e; exact owns_apart hcel hown (by decide) hx)
          have hT2 : Turn (fun i => i = b ∨ (Value.slice ad n cp).ownBlock = some i) wr (w'.setCell ⟨b, 256, none⟩ (.slice ad' (n + 1) cp')) := Turn.setCell (p := ⟨b, 256, none⟩) ((Turn.ofBelow ((below_new wr _).trans (Below.mono (below_new (wr.alloc _) _) (by simp)))).trans (Turn.ofGrown hgrow) (fun i hi _ => .inr hi)) (fun _ => .inl rfl) _
          have hB2 : Below B0 W (w'.setCell ⟨b, 256, none⟩ (.slice ad' (n + 1) cp')) := (HB.out.trans hbel).setCell (p := ⟨b, 256, none⟩) (by have := Hb.out; show B0 ≤ b; omega) _
          generalize w'.setCell ⟨b, 256, none⟩ (.slice ad' (n + 1) cp') = w2 at hcel2 hown2 hT2 hB2 ⊢
          rw [run_bytes_of_string w2 9 146 5 ⟨#[92, o]⟩ (by kernel_rfl) Tryz.underlying146 (by kernel_rfl)]
          generalize grownCap w2 _ 0 5 = kk
          have hcel3 : Cel (w2.drew.alloc (.cells (bytesRow ⟨#[92, o]⟩ kk) 5 ((bytesRow ⟨#[92, o]⟩ kk).size, (bytesRow ⟨#[92, o]⟩ kk).size + 1))) b 149 (cs.setIfInBounds 256 (.slice ad' (n + 1) cp')) := hcel2.below (((Below.refl _ w2).drew).alloc (Nat.le_refl _) _) hcel2.lt
          have hown3 := owns_turn (S := fun _ => False) hown2 (Turn.alloc (Turn.drew (Turn.refl _ w2)) (.cells (bytesRow ⟨#[92, o]⟩ kk) 5 ((bytesRow ⟨#[92, o]⟩ kk).size, (bytesRow ⟨#[92, o]⟩ kk).size + 1))) (fun _ _ e => e)
          have hT3 := Turn.alloc (Turn.drew hT2) (.cells (bytesRow ⟨#[92, o]⟩ kk) 5 ((bytesRow ⟨#[92, o]⟩ kk).size, (bytesRow ⟨#[92, o]⟩ kk).size + 1))
          have hB3 := hB2.drew.alloc (by rw [hB0]; exact hB2.size) (.cells (bytesRow ⟨#[92, o]⟩ kk) 5 ((bytesRow ⟨#[92, o]⟩ kk).size, (bytesRow ⟨#[92, o]⟩ kk).size + 1))
          have hnew : (w2.drew.alloc (.cells (bytesRow ⟨#[92, o]⟩ kk) 5 ((bytesRow ⟨#[92, o]⟩ kk).size, (bytesRow ⟨#[92, o]⟩ kk).size + 1))).heap[w2.heap.size]? = some (.cells (bytesRow ⟨#[92, o]⟩ kk) 5 ((bytesRow ⟨#[92, o]⟩ kk).size, (bytesRow ⟨#[92, o]⟩ kk).size + 1)) := World.alloc_heap_new w2.drew _
          have r0 : (bytesRow ⟨#[92, o]⟩ kk)[0]? = some (.int .u8 92) := bytesRow_at _ kk 0 (by simp)
          have r1 : (bytesRow ⟨#[92, o]⟩ kk)[1]? = some (.int .u8 o.toNat) := bytesRow_at _ kk 1 (by simp)
          have hg2 : B0 ≤ w2.heap.size ∧ w2.heap.size ≠ b := ⟨by rw [hB0]; exact hB2.size, by have := hcel2.lt; omega⟩
          generalize (w2.drew.alloc (.cells (bytesRow ⟨#[92, o]⟩ kk) 5 ((bytesRow ⟨#[92, o]⟩ kk).size, (bytesRow ⟨#[92, o]⟩ kk).size + 1))) = w3 at hcel3 hown3 hT3 hB3 hnew ⊢
          generalize bytesRow ⟨#[92, o]⟩ kk = br at hnew r0 r1
          generalize w2.heap.size = g2 at hnew hg2 ⊢
          have c3 := (hcel3.cell o.toNat).trans ((Array.getElem?_setIfInBounds_ne (by omega)).trans (HR.out.no o HO.out.2))
          have f3 := hcel3.frozen o.toNat
          go_wp2_with fail
          have hT4 := Turn.setCell (p := ⟨b, o.toNat, none⟩) hT3 (fun _ => .inl rfl) (.slice (some ⟨g2, 0, none⟩) 2 kk)
          have hown4 := owns_turn (S := fun i => i = b) hown3 (Turn.setCell (p := ⟨b, o.toNat, none⟩) (Turn.refl (fun i => i = b) _) (fun _ => rfl) (.slice (some ⟨g2, 0, none⟩) 2 kk)) (fun x hx e => by subst e; exact owns_apart hcel3 hown3 (by decide) hx)
          have hL : (esc4.drop m).reverse.map (fun c => str [c]) = ((esc4.drop (m + 1)).reverse.map fun c => str [c]) ++ [str [o]] := by rw [HO.out.1, List.reverse_cons, List.map_append]; rfl
          refine ⟨⟨m, (cs.setIfInBounds 256 (.slice ad' (n + 1) cp')).setIfInBounds o.toNat (.slice (some ⟨g2, 0, none⟩) 2 kk), .slice ad' (n + 1) cp', by omega, congrArg (Value.int .i64) (by omega), ?_, ?_⟩, ?_⟩
          · refine rep_next B0 b m kk g2 o cs wr _ _ _ HR.out HO.out.1 HO.out.2 (fun x hx h1 h2 => hT4.block x hx (fun h => h.elim h1 h2)) (hcel3.set _) ?_ hg2.1 hg2.2 ⟨br, _, (Below.heap_setCell _ _ _ _ hg2.2).trans hnew, r0, r1⟩
            rw [show 4 - m = n + 1 by omega, hL]
            exact hown4
          · exact hB3.setCell (p := ⟨b, o.toNat, none⟩) (by have := Hb.out; show B0 ≤ b; omega) _
          · simp only [intOf]
            omega
end Go.Proofs.YtlihkblllakhmaaGreatDoor

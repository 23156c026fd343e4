/- Texts; rows of one's own; what is written over. -/
import Derived.Test.YtdajacodfnidfaaDoorGroup
import Derived.OwnWalk
namespace Go.Proofs.YtdajacodfnidfaaDoor
open Go.RowKit Go.Shelf

theorem GotL.owns {B : Nat} {a : Addr} {r : Option (List (List UInt8))} {e : Ending} {w : World} (h : GotL B a r e w) : ∃ v, e = .returned (.tuple #[v, resV a r]) ∧ w.ownsRow B 9 1 v (resL r).length (txV (resL r)) := by
  cases r with
  | none => exact ⟨.slice none 0 0, h, rfl, .inl ⟨rfl, rfl⟩⟩
  | some l => exact h

set_option maxRecDepth 100000 in
set_option maxHeartbeats 2000000 in
theorem texts_any (v : Value) (l : List (List UInt8)) (w : World) (h : Tx w v l) (hl : l.length < 4294967296) :
    Calls Tryd.prog 18 #[v] w fun e w' => ∃ v', e = .returned v' ∧ w'.ownsRow w.heap.size 9 1 v' l.length (txV l) ∧ Below w.heap.size w w' := by
  obtain ⟨i0, hi0, hz0, hz1, hz2⟩ := info_parts info9
  have HT : Hid (Tx w v l) := h
  obtain ⟨ad, cap, rfl⟩ := h.form
  clear h
  go_enter Tryd.func18, Tryd.ntmps18
  go_wp2_with (at_make; refine wpList_make_own _ rfl _ _ 22 rfl w.heap.size 9 i0 (.string ⟨#[]⟩) 1 Tryd.underlying22 hi0 hz0 hz1 .i64 .i64 _ l.length rfl rfl rfl (by rw [hz2]; omega) (by have := maxLen_big; omega) (Nat.le_refl _) ?_; intro w0 hown0 hgrow0)
  have hb0 : Below w.heap.size w w0 := (Below.refl _ w).grown hgrow0 (Nat.le_refl _) fun q e => by cases e
  have HO0 : Hid _ := hown0
  clear hown0 hgrow0
  go_loopw [3, 4] (fun v3 v4 wr => ∃ k : Nat, v4 = .int .i64 k ∧ k ≤ l.length ∧ Hid (wr.ownsRow w.heap.size 9 1 v3 (l.take k).length (txV (l.take k))) ∧ Below w.heap.size w wr) (fun _ v4 _ => l.length - (intOf v4).toNat)
  case atStart => exact ⟨0, rfl, by omega, HO0.out, hb0⟩
  case round =>
    obtain ⟨k, rfl, hk, HO, hbr⟩ := hrel
    by_cases hkl : k < l.length
    · obtain ⟨x, hx⟩ : ∃ x, l[k]? = some x := ⟨_, List.getElem?_eq_getElem hkl⟩
      obtain ⟨g, o, cap', hv, hcc, hg, hce⟩ := HT.out.inRow (fun e => by rw [e] at hkl; simp at hkl)
      cases hv
      have c0 := (hbr.cell (p := ⟨g, o + k, none⟩) hg).trans (hce k x hx)
      have HTK : Hid (l.take (k + 1) = l.take k ++ [x]) := by unfold Hid; rw [List.take_add_one, hx]; rfl
      have HTL : Hid ((l.take k).length = k) := by unfold Hid; rw [List.length_take]; omega
      have ho := HO.out
      rw [HTL.out] at ho
      clear hce hx
      have hba : Below w.heap.size w (wr.alloc (.cells #[.string ⟨x.toArray⟩] 9)) := hbr.alloc hbr.size _
      go_wp2_with (at_builtin; refine wpList_append_own _ rfl _ _ 22 rfl w.heap.size 9 i0 (.string ⟨#[]⟩) 1 16 Tryd.underlying22 hi0 hz0 hz1 hz2 rfl (by decide) _ _ _ rfl (ho.alloc _) ⟨wr.heap.size, 0, none⟩ 1 1 (txV [x]) rfl rfl (Tx.cells (Tx.one wr x)) (txV_one [x]) (by have := maxLen_big; omega) (by omega) hba.size ?_; intro v' w5 hown' hgrow _)
      refine ⟨⟨k + 1, by simp, by omega, ?_, grown_own hba.size hba (ho.alloc _) hgrow⟩, by simp [intOf]; omega⟩
      have e1 := HTK.out
      unfold Hid
      rw [e1, txV_append, List.length_append, HTL.out]
      exact hown'
    · have hkz : k = l.length := by omega
      subst hkz
      rw [List.take_length] at HO
      go_wp2_with fail
      go_ret
      exact ⟨_, rfl, HO.out, hbr⟩

/-- A row of texts of one's own, its block within these bounds. -/
def Zone (W : World) (lo hi : Nat) (v : Value) (n : Nat) : Prop := ∃ xs, W.ownsRow lo 9 1 v n xs ∧ ∀ k, v.ownBlock = some k → k < hi
theorem Zone.of {W : World} {lo n : Nat} {v : Value} {xs : List Value} (h : W.ownsRow lo 9 1 v n xs) : Zone W lo W.heap.size v n := by
  refine ⟨xs, h, fun k hk => ?_⟩
  rcases h.2 with ⟨rfl, _⟩ | ⟨g, cap, cur, rfl, hb, hc, _⟩
  · cases hk
  · cases hk
    exact (Array.getElem?_eq_some_iff.1 hc).1
theorem Zone.block {W : World} {lo hi n : Nat} {v : Value} (h : Zone W lo hi v n) : ∀ k, v.ownBlock = some k → lo ≤ k ∧ k < hi := by
  intro k hk
  obtain ⟨xs, h1, h2⟩ := h
  refine ⟨?_, h2 k hk⟩
  rcases h1.2 with ⟨rfl, _⟩ | ⟨g, cap, cur, rfl, hb, _⟩
  · cases hk
  · cases hk
    exact hb
theorem Zone.kept {W W' : World} {lo hi n : Nat} {v : Value} {row : Option Nat} (h : Zone W lo hi v n) (hg : W.grownBy W' row) (hr : ∀ k, row = some k → k < lo ∨ hi ≤ k) : Zone W' lo hi v n := by
  have hb := h.block
  obtain ⟨xs, h1, h2⟩ := h
  refine ⟨xs, h1.kept hg ?_, h2⟩
  cases e : v.ownBlock with
  | none => exact .inl rfl
  | some k =>
    right
    intro e2
    have h3 := hb k e
    have h4 := hr k e2.symm
    omega
theorem Zone.below {W W' : World} {lo hi n : Nat} {v : Value} (h : Zone W lo hi v n) (hb : Below W.heap.size W W') : Zone W' lo hi v n := by
  obtain ⟨xs, h1, h2⟩ := h
  exact ⟨xs, owns_after h1 hb, h2⟩

/-- A row that may be written over. -/
def RowW (W : World) (B : Nat) (v : Value) : Prop := ∃ g n cap cur, v = .slice (some ⟨g, 0, none⟩) n cap ∧ B ≤ g ∧ W.heap[g]? = some (.cells cur 9 (0, 0)) ∧ n ≤ cur.size ∧ n ≤ cap ∧ n < 4294967296
/-- Beside these blocks. -/
def Beside (lo hi : Nat) (v : Value) : Prop := ∀ k, v.ownBlock = some k → k < lo ∨ hi ≤ k
theorem RowW.of {W : World} {B n : Nat} {v : Value} {xs : List Value} (h : W.ownsRow B 9 1 v n xs) (hn : v ≠ .slice none 0 0) (hs : n < 4294967296) : RowW W B v := by
  rcases h.2 with ⟨rfl, _⟩ | ⟨g, cap, cur, rfl, hb, hc, h1, _, h2, _⟩
  · exact absurd rfl hn
  · exact ⟨g, n, cap, cur, rfl, hb, hc, by omega, h1, hs⟩
theorem RowW.kept {W W' : World} {B lo hi : Nat} {v : Value} {row : Option Nat} (h : RowW W B v) (hs : Beside lo hi v) (hg : W.grownBy W' row) (hr : ∀ k, row = some k → lo ≤ k ∧ k < hi) : RowW W' B v := by
  obtain ⟨g, n, cap, cur, rfl, h1, h2, h3⟩ := h
  refine ⟨g, n, cap, cur, rfl, h1, ?_, h3⟩
  rw [hg.block g (Array.getElem?_eq_some_iff.1 h2).1 ?_]
  · exact h2
  · intro e
    have h4 := hr g e.symm
    have h5 := hs g rfl
    omega
theorem RowW.alloc {W : World} {B : Nat} {v : Value} (h : RowW W B v) (o : Obj) : RowW (W.alloc o) B v := by
  obtain ⟨g, n, cap, cur, rfl, h1, h2, h3⟩ := h
  exact ⟨g, n, cap, cur, rfl, h1, (Below.heap_alloc W o g (Array.getElem?_eq_some_iff.1 h2).1).trans h2, h3⟩
theorem RowW.set {W : World} {B b j : Nat} {v x : Value} (h : RowW W B v) : RowW (W.setCell ⟨b, j, none⟩ x) B v := by
  obtain ⟨g, n, cap, cur, rfl, h1, h2, h3, h4, h5⟩ := h
  by_cases e : g = b
  · subst e
    exact ⟨g, n, cap, _, rfl, h1, Cel.set (show Cel W g 9 cur from h2) x, by simpa using h3, h4, h5⟩
  · exact ⟨g, n, cap, cur, rfl, h1, Cel.other (show Cel W g 9 cur from h2) e x, h3, h4, h5⟩
theorem Beside.mono {lo hi lo' : Nat} {v : Value} (h : Beside lo hi v) (hl : lo ≤ lo') (_hh : lo' ≤ hi) : Beside lo' hi v := fun k hk => by
  have := h k hk
  omega
/-- Behind an append: a row that may be written over, beside the blocks of those still to come. -/
theorem appended_row {W W' : World} {B lo hi hi2 n m : Nat} {v v' : Value} {xs : List Value} (hz : Zone W lo hi v n) (hB : B ≤ lo) (hm : 0 < m) (ho : W'.ownsRow lo 9 1 v' (n + m) xs) (hn : v' = .slice none 0 0 ↔ v = .slice none 0 0 ∧ m = 0)
    (hat : v'.ownBlock = v.ownBlock ∨ v'.ownBlock = some W.heap.size) (hs : n + m < 4294967296) (h2 : hi2 ≤ W.heap.size) (_hh : hi ≤ hi2) : RowW W' B v' ∧ Beside hi hi2 v' := by
  refine ⟨RowW.of (owns_lower ho hB) (fun e => by have := (hn.1 e).2; omega) hs, fun k hk => ?_⟩
  rcases hat with e | e
  · rw [hk] at e
    exact .inl (hz.block k e.symm).2
  · rw [hk] at e
    cases e
    exact .inr h2

/-- One append of several: the rows behind it, those still to come, and what lay there before. -/
theorem app_step {w5 W W' : World} {B lo hi H n : Nat} {v y : Value} {xs : List Value} {o : Obj} (rows : List Value) (pend : List (Nat × Nat × Value × Nat))
    (hz : Zone W lo hi v n) (hB : B ≤ lo) (hlh : lo ≤ hi) (hiH : hi ≤ H) (hH : H ≤ W.heap.size) (hn : n ≤ 100) (hb : Below B w5 W)
    (hrows : ∀ r ∈ rows, RowW W B r ∧ Beside lo H r) (hpend : ∀ p ∈ pend, Zone W p.1 p.2.1 p.2.2.1 p.2.2.2 ∧ hi ≤ p.1)
    (hy : W'.ownsRow lo 9 1 y (n + 1) xs) (hg : (W.alloc o).grownBy W' v.ownBlock) (hnil : y = .slice none 0 0 ↔ v = .slice none 0 0 ∧ 1 = 0) (hat : y.ownBlock = v.ownBlock ∨ y.ownBlock = some (W.alloc o).heap.size) :
    (∀ r ∈ rows ++ [y], RowW W' B r ∧ Beside hi H r) ∧ (∀ p ∈ pend, Zone W' p.1 p.2.1 p.2.2.1 p.2.2.2) ∧ Below B w5 W' ∧ H ≤ W'.heap.size := by
  have hn1 := below_new W o
  have hzb := hz.block
  refine ⟨fun r hr => ?_, fun p hp => ?_, ?_, Nat.le_trans hH (Nat.le_trans hn1.size hg.size)⟩
  · rcases List.mem_append.1 hr with hr | hr
    · obtain ⟨h1, h2⟩ := hrows r hr
      exact ⟨(h1.alloc o).kept h2 hg (fun k hk => ⟨(hzb k hk).1, Nat.lt_of_lt_of_le (hzb k hk).2 hiH⟩), h2.mono hlh hiH⟩
    · simp at hr
      subst hr
      exact appended_row (hz.below hn1) hB (by omega) hy hnil hat (by omega) (Nat.le_trans hH hn1.size) hiH
  · obtain ⟨h1, h2⟩ := hpend p hp
    exact (h1.below hn1).kept hg (fun k hk => .inl (Nat.lt_of_lt_of_le (hzb k hk).2 h2))
  · have hBW : B ≤ W.heap.size := by omega
    exact (hb.alloc hBW o).grown hg (Nat.le_trans hBW hn1.size) (fun k hk => Nat.le_trans hB (hzb k hk).1)

/-- What holds while rows are written over. -/
def Spoil (B blk : Nat) (w0 : World) (vs : List Value) (W : World) : Prop := (∀ v ∈ vs, RowW W B v) ∧ Cel W blk 22 vs.toArray ∧ Below B w0 W
theorem Spoil.set {B blk g j : Nat} {w0 W : World} {vs : List Value} {cur : Array Value} (h : Spoil B blk w0 vs W) (hg : B ≤ g) (hc : W.heap[g]? = some (.cells cur 9 (0, 0))) (x : Value) : Spoil B blk w0 vs (W.setCell ⟨g, j, none⟩ x) := by
  obtain ⟨h1, h2, h3⟩ := h
  refine ⟨fun v hv => (h1 v hv).set, Cel.other h2 (fun e => ?_) x, h3.setCell hg x⟩
  subst e
  have := h2.symm.trans hc
  simp at this
end Go.Proofs.YtdajacodfnidfaaDoor

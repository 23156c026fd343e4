/- Whether a source is one word, of just a text. -/
import Derived.Test.YtlihkblllakhmaaGreatDoorRd19
/-! The text of a word that is nothing else. -/
namespace Go.Proofs.YtlihkblllakhmaaGreatDoor
open Go.RowKit
attribute [local go_sem] Oper.semAt_some

/-- The only part lies in memory. -/
theorem PtOwn.only {W : World} {B : Nat} {v : Value} {p : Pt} (h : PtOwn W B v [p]) : ∃ g cap, v = .slice (some ⟨g, 0, none⟩) 1 cap ∧ g < W.heap.size ∧ W.cell? ⟨g, 0, none⟩ = some (.int .i64 (p.kind : Nat)) ∧ W.cell? ⟨g, 3, none⟩ = some (str p.s) := by
  rcases h.2 with ⟨_, h0⟩ | ⟨g, cap, cur, hv, hb, hc, h1, _, h2, h3⟩
  · exact absurd (show [p].length = 0 from h0) (by simp)
  · have hz : cur.toList.take 4 = ptC p := h3
    have e0 : ∀ j u, j < 4 → (ptC p)[j]? = some u → W.cell? ⟨g, j, none⟩ = some u := fun j u hj hu => by
      have e1 : W.cell? ⟨g, j, none⟩ = cur[j]? := by simp [World.cell?, hc]
      rw [e1, ← Array.getElem?_toList, ← List.getElem?_take_of_lt hj, hz]
      exact hu
    have hg : W.cell? ⟨g, 0, none⟩ = some (.int .i64 (p.kind : Nat)) := e0 0 _ (by omega) rfl
    exact ⟨g, cap, hv, World.block_lt_of_cell? W _ hg, hg, e0 3 _ (by omega) rfl⟩
def txtV : Option (List UInt8) → Array Value
  | none => #[.string ⟨#[]⟩, .bool false]
  | some l => #[str l, .bool true]
theorem text_many (W : World) (n k : Nat) (b : Bool) (pa : Option Addr) (pc : Nat) (hk : k ≠ 1) :
    Calls Tryz.prog 13 #[.agg #[.int .i64 (n : Nat), .bool b, .slice pa k pc]] W fun e w' => e = .returned (.tuple #[.string ⟨#[]⟩, .bool false]) ∧ Below W.heap.size W w' := by
  have h1 : ((k : Int) == 1) = false := by simp; omega
  have h2 : ¬ ((k : Int) = 1) := by omega
  have h3 : decide ((k : Int) = 1) = false := by simp; omega
  go_enter Tryz.func13, Tryz.ntmps13
  go_wp2_with fail
  go_ret2
  exact ⟨rfl, below_new W _⟩
theorem text_one (W : World) (n : Nat) (b : Bool) (g pc : Nat) (t : List UInt8) (hg : g < W.heap.size) (h0 : W.cell? ⟨g, 0, none⟩ = some (.int .i64 1)) (h3 : W.cell? ⟨g, 3, none⟩ = some (str t)) :
    Calls Tryz.prog 13 #[.agg #[.int .i64 (n : Nat), .bool b, .slice (some ⟨g, 0, none⟩) 1 pc]] W fun e w' => e = .returned (.tuple #[str t, .bool true]) ∧ Below W.heap.size W w' := by
  have hn : ¬ W.heap.size = g := by omega
  have hn' : ¬ g = W.heap.size := by omega
  have d0 : (W.alloc (.cells #[.int .i64 (n : Nat), .bool b, .slice (some ⟨g, 0, none⟩) 1 pc] 44)).cell? ⟨g, 0, none⟩ = some (.int .i64 1) := ((below_new W _).cell hg).trans h0
  have d3 : (W.alloc (.cells #[.int .i64 (n : Nat), .bool b, .slice (some ⟨g, 0, none⟩) 1 pc] 44)).cell? ⟨g, 3, none⟩ = some (str t) := ((below_new W _).cell hg).trans h3
  go_enter Tryz.func13, Tryz.ntmps13
  go_wp2_with fail
  go_ret2
  exact ⟨rfl, below_new W _⟩
theorem text_other (W : World) (n k : Nat) (b : Bool) (g pc : Nat) (hg : g < W.heap.size) (hk : k ≠ 1) (h0 : W.cell? ⟨g, 0, none⟩ = some (.int .i64 (k : Nat))) :
    Calls Tryz.prog 13 #[.agg #[.int .i64 (n : Nat), .bool b, .slice (some ⟨g, 0, none⟩) 1 pc]] W fun e w' => e = .returned (.tuple #[.string ⟨#[]⟩, .bool false]) ∧ Below W.heap.size W w' := by
  have h1 : ((k : Int) == 1) = false := by simp; omega
  have h2 : ¬ ((k : Int) = 1) := by omega
  have h3 : decide ((k : Int) = 1) = false := by simp; omega
  have h4 : ((k : Int) != 1) = true := by simp; omega
  have hn : ¬ W.heap.size = g := by omega
  have hn' : ¬ g = W.heap.size := by omega
  have d0 : (W.alloc (.cells #[.int .i64 (n : Nat), .bool b, .slice (some ⟨g, 0, none⟩) 1 pc] 44)).cell? ⟨g, 0, none⟩ = some (.int .i64 (k : Nat)) := ((below_new W _).cell hg).trans h0
  go_enter Tryz.func13, Tryz.ntmps13
  go_wp2_with fail
  go_ret2
  exact ⟨rfl, below_new W _⟩
theorem text_any {W : World} {B n pc : Nat} {b : Bool} {pa : Option Addr} {ps : List Pt} (h : PtOwn W B (.slice pa ps.length pc) ps) :
    Calls Tryz.prog 13 #[.agg #[.int .i64 (n : Nat), .bool b, .slice pa ps.length pc]] W fun e w' => e = .returned (.tuple (txtV (textL ⟨n, b, ps⟩))) ∧ Below W.heap.size W w' := by
  match ps, h with
  | [], _ => exact text_many W n 0 b pa pc (by omega)
  | [p], h =>
    obtain ⟨g, cap, hv, hg, h0, h3⟩ := h.only
    obtain ⟨rfl, _, rfl⟩ : pa = some ⟨g, 0, none⟩ ∧ True ∧ pc = cap := by
      injection hv with e1 e2 e3
      exact ⟨e1, trivial, e3⟩
    by_cases hk : p.kind = 1
    · rw [hk] at h0
      rw [show textL ⟨n, b, [p]⟩ = some p.s by simp [textL, hk]]
      exact text_one W n b g pc p.s hg h0 h3
    · rw [show textL ⟨n, b, [p]⟩ = none by simp [textL, hk]]
      exact text_other W n p.kind b g pc hg hk h0
  | _ :: _ :: r, _ => exact text_many W n (r.length + 2) b pa pc (by omega)
end Go.Proofs.YtlihkblllakhmaaGreatDoor
namespace Go.Proofs.YtlihkblllakhmaaGreatDoor
open Go.RowKit
attribute [local go_sem] Oper.semAt_some

theorem CmOwn.only {W : World} {B : Nat} {v : Value} {q : Mc} (h : CmOwn W B v [q]) : ∃ g cap, v = .slice (some ⟨g, 0, none⟩) 1 cap ∧ g < W.heap.size ∧ W.cell? ⟨g, 0, none⟩ = some (.int .i64 (q.2.1 : Nat)) ∧ W.cell? ⟨g, 1, none⟩ = some q.1 := by
  rcases h.row.2 with ⟨_, h0⟩ | ⟨g, cap, cur, hv, hb, hc, h1, _, h2, h3⟩
  · exact absurd (show [q].length = 0 from h0) (by simp)
  · have hz : cur.toList.take 2 = cmC q := h3
    have e0 : ∀ j u, j < 2 → (cmC q)[j]? = some u → W.cell? ⟨g, j, none⟩ = some u := fun j u hj hu => by
      have e1 : W.cell? ⟨g, j, none⟩ = cur[j]? := by simp [World.cell?, hc]
      rw [e1, ← Array.getElem?_toList, ← List.getElem?_take_of_lt hj, hz]
      exact hu
    have hg : W.cell? ⟨g, 0, none⟩ = some (.int .i64 (q.2.1 : Nat)) := e0 0 _ (by omega) rfl
    exact ⟨g, cap, hv, World.block_lt_of_cell? W _ hg, hg, e0 1 _ (by omega) rfl⟩
theorem WdOwn.only {W : World} {B : Nat} {v : Value} {q : Value × Wd} (h : WdOwn W B v [q]) : ∃ g cap, v = .slice (some ⟨g, 0, none⟩) 1 cap ∧ g < W.heap.size ∧ W.cell? ⟨g, 0, none⟩ = some (.int .i64 (q.2.pos : Nat)) ∧ W.cell? ⟨g, 1, none⟩ = some (.bool q.2.braced) ∧ W.cell? ⟨g, 2, none⟩ = some q.1 := by
  rcases h.row.2 with ⟨_, h0⟩ | ⟨g, cap, cur, hv, hb, hc, h1, _, h2, h3⟩
  · exact absurd (show [q].length = 0 from h0) (by simp)
  · have hz : cur.toList.take 3 = wdC q := h3
    have e0 : ∀ j u, j < 3 → (wdC q)[j]? = some u → W.cell? ⟨g, j, none⟩ = some u := fun j u hj hu => by
      have e1 : W.cell? ⟨g, j, none⟩ = cur[j]? := by simp [World.cell?, hc]
      rw [e1, ← Array.getElem?_toList, ← List.getElem?_take_of_lt hj, hz]
      exact hu
    have hg : W.cell? ⟨g, 0, none⟩ = some (.int .i64 (q.2.pos : Nat)) := e0 0 _ (by omega) rfl
    exact ⟨g, cap, hv, World.block_lt_of_cell? W _ hg, hg, e0 1 _ (by omega) rfl, e0 2 _ (by omega) rfl⟩
/-- Is a source one word, of just this text? -/
def oneW (R : Except Er (List Cm)) : Option (List UInt8) := match R with
  | .ok [m] => (match m.words with
    | [w] => textL w
    | _ => none)
  | _ => none
def readsB (src s : List UInt8) : Bool := if src.length ≤ 8192 then (oneW (scanL src) == some s) else false
set_option maxRecDepth 100000 in
set_option maxHeartbeats 4000000 in
theorem reads_any (src s : ByteArray) (W : World) (ea : Nat → Addr) (hE : Env W ea) (hW : (ea 64).block ≤ W.heap.size) :
    Calls Tryz.prog 30 #[.string src, .string s] W fun e w' => e = .returned (.bool (readsB src.data.toList s.data.toList)) ∧ Below W.heap.size W w' := by
  unfold readsB
  rw [show src.data.toList.length = src.size by simp]
  by_cases hs : src.size ≤ 8192
  · rw [if_pos hs]
    have HSC : Hid _ := scan_any src W ea hE hW hs
    clear hE
    cases hR : scanL src.data.toList with
    | error x =>
      rw [hR] at HSC
      clear hR
      go_enter Tryz.func30, Tryz.ntmps30
      go_wp2_with fail
      refine Calls.mono HSC.out ?_
      rintro e w1 ⟨v, ev, rfl, ⟨rfl, q, rfl, _⟩, hb⟩
      have HB : Hid (Below W.heap.size W w1) := hb
      clear hb HSC
      go_wp2_with fail
      go_ret
      exact ⟨rfl, HB.out⟩
    | ok l =>
      rw [hR] at HSC
      clear hR
      go_enter Tryz.func30, Tryz.ntmps30
      go_wp2_with fail
      refine Calls.mono HSC.out ?_
      rintro e w1 ⟨v, ev, rfl, ⟨rfl, K, rfl, hK⟩, hb⟩
      have HB : Hid (Below W.heap.size W w1) := hb
      have HK : Hid (CmOwn w1 W.heap.size v K) := hK
      clear hb HSC hK
      rcases K with _ | ⟨⟨wv, mp, kw⟩, _ | ⟨q2, r⟩⟩
      · obtain ⟨a, c, rfl⟩ := HK.out.form
        go_wp2_with fail
        go_ret
        exact ⟨rfl, HB.out⟩
      · obtain ⟨g, cap, rfl, _, c0, c1⟩ := HK.out.only
        simp only at c0 c1
        have HO : Hid (WdOwn w1 W.heap.size wv kw) := HK.out.words (wv, mp, kw) (List.mem_singleton.2 rfl)
        clear HK
        rcases kw with _ | ⟨⟨pv, qp, qb, qs⟩, _ | ⟨k2, r⟩⟩
        · obtain ⟨a, c, rfl⟩ := HO.out.form
          go_wp2_with fail
          go_ret
          exact ⟨rfl, HB.out⟩
        · obtain ⟨g2, cap2, rfl, _, d0, d1, d2⟩ := HO.out.only
          simp only at d0 d1 d2
          have HP : Hid (PtOwn w1 W.heap.size pv qs) := HO.out.parts (pv, ⟨qp, qb, qs⟩) (List.mem_singleton.2 rfl)
          obtain ⟨pa, pc, rfl⟩ := HP.out.form
          have HT : Hid _ := text_any (n := qp) (b := qb) HP.out
          have HRD : Hid (oneW (.ok (List.map toCm [(.slice (some ⟨g2, 0, none⟩) 1 cap2, mp, [(.slice pa qs.length pc, (⟨qp, qb, qs⟩ : Wd))])])) = textL ⟨qp, qb, qs⟩) := rfl
          have hsz : W.heap.size ≤ w1.heap.size := HB.out.size
          clear HO HP
          cases htx : textL (⟨qp, qb, qs⟩ : Wd) with
          | none =>
            rw [htx] at HT HRD
            clear htx
            go_wp2_with fail
            refine Calls.mono HT.out ?_
            rintro e w2 ⟨rfl, hb2⟩
            have HB2 : Hid (Below W.heap.size W w2) := HB.out.trans (hb2.mono hsz)
            clear hb2 HB HT c0 c1 d0 d1 d2
            unfold txtV
            go_wp2_with fail
            go_ret
            rw [HRD.out]
            exact ⟨rfl, HB2.out⟩
          | some t =>
            rw [htx] at HT HRD
            clear htx
            go_wp2_with fail
            refine Calls.mono HT.out ?_
            rintro e w2 ⟨rfl, hb2⟩
            have HB2 : Hid (Below W.heap.size W w2) := HB.out.trans (hb2.mono hsz)
            clear hb2 HB HT c0 c1 d0 d1 d2
            unfold txtV
            go_wp2_with fail
            go_ret
            rw [HRD.out]
            refine ⟨?_, HB2.out⟩
            show Ending.returned (.bool (t == s.toList)) = _
            rw [ByteArray.toList_eq]
            rfl
        · obtain ⟨a, c, hv⟩ := HO.out.form
          obtain ⟨n, hn⟩ : ∃ n, n = r.length + 2 := ⟨_, rfl⟩
          have hv2 : wv = .slice a n c := by rw [hv, hn]; rfl
          subst hv2
          have h1 : ((n : Int) == 1) = false := by simp; omega
          have h2 : ¬ ((n : Int) = 1) := by omega
          have h4 : ((n : Int) != 1) = true := by simp; omega
          clear hv hn HO
          go_wp2_with fail
          go_ret
          exact ⟨rfl, HB.out⟩
      · obtain ⟨a, c, hv⟩ := HK.out.form
        obtain ⟨n, hn⟩ : ∃ n, n = r.length + 2 := ⟨_, rfl⟩
        have hv2 : v = .slice a n c := by rw [hv, hn]; rfl
        subst hv2
        have h1 : ((n : Int) == 1) = false := by simp; omega
        have h2 : ¬ ((n : Int) = 1) := by omega
        have h4 : ((n : Int) != 1) = true := by simp; omega
        clear hv hn HK
        go_wp2_with fail
        go_ret
        exact ⟨rfl, HB.out⟩
  · rw [if_neg hs]
    have HSC : Hid _ := scan_long src W ea hE (by omega)
    clear hE
    go_enter Tryz.func30, Tryz.ntmps30
    go_wp2_with fail
    refine Calls.mono HSC.out ?_
    rintro e w1 ⟨rfl, m, hw⟩
    have HB : Hid (Below W.heap.size W w1) := by rw [hw]; exact ⟨rfl, rfl, rfl, Nat.le_refl _, fun _ _ => rfl⟩
    clear hw HSC
    go_wp2_with fail
    go_ret
    exact ⟨rfl, HB.out⟩
end Go.Proofs.YtlihkblllakhmaaGreatDoor

/-
  The document's own tally: Rank, Have, Load. Walks; no statement.
-/
import Derived.Test.YtckmjpbkcpmdpaaTallyRef1
import Derived.Test.YtckmjpbkcpmdpaaTallyDev1
import Derived.Test.YtckmjpbkcpmdpaaMRows
import Derived.Deep.QuietTactic
namespace Go.Proofs.Ytckmjpbkcpmdpaa
open Go.RowKit
set_option linter.unusedVariables false
set_option maxRecDepth 100000

theorem RefM.haves {w : World} {G : Nat → Prop} {A : Option Addr} {n c : Nat} {N : Int} {vs : List Vo} (h : RefM w G A n c N vs) (hn64 : n ≤ 64) (r : Int) (K : Option Addr) (kn kc : Nat) (key : List UInt8) (hk : Rd w K kn (key.map bv)) (hb0 : Bool) (L : Option Addr) (ln lc : Nat) :
    Calls Try.prog 35 #[.agg #[.slice A n c], .agg #[.bool hb0, .int .i64 r, .slice K kn kc, .slice L ln lc]] w (FreshI (tyHaves vs r key) w) := by
  obtain ⟨hg, xs, h1, h2⟩ := h
  rw [← h2.haves hg.srt r key]
  exact refWith_at hb0 r K kn kc key L ln lc G A n c xs w h1 hn64 (fun x hx => (h2.rng x hx).1) hk
/-- what a voter's vote is there -/
theorem RefM.at_ {w : World} {G : Nat → Prop} {A : Option Addr} {n c : Nat} {N : Int} {vs : List Vo} (h : RefM w G A n c N vs) (a : Int) :
    ((a < 0 ∨ (n : Int) ≤ a) ∧ tyKnown vs a = none) ∨
    ∃ (k : Nat) (x : Vr) (g : Nat), a = (k : Int) ∧ k < n ∧ A = some ⟨g, 0, none⟩ ∧ g < w.heap.size ∧ w.cell? ⟨g, k * 4, none⟩ = some (.bool x.has) ∧ w.cell? ⟨g, k * 4 + 1, none⟩ = some (.int .i64 x.rank) ∧
      w.cell? ⟨g, k * 4 + 2, none⟩ = some (.slice x.ka x.kn x.kc) ∧ w.cell? ⟨g, k * 4 + 3, none⟩ = some (.slice x.la x.ln x.lc) ∧ Rd w x.la x.ln (x.load.map bv) ∧ x.ln ≤ 1099511627776 ∧
      ((tyKnown vs a).getD default).rank = x.rank ∧ (tyKnown vs a).isSome = x.has ∧ ((tyKnown vs a).getD default).load = x.load := by
  obtain ⟨hg, xs, h1, h2⟩ := h
  have hl := h1.row.len
  have hN := h2.len
  by_cases ha : a < 0 ∨ (n : Int) ≤ a
  · exact .inl ⟨ha, h2.out (by omega)⟩
  · right
    have hk : a.toNat < xs.length := by omega
    have ea : a = (a.toNat : Int) := by omega
    have hx : xs[a.toNat]? = some xs[a.toNat] := List.getElem?_eq_getElem hk
    have hm : xs[a.toNat] ∈ xs := List.getElem_mem _
    obtain ⟨g, e1, e2, c0, c1, c2, c3⟩ := h1.row.at_ hx
    have e3 := h2.known hg hx
    rw [← ea] at e3
    have e4 := (h1.rds _ hm).2
    have e5 := (h2.rng _ hm).2
    have e6 := h2.none_ _ hm
    refine ⟨a.toNat, xs[a.toNat], g, ea, by omega, e1, e2, c0, c1, c2, c3, e4, ?_, ?_⟩
    · have h3 := e4.1
      rw [List.length_map] at h3
      omega
    · rw [e3]
      cases q : xs[a.toNat].has with
      | true => exact ⟨rfl, rfl, rfl⟩
      | false =>
        obtain ⟨q1, q2, q3⟩ := e6 q
        rw [q1, q3]
        exact ⟨rfl, rfl, rfl⟩
set_option maxHeartbeats 1600000 in
theorem refRank_any (a : Int) (G : Nat → Prop) (A : Option Addr) (n c : Nat) (N : Int) (vs : List Vo) (w : World) (h : RefM w G A n c N vs) (hn64 : n ≤ 64) :
    Calls Try.prog 23 #[.agg #[.slice A n c], .int .i64 a] w (fun e w' => e = .returned (.tuple #[.int .i64 ((tyKnown vs a).getD default).rank, .bool (tyKnown vs a).isSome]) ∧ Below w.heap.size w w') := by
  have hb1 := (Below.refl w.heap.size w).alloc (Nat.le_refl _) (.cells #[.slice A n c] 29)
  have HB := Lib.hid hb1
  have t0 := (Bk.new w 29 [.slice A n c]).at_ (i := 0) rfl
  rcases (h.kept hb1).at_ a with ⟨h1, h2⟩ | ⟨k, x, g, rfl, hk, rfl, hlt, c0, c1, c2, c3, _, _, e1, e2, _⟩
  · rw [h2]
    clear h hb1
    rcases h1 with h1 | h1
    · go_enter Try.func23, Try.ntmps23
      go_wp2_with fail
      go_ret2
      exact ⟨rfl, HB.out⟩
    · have h3 : ¬ a < 0 := by omega
      go_enter Try.func23, Try.ntmps23
      go_wp2_with fail
      go_ret2
      exact ⟨rfl, HB.out⟩
  · rw [e1, e2]
    have y1 : ¬ (k : Int) < 0 := by omega
    have y2 : ¬ (n : Int) ≤ (k : Int) := by omega
    have y3 : (0 : Int) ≤ (k : Int) := by omega
    have y4 : (k : Int) < (n : Int) := by omega
    clear h hb1 e1 e2
    go_enter Try.func23, Try.ntmps23
    go_wp2_with fail
    go_quiet (fail)
    go_wp2_with fail
    go_ret2
    exact ⟨rfl, below_drewN HB.out _⟩
set_option maxHeartbeats 1600000 in
theorem refHave_any (r : Int) (K : Option Addr) (kn kc : Nat) (key : List UInt8) (G : Nat → Prop) (A : Option Addr) (n c : Nat) (N : Int) (vs : List Vo) (w : World) (h : RefM w G A n c N vs) (hn64 : n ≤ 64) (hk : Rd w K kn (key.map bv)) :
    Calls Try.prog 28 #[.agg #[.slice A n c], .int .i64 r, .slice K kn kc] w (FreshI (tyHaves vs r key) w) := by
  have hb1 := (Below.refl w.heap.size w).alloc (Nat.le_refl _) (.cells #[.slice A n c] 29)
  have HB := Lib.hid hb1
  have t0 := (Bk.new w 29 [.slice A n c]).at_ (i := 0) rfl
  have HW := Lib.hid ((h.kept hb1).haves hn64 r K kn kc key (hk.below hb1) false none 0 0)
  clear h hb1 hk
  go_enter Try.func28, Try.ntmps28
  go_wp2_with fail
  refine HW.out.mono ?_
  rintro e w3 ⟨A3, n3, c3, rfl, ho, hb⟩
  have HO := Lib.hid (OwnI.more ho HB.out.size)
  have HB3 := Lib.hid (below_next HB.out hb HB.out.size)
  clear ho hb
  go_wp2_with fail
  go_ret
  exact ⟨A3, n3, c3, rfl, HO.out, HB3.out⟩
set_option maxHeartbeats 1600000 in
theorem refLoad_any (a : Int) (G : Nat → Prop) (A : Option Addr) (n c : Nat) (N : Int) (vs : List Vo) (w : World) (h : RefM w G A n c N vs) (hn64 : n ≤ 64) :
    Calls Try.prog 26 #[.agg #[.slice A n c], .int .i64 a] w (Fresh1 ((tyKnown vs a).getD default).load w) := by
  have hb1 := (Below.refl w.heap.size w).alloc (Nat.le_refl _) (.cells #[.slice A n c] 29)
  have HB := Lib.hid hb1
  have t0 := (Bk.new w 29 [.slice A n c]).at_ (i := 0) rfl
  rcases (h.kept hb1).at_ a with ⟨h1, h2⟩ | ⟨k, x, g, rfl, hk, rfl, hlt, c0, c1, c2, c3, hr, hr2, _, _, e3⟩
  · rw [h2]
    clear h hb1
    rcases h1 with h1 | h1
    · go_enter Try.func26, Try.ntmps26
      go_wp2_with fail
      go_ret
      exact ⟨none, 0, 0, rfl, OwnB.nil_ _ _, HB.out⟩
    · have h3 : ¬ a < 0 := by omega
      go_enter Try.func26, Try.ntmps26
      go_wp2_with fail
      go_ret
      exact ⟨none, 0, 0, rfl, OwnB.nil_ _ _, HB.out⟩
  · rw [e3]
    have HCL := Lib.hid (copyBytes_any x.la x.ln x.lc x.load _ hr hr2)
    have y1 : ¬ (k : Int) < 0 := by omega
    have y2 : ¬ (n : Int) ≤ (k : Int) := by omega
    have y3 : (0 : Int) ≤ (k : Int) := by omega
    have y4 : (k : Int) < (n : Int) := by omega
    clear h hb1 e3 hr hr2
    go_enter Try.func26, Try.ntmps26
    go_wp2_with fail
    refine HCL.out.mono ?_
    rintro e w3 ⟨A3, n3, c3, rfl, ho, hb⟩
    have HO := Lib.hid (OwnB.more ho HB.out.size)
    have HB3 := Lib.hid (below_next HB.out hb HB.out.size)
    clear ho hb
    go_wp2_with fail
    go_ret
    exact ⟨A3, n3, c3, rfl, HO.out, HB3.out⟩
end Go.Proofs.Ytckmjpbkcpmdpaa

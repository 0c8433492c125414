/-
  What the reference's Make needs. Plain words; no statement.
-/
import Derived.Test.YtgppclmofphlfaaGreatDoorTreeRef3
import Derived.Test.YtgppclmofphlfaaGreatDoorMPathR
namespace Go.Proofs.YtgppclmofphlfaaGreatDoor
set_option maxRecDepth 100000
open Go.RowKit
set_option linter.unusedVariables false

theorem results_tree2 {P : Program} {fn : Func} {p u v : Tmp} {ty : TypeId} (h : fn.results = #[.cell p ty, .tmp u, .tmp v]) (tmps : Array Value) (w : World) (g : Nat) (t : TypeId) (cs : List Value) (d : TypeDesc)
    (hp : tmps.getD p undef = .pointer (some ⟨g, 0, none⟩)) (hg : Bk w g t cs)
    (hu : P.underlying ty = some d) (hd : (match d with | .struct _ | .array _ _ => true | _ => false) = true) (hi : (P.info? ty).map (·.size) = some cs.toArray.size) :
    (results fn tmps).run P w = .ok (.tuple #[.agg cs.toArray, tmps.getD u undef, tmps.getD v undef]) w := by
  simp only [results, h]
  simp only [List.mapM_toArray, List.mapM_cons, List.mapM_nil, Sem.run_bind, Sem.run_pure, hp, asAddr]
  simp [Result.andThen, run_loadVar_row w g t ty cs.toArray (0, 0) d hg hu hd hi]
def FreshM (F : Nat → Prop) (r : List Lf × List UInt8 × Int) (w : World) (e : Ending) (w' : World) : Prop :=
  Below w.heap.size w w' ∧ ∃ A c, e = .returned (.tuple #[.agg #[.slice A r.1.length c], .string ⟨r.2.1.toArray⟩, .int .i64 r.2.2]) ∧ RdS RLf (fun b => F b ∨ w.heap.size ≤ b) w' A c r.1
theorem make_exit {F : Nat → Prop} {w X : World} {A : Option Addr} {c g : Nat} {t : List Lf} (h : RdS RLf F w A c t) (hX : Below w.heap.size w X) (hg : w.heap.size ≤ g) (v : Value) (e : Int) :
    FreshM F (t, [], e) w (.returned (.tuple #[.agg #[.slice A t.length c], .string ⟨#[]⟩, .int .i64 e])) (X.setCell ⟨g, 0, none⟩ v) := by
  have g1 := grown_set (grown_refl X (some g)) 0 v
  refine ⟨hX.grown g1 hX.size (fun b hb => by injection hb with hb; omega), A, c, rfl, ?_⟩
  have h1 := h.keep (F' := fun b => F b ∧ b < w.heap.size) (w' := X) (Kp.of_below hX) fun b hb hl => ⟨hb, hl⟩
  exact h1.keep (Kp.of_grown g1 fun b hb e => by injection e with e; omega) fun b hb _ => .inl hb.1
theorem tMake_1 {q data : List UInt8} {own born : Int} {num : Bool} {t : List Lf} {up : List UInt8} (e : parentP q = some up) (h : 128 < data.length) : tMake q data own born num t = (t, [], 104) := by
  unfold tMake; rw [e]; simp [h]
theorem tMake_2 {q data : List UInt8} {own born : Int} {num : Bool} {t : List Lf} {up : List UInt8} (e : parentP q = some up) (h : ¬ 128 < data.length) (ha : tAt up t = none) : tMake q data own born num t = (t, [], 100) := by
  unfold tMake; rw [e]; simp [h, ha]
theorem tMake_3 {q data : List UInt8} {own born : Int} {num : Bool} {t : List Lf} {up : List UInt8} {k : Nat} {a : Lf} (e : parentP q = some up) (h : ¬ 128 < data.length) (ha : tAt up t = some k) (hk : t[k]? = some a) (ho : ¬ a.own = -1) : tMake q data own born num t = (t, [], 105) := by
  have hg : t.getD k lfRoot = a := by simp [List.getD, hk]
  unfold tMake; rw [e]; simp only [ha, hg]; simp [h, ho]
theorem tMake_4 {q data : List UInt8} {own born : Int} {num : Bool} {t : List Lf} {up : List UInt8} {k : Nat} {a : Lf} (e : parentP q = some up) (h : ¬ 128 < data.length) (ha : tAt up t = some k) (hk : t[k]? = some a) (ho : a.own = -1)
    (hq : (if num then numberedP q a.next else some q) = none) : tMake q data own born num t = (t, [], 90) := by
  have hg : t.getD k lfRoot = a := by simp [List.getD, hk]
  unfold tMake; rw [e]; simp only [ha, hg, hq]; simp [h, ho]
theorem tMake_5 {q data : List UInt8} {own born : Int} {num : Bool} {t : List Lf} {up q' : List UInt8} {k : Nat} {a : Lf} (e : parentP q = some up) (h : ¬ 128 < data.length) (ha : tAt up t = some k) (hk : t[k]? = some a) (ho : a.own = -1)
    (hq : (if num then numberedP q a.next else some q) = some q') : tMake q data own born num t = if (tAt q' t).isSome then (t, [], 101) else if t.length ≥ 32 then (t, [], 104) else
        (tWith ⟨q', data, 0, max own (-1), 0, max born 0⟩ (tWith (if num then { a with next := a.next + 1 } else a) t), q', 0) := by
  have hg : t.getD k lfRoot = a := by simp [List.getD, hk]
  unfold tMake; rw [e]; simp only [ha, hg, hq]; simp [h, ho]
theorem numbered_next {l x : List UInt8} {z : Int} (h : numberedP l z = some x) : 0 ≤ z ∧ z ≤ 99999 := by
  unfold numberedP at h
  split at h
  · rename_i hc
    exact ⟨hc.2.1, hc.2.2.1⟩
  · cases h
theorem freshW_rds {F : Nat → Prop} {t : List Lf} {w w1 : World} {A : Option Addr} {c : Nat} (h : RdS RLf (fun b => F b ∨ w1.heap.size ≤ b) w A c t) {B : Nat} (hB : B ≤ w1.heap.size) : RdS RLf (fun b => F b ∨ B ≤ b) w A c t :=
  h.keep ⟨Nat.le_refl _, fun _ _ _ => rfl⟩ fun b hb _ => hb.elim .inl (fun h => .inr (by omega))
theorem tWith_len (l : Lf) (t : List Lf) : (tWith l t).length ≤ t.length + 1 := by
  have := tGo_len l false t
  unfold tWith
  simpa using this
theorem make_done {F : Nat → Prop} {w X : World} {A : Option Addr} {c : Nat} {t : List Lf} {q : List UInt8} (hX : Below w.heap.size w X) (h : RdS RLf (fun b => (F b ∧ b < w.heap.size) ∨ w.heap.size + 2 ≤ b) X A c t) (v : Value) :
    FreshM F (t, q, 0) w (.returned (.tuple #[.agg #[.slice A t.length c], .string ⟨q.toArray⟩, .int .i64 0])) (X.setCell ⟨w.heap.size + 1, 0, none⟩ v) := by
  have g1 := grown_set (grown_refl X (some (w.heap.size + 1))) 0 v
  refine ⟨hX.grown g1 hX.size (fun b hb => by injection hb with hb; omega), A, c, rfl, ?_⟩
  exact h.keep (Kp.of_grown g1 fun b hb e => by injection e with e; omega) fun b hb _ => hb.elim (fun h => .inl h.1) (fun h => .inr (by omega))
end Go.Proofs.YtgppclmofphlfaaGreatDoor

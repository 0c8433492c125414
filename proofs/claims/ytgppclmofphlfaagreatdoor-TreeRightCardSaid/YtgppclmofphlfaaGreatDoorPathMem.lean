/-
  Words for texts in memory: a slice of strings that reads as a list of texts, a row of texts of the call's own, what the library's calls want of the world, what calls answer. Plain lemmas; no statement.
-/
import Derived.Test.YtgppclmofphlfaaGreatDoorMBase
import Derived.Test.YtgppclmofphlfaaGreatDoorPathBridge
import Derived.Lib.LaidTab
namespace Go.Proofs.YtgppclmofphlfaaGreatDoor
set_option maxRecDepth 100000
open Go.RowKit
set_option linter.unusedVariables false

/-- a text as a value -/
abbrev sv (l : List UInt8) : Value := .string ⟨l.toArray⟩
theorem sv_of (s : ByteArray) : (⟨s.data.toList.toArray⟩ : ByteArray) = s := Lib.mk_data s
theorem info_str : (Tryz.prog.info? 9).map (fun i => (i.zero, i.size, i.bytes)) = some (some (.string ByteArray.empty), 1, 16) := by kernel_rfl
/-- the slice reads as these texts -/
def RdT (w : World) (A : Option Addr) (n : Nat) (ls : List (List UInt8)) : Prop := Rd w A n (ls.map sv)
/-- a row of texts of the call's own -/
def OwnT (w : World) (base : Nat) (A : Option Addr) (n c : Nat) (ls : List (List UInt8)) : Prop := w.ownsRow base 9 1 (.slice A n c) n (ls.map sv)
theorem oneCell_texts (ls : List (List UInt8)) : ∀ u ∈ ls.map sv, u.oneCell' = true := by
  intro u hu
  obtain ⟨l, _, rfl⟩ := List.mem_map.1 hu
  rfl
section
variable {w w' : World} {base : Nat} {A : Option Addr} {n c : Nat} {ls : List (List UInt8)}
theorem RdT.len (h : RdT w A n ls) : ls.length = n := by simpa using h.1
theorem RdT.below (h : RdT w A n ls) (hb : Below w.heap.size w w') : RdT w' A n ls := Rd.below h hb
theorem RdT.drewN (h : RdT w A n ls) (k : Nat) : RdT (w.drewN k) A n ls := h
theorem RdT.alloc (h : RdT w A n ls) (o : Obj) : RdT (w.alloc o) A n ls := Rd.alloc h o
theorem RdT.nil_ (w : World) (A : Option Addr) : RdT w A 0 [] := Rd.nil_ w A
theorem RdT.at_ (h : RdT w A n ls) {k : Nat} (hk : k < n) : ∃ a, A = some a ∧ a.block < w.heap.size ∧ w.cell? (a.add k) = some (.string ⟨(ls.getD k []).toArray⟩) := by
  obtain ⟨a, e, hb, hc⟩ := Rd.at_ h hk
  refine ⟨a, e, hb, ?_⟩
  rw [hc]
  have hl := h.len
  simp [List.getD, show k < ls.length by omega]
theorem OwnT.len (h : OwnT w base A n c ls) : ls.length = n := by simpa using h.1
theorem OwnT.rd (h : OwnT w base A n c ls) : RdT w A n ls := Rd.own h
theorem OwnT.nil_ (w : World) (base : Nat) : OwnT w base none 0 0 [] := World.ownsRow_nil w base _ 1
theorem OwnT.block (h : OwnT w base A n c ls) : ∀ g, (Value.slice A n c).ownBlock = some g → base ≤ g := fun g hg => (World.ownsRow.lt h g hg).1
theorem OwnT.below (h : OwnT w base A n c ls) (hb : Below w.heap.size w w') : OwnT w' base A n c ls :=
  World.ownsRow.kept h (grown_of_below hb none) (by cases (Value.slice A n c).ownBlock <;> simp)
theorem OwnT.more {base' : Nat} (h : OwnT w base A n c ls) (hb : base' ≤ base) : OwnT w base' A n c ls := by
  refine ⟨h.1, ?_⟩
  rcases h.2 with h2 | ⟨g, cap, cur, e1, hg, r⟩
  · exact .inl h2
  · exact .inr ⟨g, cap, cur, e1, by omega, r⟩
theorem OwnT.cap (h : OwnT w base A n c ls) : n ≤ c := by
  rcases h.2 with ⟨e1, _⟩ | ⟨g, cap, cur, e1, _, _, hnc, _⟩
  · injection e1 with e3 e4 e5; omega
  · injection e1 with e3 e4 e5; omega
end
/-- what the library's calls want: the two variables that they read -/
def Env (w : World) : Prop := (∃ m, w.cell? ⟨0, 0, none⟩ = some (.int .i64 m)) ∧ Lib.TabIs Tryz.prog w "internal/strconv.uint64pow10" .u64 Lib.pow10Tab
theorem pow_named : Tryz.prog.globalNamed "internal/strconv.uint64pow10" = some 1 := by kernel_rfl
theorem Env.keep {w w' : World} (h : Env w) (hb : ∀ i, i < w.heap.size → w'.heap[i]? = w.heap[i]?) : Env w' := by
  obtain ⟨⟨m, hm⟩, ht⟩ := h
  refine ⟨⟨m, ?_⟩, ?_⟩
  · rw [World.cell?_of_block (w := w) (hb _ (World.block_lt_of_cell? _ _ hm))]; exact hm
  · unfold Lib.TabIs World.var? at ht ⊢
    rw [pow_named] at ht ⊢
    have hlt : 1 < w.heap.size := by
      rcases Nat.lt_or_ge 1 w.heap.size with hlt | hge
      · exact hlt
      · simp [Array.getElem?_eq_none hge] at ht
    simpa [hb _ hlt] using ht
theorem Env.below {w w' : World} (h : Env w) (hb : Below w.heap.size w w') : Env w' := h.keep fun i hi => hb.block i hi
theorem Env.drewN {w : World} (h : Env w) (k : Nat) : Env (w.drewN k) := h
theorem Env.alloc {w : World} (h : Env w) (o : Obj) : Env (w.alloc o) := h.below ((Below.refl _ _).alloc (Nat.le_refl _) o)
/-- returns this, and nothing that was there has turned -/
def Ans (r : Value) (w : World) (e : Ending) (w' : World) : Prop := e = .returned r ∧ Below w.heap.size w w'
def errB (b : Bool) : Int := if b then 0 else 90
/-- a text or the error -/
def optV (o : Option (List UInt8)) : Value := match o with
  | some l => .tuple #[.string ⟨l.toArray⟩, .int .i64 0]
  | none => .tuple #[.string ⟨#[]⟩, .int .i64 90]
/-- texts of the call's own, or the error -/
def PartsP (o : Option (List (List UInt8))) (w : World) (e : Ending) (w' : World) : Prop :=
  Below w.heap.size w w' ∧ match o with
    | some ls => ∃ A n c, e = .returned (.tuple #[.slice A n c, .int .i64 0]) ∧ OwnT w' w.heap.size A n c ls
    | none => e = .returned (.tuple #[.slice none 0 0, .int .i64 90])
end Go.Proofs.YtgppclmofphlfaaGreatDoor

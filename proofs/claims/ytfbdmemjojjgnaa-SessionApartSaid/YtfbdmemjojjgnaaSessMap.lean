/-
  A book's sessions in a map of the call's own: what it reads as, what a look, a store and a delete come to; a book in memory. Plain lemmas; no statement.
-/
import Derived.Test.YtfbdmemjojjgnaaSessMem
import Derived.Maps.OwnSet
import Derived.Maps.Keyed
namespace Go.Proofs.Ytfbdmemjojjgnaa
set_option maxRecDepth 100000
open Go.RowKit Go.Maps
open Go.ChangeMaps (putKey delKey notKey)
set_option linter.unusedVariables false

def seV (x : Se) : Value := .agg (seC x).toArray
/-- an element as it is -/
def asIsE (v : Value) : Option (DataW Value × List MemPlace) := some (.held v, [])
def entE (t : List Se) : List (Lit × DataW Value) := t.map fun x => (.int .i64 x.client, .held (seV x))
theorem before_cl (a b : Int) : ((Lit.int .i64 a).before (Lit.int .i64 b) = true) ↔ a < b := by simp [Lit.before]
theorem same_cl (a b : Int) : (Lit.int .i64 a).sameKey (Lit.int .i64 b) = decide (a = b) := by simp [Lit.sameKey]
theorem entE_ins (x : Se) : ∀ t : List Se, DataW.insert (.int .i64 x.client, .held (seV x)) (entE t) = entE (seIns x t)
  | [] => rfl
  | y :: r => by
    show (if (Lit.int .i64 x.client).before (Lit.int .i64 y.client) = true then _ else _) = entE (if x.client < y.client then x :: y :: r else y :: seIns x r)
    by_cases h : x.client < y.client
    · rw [if_pos ((before_cl _ _).2 h), if_pos h]
      rfl
    · rw [if_neg (fun q => h ((before_cl _ _).1 q)), if_neg h]
      show _ :: DataW.insert (.int .i64 x.client, .held (seV x)) (entE r) = _ :: entE (seIns x r)
      rw [entE_ins x r]
theorem entE_not (c : Int) (t : List Se) : (entE t).filter (fun q => !q.1.sameKey (.int .i64 c)) = entE (t.filter fun y => decide (y.client ≠ c)) := by
  unfold entE
  rw [List.filter_map]
  congr 1
  refine List.filter_congr fun y _ => ?_
  show (!(Lit.int .i64 y.client).sameKey (.int .i64 c)) = decide (y.client ≠ c)
  rw [same_cl]
  by_cases h : y.client = c <;> simp [h]
theorem entE_put (x : Se) (t : List Se) : (DataW.map (entE t)).put (.int .i64 x.client) (.held (seV x)) = .map (entE (seIns x (t.filter fun y => decide (y.client ≠ x.client)))) := by
  show DataW.map (DataW.insert _ ((entE t).filter fun q => !q.1.sameKey (.int .i64 x.client))) = _
  rw [entE_not, entE_ins]
theorem entE_del (c : Int) (t : List Se) : (DataW.map (entE t)).del (.int .i64 c) = .map (entE (t.filter fun y => decide (y.client ≠ c))) := by
  show DataW.map ((entE t).filter fun q => !q.1.sameKey (.int .i64 c)) = _
  rw [entE_not]
theorem atE_cons (c : Int) (x : Se) (r : List Se) (zd : DataW Value) : (DataW.map (entE (x :: r))).atKey (.int .i64 c) zd = if x.client = c then .held (seV x) else (DataW.map (entE r)).atKey (.int .i64 c) zd := by
  have e := same_cl x.client c
  by_cases h : x.client = c
  · have e2 : decide (x.client = c) = true := by simpa using h
    rw [if_pos h]
    simp only [DataW.atKey, entE, List.map_cons, List.find?_cons, e, e2]
  · have e2 : decide (x.client = c) = false := by simpa using h
    rw [if_neg h]
    simp only [DataW.atKey, entE, List.map_cons, List.find?_cons, e, e2]
theorem entE_no {c : Int} : ∀ {t : List Se}, (∀ x ∈ t, x.client ≠ c) → Maps.has (.map (entE t)) (.int .i64 c) = false ∧ ∀ zd, (DataW.map (entE t)).atKey (.int .i64 c) zd = zd
  | [], _ => ⟨rfl, fun _ => rfl⟩
  | x :: r, h => by
    have hx : x.client ≠ c := h x (by simp)
    obtain ⟨h1, h2⟩ := entE_no (c := c) (t := r) fun y hy => h y (List.mem_cons_of_mem _ hy)
    constructor
    · show ((Lit.int .i64 x.client).sameKey (.int .i64 c) || _) = false
      rw [same_cl, decide_eq_false hx]; exact h1
    · intro zd
      rw [atE_cons, if_neg hx]
      exact h2 zd
theorem entE_yes {s : Se} : ∀ {t : List Se}, t.Pairwise seLt → s ∈ t → ∀ zd, (DataW.map (entE t)).atKey (.int .i64 s.client) zd = .held (seV s)
  | [], _, h => by cases h
  | x :: r, hp, h => by
    intro zd
    obtain ⟨h1, h2⟩ := List.pairwise_cons.1 hp
    rw [atE_cons]
    rcases List.mem_cons.1 h with rfl | hs
    · rw [if_pos rfl]
    · have hlt : x.client < s.client := h1 s hs
      rw [if_neg (by omega)]
      exact entE_yes h2 hs zd
/-- block b is a map of these sessions -/
def MpS (w : World) (b : Nat) (t : List Se) : Prop := w.ownsMap Try.prog 3 asIsE b t.length (.map (entE t))
theorem cl_keyed : Keyed Try.prog 3 := int_keyed Try.underlying3
theorem key_cl {c : Int} (h : (Lit.int .i64 c).wf = true) : keyOf Try.prog 3 (.int .i64 c) = some (.int .i64 c) := keyOf_int_mk Try.underlying3 h
/-- no session -/
abbrev seNo : Value := .agg #[.int .i64 0, .int .i64 0, .int .i64 0]
theorem zero_sess (w : World) : (zeroValue 36).run Try.prog w = .ok seNo w := by kernel_rfl
theorem seRight_wf {x : Se} (h : seRight x = true) : (Lit.int .i64 x.client).wf = true := by
  have := seRight_client h
  simp only [Lit.wf, Bool.and_eq_true, decide_eq_true_iff]
  have h1 : IntKind.i64.min = -9223372036854775808 := by decide
  have h2 : IntKind.i64.max = 9223372036854775807 := by decide
  omega
section
variable {w w' : World} {b : Nat} {t : List Se}
theorem MpS.isMap (h : MpS w b t) : ∃ es clock, w.heap[b]? = some (.map es clock) := by
  obtain ⟨e, c, hb, _⟩ := h
  exact ⟨e, c, hb⟩
theorem MpS.lt (h : MpS w b t) : b < w.heap.size := World.ownsMap.lt h
theorem MpS.chg {G : Nat → Prop} (h : MpS w b t) (hc : Chg G w w') (hb : ¬ G b) : MpS w' b t := by
  obtain ⟨e, c, h2, h3, h4, h5⟩ := h
  have hlt : b < w.heap.size := (Array.getElem?_eq_some_iff.1 h2).1
  exact ⟨e, c, (hc.block b hlt hb).trans h2, h3, h4, h5⟩
theorem MpS.below (h : MpS w b t) (hb : Below w.heap.size w w') : MpS w' b t := h.chg (Chg.of_below (fun _ => False) hb) id
theorem mpS_made (w : World) : MpS (w.alloc (.map #[] 0)) w.heap.size [] := World.ownsMap_made w _ _ _
theorem mpS_of {w : World} {b n : Nat} {s : List Se} (h : w.ownsMap Try.prog 3 asIsE b n (.map (entE s))) : MpS w b s := by
  obtain ⟨e, cl, hb, hf, hs, hD⟩ := h
  refine ⟨e, cl, hb, hf, ?_, hD⟩
  injection hD with hD
  have hlen := congrArg List.length hD
  rw [length_sorted, List.length_map] at hlen
  have e3 : (entE s).length = s.length := by unfold entE; rw [List.length_map]
  rw [← e3, hlen]
  simp
/-- a session put -/
theorem MpS.store (h : MpS w b t) (x : Se) (hl : (Lit.int .i64 x.client).wf = true) (hn : t.length ≤ 1000) :
    ∃ w', (Instr.mapUpdate 59 (.map (some b)) (.int .i64 x.client) (.agg #[.int .i64 x.client, .int .i64 x.span, .int .i64 x.seen])).run Try.prog w = .ok () w' ∧ MpS w' b (seIns x (t.filter fun y => decide (y.client ≠ x.client))) ∧ w.grownBy w' (some b) := by
  obtain ⟨w', r1, r2, r3⟩ := World.ownsMap.update h cl_keyed Try.underlying59 (by simp only [maxLen]; omega) (key_cl hl) (show asIsE (seV x) = some (.held (seV x), []) from rfl)
  rw [entE_put] at r2
  exact ⟨w', r1, mpS_of r2, r3⟩
/-- a session less -/
theorem MpS.drop (h : MpS w b t) (c : Int) (hl : (Lit.int .i64 c).wf = true) (ty : TypeId) :
    ∃ w', (Builtin.delete_ #[59, 3] ty #[.map (some b), .int .i64 c]).run Try.prog w = .ok (.tuple #[]) w' ∧ MpS w' b (t.filter fun y => decide (y.client ≠ c)) ∧ w.grownBy w' (some b) := by
  obtain ⟨w', r1, r2, r3⟩ := World.ownsMap.drop h cl_keyed Try.underlying59 (key_cl hl) ty
  have hg : w.grownBy w' (some b) := by
    obtain ⟨e, cl, e', cl', hb, rfl⟩ := r3
    exact ⟨rfl, rfl, rfl, by simp [Go.ChangeMaps.setBlock], fun i _ hi => Go.ChangeMaps.heap_setBlock_other hb _ (fun e => hi (by rw [e]))⟩
  rw [entE_del] at r2
  exact ⟨w', r1, mpS_of r2, hg⟩
/-- a look for a session -/
theorem MpS.look_yes (h : MpS w b t) (hp : t.Pairwise seLt) (c : Bool) {x : Se} (hx : x ∈ t) (hl : (Lit.int .i64 x.client).wf = true) :
    (Instr.lookup 59 (.map (some b)) (.int .i64 x.client) c).run Try.prog w = .ok (if c then .tuple #[.agg #[.int .i64 x.client, .int .i64 x.span, .int .i64 x.seen], .bool true] else .agg #[.int .i64 x.client, .int .i64 x.span, .int .i64 x.seen]) w := by
  obtain ⟨e, cl, hb, hf, hs, hD⟩ := h
  have ha := entE_yes hp hx
  rcases Maps.fit_look c cl_keyed Try.underlying59 (zero_sess w) hb hf (key_cl hl) with ⟨_, _, q⟩ | ⟨e0, y, _, _, hrun, hR, q, _⟩
  · have := q (.held seNo)
    rw [← hD, ha] at this
    have q2 := q (.held (.bool true))
    rw [← hD, ha] at q2
    rw [this] at q2
    cases q2
  · have q1 := q (.held seNo)
    rw [← hD, ha] at q1
    have : y.1 = .held e0.val := by
      have : y = (.held e0.val, []) := (Option.some.inj hR).symm
      rw [this]
    rw [this] at q1
    injection q1 with q1
    rw [hrun, ← q1]
    rfl
theorem MpS.look_no (h : MpS w b t) (c : Bool) {k : Int} (hn : ∀ x ∈ t, x.client ≠ k) (hl : (Lit.int .i64 k).wf = true) :
    (Instr.lookup 59 (.map (some b)) (.int .i64 k) c).run Try.prog w = .ok (if c then .tuple #[seNo, .bool false] else seNo) w := by
  obtain ⟨e, cl, hb, hf, hs, hD⟩ := h
  obtain ⟨hh, ha⟩ := entE_no hn
  rcases Maps.fit_look c cl_keyed Try.underlying59 (zero_sess w) hb hf (key_cl hl) with ⟨hrun, _, _⟩ | ⟨e0, y, _, _, _, _, q, _⟩
  · exact hrun
  · have q1 := q (.held seNo)
    have q2 := q (.held (.bool true))
    rw [← hD, ha] at q1 q2
    rw [← q1] at q2
    cases q2
end
/-- a book: its struct in block g, its map, both in blocks of F -/
def SeAt (F : Nat → Prop) (w : World) (g : Nat) (t : List Se) : Prop := ∃ b, Bk w g 61 [.map (some b)] ∧ F g ∧ F b ∧ MpS w b t
section
variable {F F' : Nat → Prop} {w w' : World} {g : Nat} {t : List Se}
theorem SeAt.chg {G : Nat → Prop} (h : SeAt F w g t) (hc : Chg G w w') (hG : ∀ k, F k → k < w.heap.size → ¬ G k) : SeAt F w' g t := by
  obtain ⟨b, h1, h2, h3, h4⟩ := h
  exact ⟨b, hc.bk h1 (hG g h2 h1.lt), h2, h3, h4.chg hc (hG b h3 h4.lt)⟩
theorem SeAt.below (h : SeAt F w g t) (hb : Below w.heap.size w w') : SeAt F w' g t := h.chg (Chg.of_below (fun _ => False) hb) fun _ _ _ => id
theorem SeAt.more (h : SeAt F w g t) (hF : ∀ k, F k → k < w.heap.size → F' k) : SeAt F' w g t := by
  obtain ⟨b, h1, h2, h3, h4⟩ := h
  exact ⟨b, h1, hF g h2 h1.lt, hF b h3 h4.lt, h4⟩
theorem SeAt.lt (h : SeAt F w g t) : g < w.heap.size := h.choose_spec.1.lt
end
/-- what is put where nobody stood; what is put where one stood -/
theorem filter_none {c : Int} {t : List Se} (h : ∀ x ∈ t, x.client ≠ c) : (t.filter fun y => decide (y.client ≠ c)) = t := List.filter_eq_self.2 fun y hy => decide_eq_true (h y hy)
theorem seIns_first {s : Se} : ∀ {t : List Se}, (∀ x ∈ t, s.client < x.client) → seIns s t = s :: t
  | [], _ => rfl
  | x :: r, h => by unfold seIns; rw [if_pos (h x (List.mem_cons_self ..))]
theorem seIns_put {s : Se} {v : Int} : ∀ {t : List Se}, t.Pairwise seLt → s ∈ t → seIns { s with seen := v } (t.filter fun y => decide (y.client ≠ s.client)) = t.map fun x => if x.client = s.client then { x with seen := v } else x
  | [], _, h => by cases h
  | x :: r, hp, h => by
    obtain ⟨h1, h2⟩ := List.pairwise_cons.1 hp
    rcases List.mem_cons.1 h with rfl | hs
    · have hn : ∀ y ∈ r, y.client ≠ s.client := fun y hy => by have : s.client < y.client := h1 y hy; omega
      rw [List.filter_cons_of_neg (by simp), filter_none hn, seIns_first (s := { s with seen := v }) h1, List.map_cons, if_pos rfl]
      congr 1
      symm
      rw [List.map_congr_left (g := id) fun y hy => by rw [if_neg (hn y hy)]; rfl, List.map_id]
    · have hlt : x.client < s.client := h1 s hs
      rw [List.filter_cons_of_pos (by simp; omega), List.map_cons, if_neg (by omega)]
      unfold seIns
      rw [if_neg (by show ¬ s.client < x.client; omega), seIns_put h2 hs]
theorem seTouched_put {s : Se} {now : Int} {t : List Se} (hp : t.Pairwise seLt) (hs : s ∈ t) : seIns { s with seen := max s.seen now } (t.filter fun y => decide (y.client ≠ s.client)) = seTouched s.client now t := by
  rw [seIns_put hp hs]
  unfold seTouched
  refine List.map_congr_left fun x hx => ?_
  by_cases h : x.client = s.client
  · have e : x = s := by
      have hu : ∀ {l : List Se}, l.Pairwise seLt → x ∈ l → s ∈ l → x = s := by
        intro l
        induction l with
        | nil => intro _ q; cases q
        | cons y r ih =>
          intro hp hx hs
          obtain ⟨h1, h2⟩ := List.pairwise_cons.1 hp
          rcases List.mem_cons.1 hx with e1 | e1
          · rcases List.mem_cons.1 hs with e2 | e2
            · rw [e1, e2]
            · subst e1
              have : x.client < s.client := h1 s e2
              omega
          · rcases List.mem_cons.1 hs with e2 | e2
            · subst e2
              have : s.client < x.client := h1 x e1
              omega
            · exact ih h2 e1 e2
      exact hu hp hx hs
    subst e
    rw [if_pos rfl]
    by_cases h2 : x.seen < now
    · rw [if_pos ⟨rfl, h2⟩, Int.max_eq_right (by omega)]
    · rw [if_neg (fun q => h2 q.2), Int.max_eq_left (by omega)]
  · rw [if_neg h, if_neg (fun q => h q.1)]
theorem seLive_mem {c : Int} {t : List Se} (h : seLive c t = true) : ∃ x ∈ t, x.client = c := by
  unfold seLive at h
  rw [List.any_eq_true] at h
  obtain ⟨x, h1, h2⟩ := h
  exact ⟨x, h1, by simpa using h2⟩
end Go.Proofs.Ytfbdmemjojjgnaa

/-
  A tree's nodes in a map of the call's own: what it reads as, what a look, a store and a delete come to. Plain lemmas; no statement.
-/
import Derived.Test.YtgppclmofphlfaaGreatDoorTreeOrd
import Derived.Test.YtgppclmofphlfaaGreatDoorTreeMem
import Derived.Test.YtgppclmofphlfaaGreatDoorMRows
import Derived.Maps.OwnSet
namespace Go.Proofs.YtgppclmofphlfaaGreatDoor
set_option maxRecDepth 100000
open Go.RowKit Go.Maps
open Go.ChangeMaps (putKey delKey notKey)
set_option linter.unusedVariables false

/-- a node, and where its data lie -/
abbrev En := Lf × Option Addr × Nat
def enV (x : En) : Value := .agg (lfC x.1 x.2.1 x.2.2).toArray
/-- an element as it is -/
def asIs (v : Value) : Option (DataW Value × List MemPlace) := some (.held v, [])
def ent (es : List En) : List (Lit × DataW Value) := es.map fun x => (.string x.1.path, .held (enV x))
theorem ent_path (x : En) : (fun a : En => Lf.path a.1) x = x.1.path := rfl
theorem ent_ins (x : En) : ∀ es : List En, DataW.insert (.string x.1.path, .held (enV x)) (ent es) = ent (kIns (fun a : En => a.1.path) x es)
  | [] => rfl
  | y :: r => by
    show (if (Lit.string x.1.path).before (Lit.string y.1.path) = true then _ else _) = ent (if Op.bytesLess x.1.path y.1.path = true then x :: y :: r else y :: kIns (fun a : En => a.1.path) x r)
    have e : (Lit.string x.1.path).before (Lit.string y.1.path) = Op.bytesLess x.1.path y.1.path := bb_eq _ _
    rw [e]
    split
    · rfl
    · show _ :: DataW.insert (.string x.1.path, .held (enV x)) (ent r) = _ :: ent (kIns (fun a : En => a.1.path) x r)
      rw [ent_ins x r]
theorem ent_not (p : List UInt8) (es : List En) : (ent es).filter (fun q => !q.1.sameKey (.string p)) = ent (es.filter fun y => decide (y.1.path ≠ p)) := by
  unfold ent
  rw [List.filter_map]
  congr 1
  refine List.filter_congr fun y _ => ?_
  show (!(Lit.string y.1.path).sameKey (.string p)) = decide (y.1.path ≠ p)
  show (!(y.1.path == p)) = decide (y.1.path ≠ p)
  by_cases h : y.1.path = p <;> simp [h]
theorem ent_put (x : En) (es : List En) : (DataW.map (ent es)).put (.string x.1.path) (.held (enV x)) = .map (ent (kPut (fun a : En => a.1.path) x es)) := by
  show DataW.map (DataW.insert _ ((ent es).filter fun q => !q.1.sameKey (.string x.1.path))) = _
  rw [ent_not, ent_ins]
  rfl
theorem ent_del (p : List UInt8) (es : List En) : (DataW.map (ent es)).del (.string p) = .map (ent (es.filter fun y => decide (y.1.path ≠ p))) := by
  show DataW.map ((ent es).filter fun q => !q.1.sameKey (.string p)) = _
  rw [ent_not]
theorem at_cons (p : List UInt8) (x : En) (r : List En) (zd : DataW Value) : (DataW.map (ent (x :: r))).atKey (.string p) zd = if x.1.path = p then .held (enV x) else (DataW.map (ent r)).atKey (.string p) zd := by
  have e : (Lit.string x.1.path).sameKey (.string p) = (x.1.path == p) := rfl
  by_cases h : x.1.path = p
  · have e2 : (x.1.path == p) = true := by simpa using h
    rw [if_pos h]
    simp only [DataW.atKey, ent, List.map_cons, List.find?_cons, e, e2]
  · have e2 : (x.1.path == p) = false := by simpa using h
    rw [if_neg h]
    simp only [DataW.atKey, ent, List.map_cons, List.find?_cons, e, e2]
theorem ent_no {p : List UInt8} : ∀ {es : List En}, tAt p (es.map (·.1)) = none → Maps.has (.map (ent es)) (.string p) = false ∧ ∀ zd, (DataW.map (ent es)).atKey (.string p) zd = zd
  | [], _ => ⟨rfl, fun _ => rfl⟩
  | x :: r, h => by
    have h0 := (tAt_no.1 h)
    have hx : x.1.path ≠ p := h0 x.1 (by simp)
    obtain ⟨h1, h2⟩ := ent_no (p := p) (es := r) (tAt_no.2 fun l hl => h0 l (by simp only [List.map_cons, List.mem_cons]; exact .inr hl))
    have e : (Lit.string x.1.path).sameKey (.string p) = false := by show (x.1.path == p) = false; simpa using hx
    constructor
    · show (((Lit.string x.1.path).sameKey (.string p)) || _) = false
      rw [e]; exact h1
    · intro zd
      rw [at_cons, if_neg hx]
      exact h2 zd
theorem ent_yes {p : List UInt8} : ∀ {es : List En} {k : Nat}, tAt p (es.map (·.1)) = some k → ∃ x, es[k]? = some x ∧ x.1.path = p ∧ Maps.has (.map (ent es)) (.string p) = true ∧ ∀ zd, (DataW.map (ent es)).atKey (.string p) zd = .held (enV x)
  | [], k, h => by simp [tAt] at h
  | x :: r, k, h => by
    rw [List.map_cons] at h
    unfold tAt at h
    split at h
    · rename_i hx
      obtain rfl := Option.some.inj h
      have e : (Lit.string x.1.path).sameKey (.string p) = true := by show (x.1.path == p) = true; simpa using hx
      refine ⟨x, rfl, hx, ?_, fun zd => ?_⟩
      · show (((Lit.string x.1.path).sameKey (.string p)) || _) = true
        rw [e]; rfl
      · rw [at_cons, if_pos hx]
    · rename_i hx
      obtain ⟨j, hj, rfl⟩ := Option.map_eq_some_iff.1 h
      obtain ⟨y, h1, h2, h3, h4⟩ := ent_yes hj
      have e : (Lit.string x.1.path).sameKey (.string p) = false := by show (x.1.path == p) = false; simpa using hx
      refine ⟨y, by simpa using h1, h2, ?_, fun zd => ?_⟩
      · show (((Lit.string x.1.path).sameKey (.string p)) || _) = true
        rw [e]; exact h3
      · rw [at_cons, if_neg hx]
        exact h4 zd
/-- bytes don't lie in a map's block -/
theorem bf_off {F : Nat → Prop} {w w' : World} {A : Option Addr} {c b : Nat} {l : List UInt8} (h : BF F w A c l) (hm : ∃ es clock, w.heap[b]? = some (.map es clock)) (hg : w.grownBy w' (some b)) : BF F w' A c l := by
  have h' : BF (fun k => F k ∧ k ≠ b) w A c l := by
    refine ⟨h.1, fun a e hne => ⟨h.2 a e hne, fun e2 => ?_⟩⟩
    obtain ⟨es, clock, hb⟩ := hm
    have hr := h.rd
    have h0 : 0 < l.length := by cases l with
      | nil => exact absurd rfl hne
      | cons => simp
    obtain ⟨a', ea, _, hc⟩ := hr.2 0 (bv (l[0]'h0)) (by rw [List.getElem?_map, List.getElem?_eq_getElem h0]; rfl)
    rw [e] at ea
    obtain rfl := Option.some.inj ea
    have hbk : (a.add 0).block = b := by rw [add_block]; exact e2
    simp [World.cell?, hbk, hb] at hc
  exact h'.keep (Kp.of_grown hg fun k hk e => hk.2 (Option.some.inj e)) fun _ hk _ => hk.1

/-- block b is a map of these nodes, their data in blocks of F -/
def MpAt (F : Nat → Prop) (w : World) (b : Nat) (t : List Lf) : Prop :=
  ∃ es : List En, es.map (·.1) = t ∧ w.ownsMap Tryz.prog 9 asIs b t.length (.map (ent es)) ∧ ∀ x ∈ es, BF F w x.2.1 x.2.2 x.1.data
theorem str_keyed : Keyed Tryz.prog 9 := string_keyed Tryz.underlying9
theorem key_of {p : List UInt8} (h : p.length ≤ maxLen) : keyOf Tryz.prog 9 (.string ⟨p.toArray⟩) = some (.string p) := WideMaps.keyOf_string_mk Tryz.underlying9 (s := ⟨p.toArray⟩) h
/-- no node -/
abbrev lfNo : Value := .agg #[.string ⟨#[]⟩, .slice none 0 0, .int .i64 0, .int .i64 0, .int .i64 0, .int .i64 0]
theorem zero_leaf (w : World) : (zeroValue 50).run Tryz.prog w = .ok lfNo w := by kernel_rfl
section
variable {F F' : Nat → Prop} {w w' : World} {b : Nat} {t : List Lf}
theorem MpAt.isMap (h : MpAt F w b t) : ∃ es clock, w.heap[b]? = some (.map es clock) := by
  obtain ⟨es, _, ⟨e, c, hb, _⟩, _⟩ := h
  exact ⟨e, c, hb⟩
theorem MpAt.lt (h : MpAt F w b t) : b < w.heap.size := by
  obtain ⟨es, _, h2, _⟩ := h
  exact h2.lt
theorem MpAt.chg {G : Nat → Prop} (h : MpAt F w b t) (hc : Chg G w w') (hb : ¬ G b) (hG : ∀ k, F k → k < w.heap.size → ¬ G k) : MpAt F w' b t := by
  obtain ⟨es, h1, ⟨e, c, h2, h3, h4, h5⟩, h6⟩ := h
  have hlt : b < w.heap.size := (Array.getElem?_eq_some_iff.1 h2).1
  exact ⟨es, h1, ⟨e, c, (hc.block b hlt hb).trans h2, h3, h4, h5⟩, fun x hx => (h6 x hx).keep ⟨hc.size, fun k hk hl => hc.block k hl (hG k hk hl)⟩ fun _ hk _ => hk⟩
theorem MpAt.below (h : MpAt F w b t) (hb : Below w.heap.size w w') : MpAt F w' b t :=
  h.chg (Chg.of_below (fun _ => False) hb) id fun _ _ _ => id
theorem MpAt.more (h : MpAt F w b t) (hF : ∀ k, F k → k < w.heap.size → F' k) : MpAt F' w b t := by
  obtain ⟨es, h1, h2, h3⟩ := h
  exact ⟨es, h1, h2, fun x hx => (h3 x hx).keep ⟨Nat.le_refl _, fun _ _ _ => rfl⟩ hF⟩
/-- the map's own world, whatever else -/
theorem MpAt.paths_le (h : MpAt F w b t) : ∀ l ∈ t, l.path.length ≤ maxLen := by
  obtain ⟨es, h1, h2, h3⟩ := h
  intro l hl
  rw [← h1] at hl
  obtain ⟨x, hx, rfl⟩ := List.mem_map.1 hl
  have hk : x.1.path ∈ strKeys (DataW.map (ent es)) := by
    show x.1.path ∈ (ent es).map fun p => strOf p.1
    unfold ent
    rw [List.map_map]
    exact List.mem_map.2 ⟨x, hx, rfl⟩
  exact strKeys_le h2 Tryz.underlying9 _ hk
theorem MpAt.srt (h : MpAt F w b t) : Srt t := by
  obtain ⟨es, h1, ⟨e, c, hb, hf, hs, hD⟩, h3⟩ := h
  have hp := Maps.fit_rising str_keyed hf
  injection hD with hD
  rw [← hD] at hp
  rw [← h1]
  clear hD hf hs hb h3 h1
  unfold Srt
  have hpw : (ent es).Pairwise (fun p q => p.1.before q.1 = true) := by
    have tr : ∀ {es : List En}, DataW.rising (ent es) = true → (ent es).Pairwise (fun p q => p.1.before q.1 = true) := by
      intro es
      induction es with
      | nil => intro _; exact List.Pairwise.nil
      | cons x r ih =>
        intro h
        cases r with
        | nil => exact List.pairwise_singleton _ _
        | cons y r =>
          have hxy : ((Lit.string x.1.path).before (Lit.string y.1.path) && DataW.rising (ent (y :: r))) = true := h
          rw [Bool.and_eq_true] at hxy
          have ih2 := ih hxy.2
          refine List.pairwise_cons.2 ⟨fun q hq => ?_, ih2⟩
          have hq' : q ∈ (Lit.string y.1.path, DataW.held (enV y)) :: ent r := hq
          rcases List.mem_cons.1 hq' with rfl | hq'
          · exact hxy.1
          · exact WideShapes.before_trans hxy.1 ((List.pairwise_cons.1 ih2).1 q hq')
    exact tr hp
  unfold ent at hpw
  rw [List.pairwise_map] at hpw ⊢
  refine hpw.imp fun hab => ?_
  show Op.bytesLess _ _ = true
  rw [← bb_eq]
  exact hab
/-- a new map -/
theorem mpAt_made (F : Nat → Prop) (w : World) : MpAt F (w.alloc (.map #[] 0)) w.heap.size [] :=
  ⟨[], rfl, World.ownsMap_made w _ _ _, fun x hx => by cases hx⟩
/-- a node put -/
theorem MpAt.store (h : MpAt F w b t) (l : Lf) (A : Option Addr) (c : Nat) (hB : BF F w A c l.data) (hl : l.path.length ≤ maxLen) (hn : t.length ≤ 1000) :
    ∃ w', (Instr.mapUpdate 74 (.map (some b)) (.string ⟨l.path.toArray⟩) (.agg (lfC l A c).toArray)).run Tryz.prog w = .ok () w' ∧ MpAt F w' b (tWith l t) ∧ w.grownBy w' (some b) := by
  have hm := h.isMap
  obtain ⟨es, h1, h2, h3⟩ := h
  obtain ⟨w', r1, r2, r3⟩ := h2.update str_keyed Tryz.underlying74 (by simp only [maxLen]; omega) (key_of hl) (show asIs (enV (l, A, c)) = some (.held (enV (l, A, c)), []) from rfl)
  refine ⟨w', r1, ⟨kPut (fun a : En => a.1.path) (l, A, c) es, ?_, ?_, ?_⟩, r3⟩
  · rw [tWith_put, ← h1]
    exact kPut_map Lf.path Prod.fst (l, A, c) es
  · rw [show (Lit.string l.path) = Lit.string (l, A, c).1.path from rfl, ent_put] at r2
    obtain ⟨e, cl, hb, hf, hs, hD⟩ := r2
    refine ⟨e, cl, hb, hf, ?_, hD⟩
    injection hD with hD
    have hlen := congrArg List.length hD
    rw [length_sorted, List.length_map] at hlen
    have e2 : (tWith l t).length = (kPut (fun a : En => a.1.path) (l, A, c) es).length := by
      rw [tWith_put, ← h1, ← kPut_map Lf.path Prod.fst (l, A, c) es, List.length_map]
    have e3 : (ent (kPut (fun a : En => a.1.path) (l, A, c) es)).length = (kPut (fun a : En => a.1.path) (l, A, c) es).length := by unfold ent; rw [List.length_map]
    rw [e2, ← e3, hlen]
    simp
  · intro x hx
    rcases (mem_kPut _ _ _ _).1 hx with rfl | ⟨hx, _⟩
    · exact bf_off hB hm r3
    · exact bf_off (h3 x hx) hm r3
/-- a node less -/
theorem MpAt.drop (h : MpAt F w b t) (p : List UInt8) (hl : p.length ≤ maxLen) (ty : TypeId) :
    ∃ w', (Builtin.delete_ #[74, 9] ty #[.map (some b), .string ⟨p.toArray⟩]).run Tryz.prog w = .ok (.tuple #[]) w' ∧ MpAt F w' b (t.filter fun y => decide (y.path ≠ p)) ∧ w.grownBy w' (some b) := by
  have hm := h.isMap
  obtain ⟨es, h1, h2, h3⟩ := h
  obtain ⟨w', r1, r2, r3⟩ := h2.drop str_keyed Tryz.underlying74 (key_of hl) ty
  have hg : w.grownBy w' (some b) := by
    obtain ⟨e, cl, e', cl', hb, rfl⟩ := r3
    exact ⟨rfl, rfl, rfl, by simp [Go.ChangeMaps.setBlock], fun i _ hi => Go.ChangeMaps.heap_setBlock_other hb _ (fun e => hi (by rw [e]))⟩
  refine ⟨w', r1, ⟨es.filter fun y => decide (y.1.path ≠ p), ?_, ?_, fun x hx => bf_off (h3 x (List.mem_filter.1 hx).1) hm hg⟩, hg⟩
  · rw [← h1, List.filter_map]; rfl
  · rw [ent_del] at r2
    obtain ⟨e, cl, hb, hf, hs, hD⟩ := r2
    refine ⟨e, cl, hb, hf, ?_, hD⟩
    injection hD with hD
    have hlen := congrArg List.length hD
    rw [length_sorted, List.length_map] at hlen
    have e2 : (t.filter fun y => decide (y.path ≠ p)).length = (es.filter fun y => decide (y.1.path ≠ p)).length := by
      rw [← h1, List.filter_map, List.length_map]; rfl
    have e3 : (ent (es.filter fun y => decide (y.1.path ≠ p))).length = (es.filter fun y => decide (y.1.path ≠ p)).length := by unfold ent; rw [List.length_map]
    rw [e2, ← e3, hlen]
    simp
/-- a look for a node -/
theorem MpAt.look_yes (h : MpAt F w b t) (c : Bool) {p : List UInt8} {k : Nat} {l : Lf} (hat : tAt p t = some k) (hl : t[k]? = some l) (hp : p.length ≤ maxLen) :
    ∃ A cc, BF F w A cc l.data ∧ (Instr.lookup 74 (.map (some b)) (.string ⟨p.toArray⟩) c).run Tryz.prog w = .ok (if c then .tuple #[.agg (lfC l A cc).toArray, .bool true] else .agg (lfC l A cc).toArray) w := by
  obtain ⟨es, h1, ⟨e, cl, hb, hf, hs, hD⟩, h3⟩ := h
  rw [← h1] at hat hl
  obtain ⟨x, hx, hxp, hh, ha⟩ := ent_yes hat
  rw [List.getElem?_map, hx] at hl
  obtain rfl : x.1 = l := Option.some.inj hl
  refine ⟨x.2.1, x.2.2, h3 x (List.mem_of_getElem? hx), ?_⟩
  rcases Maps.fit_look c str_keyed Tryz.underlying74 (zero_leaf w) hb hf (key_of hp) with ⟨_, _, q⟩ | ⟨e0, y, _, _, hrun, hR, q, _⟩
  · have := q (.held lfNo)
    rw [← hD, ha] at this
    have q2 := q (.held (.bool true))
    rw [← hD, ha] at q2
    rw [this] at q2
    cases q2
  · have q1 := q (.held lfNo)
    rw [← hD, ha] at q1
    have : y.1 = .held e0.val := by
      have : y = (.held e0.val, []) := (Option.some.inj hR).symm
      rw [this]
    rw [this] at q1
    injection q1 with q1
    rw [hrun, ← q1]
    rfl
theorem MpAt.look_no (h : MpAt F w b t) (c : Bool) {p : List UInt8} (hat : tAt p t = none) (hp : p.length ≤ maxLen) :
    (Instr.lookup 74 (.map (some b)) (.string ⟨p.toArray⟩) c).run Tryz.prog w = .ok (if c then .tuple #[lfNo, .bool false] else lfNo) w := by
  obtain ⟨es, h1, ⟨e, cl, hb, hf, hs, hD⟩, h3⟩ := h
  rw [← h1] at hat
  obtain ⟨hh, ha⟩ := ent_no hat
  rcases Maps.fit_look c str_keyed Tryz.underlying74 (zero_leaf w) hb hf (key_of hp) with ⟨hrun, _, _⟩ | ⟨e0, y, _, _, _, _, q, _⟩
  · exact hrun
  · have q1 := q (.held lfNo)
    have q2 := q (.held (.bool true))
    rw [← hD, ha] at q1 q2
    rw [← q1] at q2
    cases q2
theorem MpAt.len_ (h : MpAt F w b t) (ty : TypeId) : (Builtin.len_ #[74] ty #[.map (some b)]).run Tryz.prog w = .ok (.int .i64 (t.length : Int)) w := by
  obtain ⟨es, h1, h2, h3⟩ := h
  have := h2.len Tryz.underlying74 ty
  rw [this, ← h1]
  simp [Maps.size, ent]
end
/-- a tree: its struct in block g, its map and data in blocks of F -/
def TreeAt (F : Nat → Prop) (w : World) (g : Nat) (t : List Lf) : Prop := ∃ b, Bk w g 76 [.map (some b)] ∧ F g ∧ F b ∧ MpAt F w b t
section
variable {F F' : Nat → Prop} {w w' : World} {g : Nat} {t : List Lf}
theorem TreeAt.chg {G : Nat → Prop} (h : TreeAt F w g t) (hc : Chg G w w') (hG : ∀ k, F k → k < w.heap.size → ¬ G k) : TreeAt F w' g t := by
  obtain ⟨b, h1, h2, h3, h4⟩ := h
  exact ⟨b, hc.bk h1 (hG g h2 h1.lt), h2, h3, h4.chg hc (hG b h3 h4.lt) hG⟩
theorem TreeAt.below (h : TreeAt F w g t) (hb : Below w.heap.size w w') : TreeAt F w' g t := h.chg (Chg.of_below (fun _ => False) hb) fun _ _ _ => id
theorem TreeAt.more (h : TreeAt F w g t) (hF : ∀ k, F k → k < w.heap.size → F' k) : TreeAt F' w g t := by
  obtain ⟨b, h1, h2, h3, h4⟩ := h
  exact ⟨b, h1, hF g h2 h1.lt, hF b h3 h4.lt, h4.more hF⟩
theorem TreeAt.srt (h : TreeAt F w g t) : Srt t := h.choose_spec.2.2.2.srt
theorem TreeAt.lt (h : TreeAt F w g t) : g < w.heap.size := h.choose_spec.1.lt
theorem TreeAt.paths_le (h : TreeAt F w g t) : ∀ l ∈ t, l.path.length ≤ maxLen := h.choose_spec.2.2.2.paths_le
end
/-- a call that changes the tree: what it answers, and the tree behind it -/
def TDid (F : Nat → Prop) (g : Nat) (t' : List Lf) (r : Value) (w : World) (e : Ending) (w' : World) : Prop :=
  e = .returned r ∧ ∃ F', TreeAt F' w' g t' ∧ (∀ k, F' k → F k ∨ w.heap.size ≤ k) ∧ Chg F w w'
end Go.Proofs.YtgppclmofphlfaaGreatDoor

/-
  tally: votes are put in order. A walk over the library's contract; no statement.
-/
import Derived.Test.YtckmjpbkcpmdpaaTallyCmp
namespace Go.Proofs.Ytckmjpbkcpmdpaa
open Go.RowKit Go.Sort Go.Shelf
set_option linter.unusedVariables false

theorem flat_vcc (enc : Vc → List Value) (ys : List Vc) (h : ∀ x ∈ ys, enc x = vc1 x) : (flatK enc 4 ys.toArray).toList = vcc ys := by
  refine List.ext_getElem? fun t => ?_
  rcases Nat.lt_or_ge t (ys.length * 4) with ht | ht
  · have hq : t / 4 < ys.length := by omega
    have e0 : (flatK enc 4 ys.toArray).toList[t]? = some ((enc ys[t / 4])[t % 4]!) := by
      have h1 := get_flatK enc 4 ys.toArray t (by simpa using ht)
      rw [getElem!_pos _ t (by simpa using ht)] at h1
      rw [Array.getElem?_toList, Array.getElem?_eq_getElem (by simpa using ht), h1]
      simp [getElem!_pos, hq]
    rw [e0, h _ (List.getElem_mem _)]
    obtain ⟨c0, c1, c2, c3⟩ := vcc_at ys (t / 4) ys[t / 4] (List.getElem?_eq_getElem hq)
    have e4 : t = t / 4 * 4 + t % 4 := by omega
    have hm : t % 4 < 4 := Nat.mod_lt _ (by omega)
    generalize t / 4 = q at *
    generalize t % 4 = r at *
    subst e4
    rcases (show r = 0 ∨ r = 1 ∨ r = 2 ∨ r = 3 by omega) with rfl | rfl | rfl | rfl
    · exact c0.symm
    · exact c1.symm
    · exact c2.symm
    · exact c3.symm
  · rw [List.getElem?_eq_none (by simpa using ht), List.getElem?_eq_none (by rw [vcc_len]; exact ht)]
theorem putCells_list (F cur : Array Value) (h : F.size ≤ cur.size) : (putCells id 0 F cur).toList = F.toList ++ cur.toList.drop F.size := by
  refine List.ext_getElem? fun t => ?_
  rcases Nat.lt_or_ge t F.size with ht | ht
  · rw [List.getElem?_append_left (by simpa using ht)]
    simp [putCells, ht, show t < cur.size by omega]
  · rw [List.getElem?_append_right (by simpa using ht), List.getElem?_drop]
    simp [putCells, show ¬ t < F.size by omega, show F.size + (t - F.size) = t by omega]
theorem chg_sorted (enc : Vc → List Value) (k : Nat) (w : World) (g n : Nat) (d : Array Vc) (os : Array Obj) : Chg (fun i => i = g) w (sortWorldK enc k w g 0 n d os) := by
  refine ⟨rfl, rfl, rfl, size_sortWorldK_c enc k w g 0 n d os, fun j hj hn => ?_⟩
  unfold sortWorldK
  rw [heap_grow_old _ _ (by rw [size_putRowK]; exact hj)]
  show (w.heap.modify g _)[j]? = _
  rw [Array.getElem?_modify, if_neg (fun e => hn e.symm)]
theorem bk_sorted {enc : Vc → List Value} {w : World} {g n : Nat} {ys : List Vc} {os : Array Obj} {t : TypeId} {cs rest : List Value} (hb : Bk w g t (cs ++ rest)) (hl : cs.length = ys.length * 4) (he : ∀ x ∈ ys, enc x = vc1 x) :
    Bk (sortWorldK enc 4 w g 0 n ys.toArray os) g t (vcc ys ++ rest) := by
  have hlt := hb.lt
  unfold Bk at *
  unfold sortWorldK
  rw [heap_grow_old _ _ (by rw [size_putRowK]; exact hlt)]
  show (w.heap.modify g _)[g]? = _
  rw [Array.getElem?_modify, if_pos rfl, hb]
  show some (Obj.cells (putCells id 0 (flatK enc 4 ys.toArray) (cs ++ rest).toArray) t (0, 0)) = _
  have e : putCells id 0 (flatK enc 4 ys.toArray) (cs ++ rest).toArray = (vcc ys ++ rest).toArray := by
    apply Array.toList_inj.1
    rw [putCells_list _ _ (by simp; omega), flat_vcc enc ys he]
    simp [hl]
  rw [e]
/-- pairs apart by their voters, none behind one that is ahead of it: in order -/
theorem srt_of {ys : List Vc} (h : ∀ i j, (hj : j < ys.length) → (hij : i < j) → ¬ LtV ys[j].v (ys[i]'(by omega)).v) (hid : (ys.map (·.v)).Pairwise fun a b => a.voter ≠ b.voter) : (ys.map (·.v)).Pairwise LtV := by
  refine List.pairwise_map.2 (List.pairwise_iff_getElem.2 fun i j hi hj hij => ?_)
  have h1 := List.pairwise_iff_getElem.1 (List.pairwise_map.1 hid) i j hi hj hij
  rcases LtV.tri ys[i].v ys[j].v with x | x | x
  · exact x
  · exact absurd x (h i j hj hij)
  · exact absurd x.2.2 h1
theorem sort_votes (n c : Nat) (xs : List Vc) (g : Nat) (w : World) (ho : OwnV w 0 (some ⟨g, 0, none⟩) n c xs) (hn : 0 < n) (hr : ∀ x ∈ xs, Rd w x.ka x.kn (x.v.key.map bv) ∧ ∀ a, x.ka = some a → a.block ≠ g)
    (hid : (xs.map (·.v)).Pairwise fun a b => a.voter ≠ b.voter) (hs : n < 4611686018427387904) :
    Calls Try.prog 38 #[.slice (some ⟨g, 0, none⟩) n c, .func (.func 39) #[] #[]] w fun e w' =>
      e = .returned (.tuple #[]) ∧ ∃ ys : List Vc, ys.Perm xs ∧ (ys.map (·.v)).Pairwise LtV ∧ OwnV w' 0 (some ⟨g, 0, none⟩) n c ys ∧ Chg (fun i => i = g) w w' := by
  have hl := ho.len
  obtain ⟨g', e1, _, hnc, hcm, rest, hb, hbl⟩ := ownV_at ho hn
  obtain rfl : g = g' := by injection e1 with e1; injection e1
  obtain ⟨f, hf⟩ : ∃ f : Vc → Vc, ∀ x, (Rd w (f x).ka (f x).kn ((f x).v.key.map bv) ∧ ∀ a, (f x).ka = some a → a.block ≠ g) ∧ ((Rd w x.ka x.kn (x.v.key.map bv) ∧ ∀ a, x.ka = some a → a.block ≠ g) → f x = x) := by
    classical
    refine ⟨fun x => if Rd w x.ka x.kn (x.v.key.map bv) ∧ ∀ a, x.ka = some a → a.block ≠ g then x else default, fun x => ?_⟩
    by_cases h : Rd w x.ka x.kn (x.v.key.map bv) ∧ ∀ a, x.ka = some a → a.block ≠ g
    · simp only [if_pos h]
      exact ⟨h, fun _ => by trivial⟩
    · simp only [if_neg h]
      exact ⟨⟨Rd.nil_ _ _, fun a e => by cases e⟩, fun q => absurd q h⟩
  have fx : ∀ x ∈ xs, f x = x := fun x hx => (hf x).2 (hr x hx)
  have eg : ∀ args w, (callFunc 39 args).run Try.prog w = .ok (.enter 39 args) w := enters_of Try.func39 (by kernel_rfl) rfl
  have hcmp : CmpLays Try.prog 39 #[] (fun x => vc1 (f x)) 4 (fun x y => cmpV (f x).v (f y).v) g 0 xs.toArray.size w := by
    intro m os dk hdk x y
    have hc := chg_sorted (fun x => vc1 (f x)) 4 w g m dk os
    exact before_any (f x) (f y) _ (hc.rd (hf x).1.1 (fun a e _ => (hf x).1.2 a e)) (hc.rd (hf y).1.1 (fun a e _ => (hf y).1.2 a e))
  have hH : HoldsK (fun x => vc1 (f x)) 4 w g 0 xs.toArray := by
    intro j hj
    have hj' : j < xs.length * 4 := by simpa using hj
    have e := flat_vcc (fun x => vc1 (f x)) xs (fun x hx => by show vc1 (f x) = vc1 x; rw [fx x hx])
    refine ⟨?_, hb.frozen _⟩
    rw [Nat.zero_add, hb.cell, List.getElem?_append_left (by rw [vcc_len]; exact hj'), ← e, Array.getElem?_toList, getElem!_pos _ j hj, Array.getElem?_eq_getElem hj]
    rfl
  have hcon := AnyQ.slices_SortFunc Try.sortVotes 4 Try.isAgg55 Try.sizeOf55 (fun x => vc1 (f x)) (fun _ => rfl) (fun x v hv => by
    simp only [vc1, List.mem_cons, List.not_mem_nil, or_false] at hv
    rcases hv with rfl | rfl | rfl | rfl <;> rfl) (fun x y => cmpV (f x).v (f y).v) (swo_of fun x => (f x).v) 39 #[] g 0 c xs.toArray w eg hcmp hH hb.lt (by simpa [hl] using hs)
  have hcon : Calls Try.prog 38 #[.slice (some ⟨g, 0, none⟩) xs.toArray.size c, .func (.func 39) #[] #[]] w _ := hcon
  rw [show xs.toArray.size = n by simpa using hl] at hcon
  refine hcon.mono fun e w' ⟨he, d', q, os, ⟨hp1, _, hp3⟩, hso, hw⟩ => ⟨he, d'.toList, ?_, ?_, ?_, ?_⟩
  · have hz : d'.size = n := by rw [hp1]; simpa using hl
    rw [show d'.extract 0 n = d' by rw [← hz]; simp, show xs.toArray.extract 0 n = xs.toArray by rw [← hl]; simp] at hp3
    exact hp3
  · have hz : d'.size = n := by rw [hp1]; simpa using hl
    rw [show d'.extract 0 n = d' by rw [← hz]; simp, show xs.toArray.extract 0 n = xs.toArray by rw [← hl]; simp] at hp3
    have hm : ∀ i, (hi : i < d'.size) → f d'[i]! = d'[i]! := fun i hi => by
      refine fx _ (hp3.subset ?_)
      rw [getElem!_pos d' i hi]
      exact Array.getElem_mem_toList hi
    refine srt_of (fun i j hj hij => ?_) ((hp3.map _).pairwise_iff (fun {a b} hab => Ne.symm hab) |>.2 hid)
    have hj' : j < d'.size := by simpa using hj
    have h2 := hso i j (Nat.zero_le _) hij (by omega)
    unfold ltOf at h2
    simp only [decide_eq_false_iff_not, cmpV_lt] at h2
    rw [hm i (by omega), hm j hj', getElem!_pos d' i (by omega), getElem!_pos d' j hj'] at h2
    simpa using h2
  · have hz : d'.size = n := by rw [hp1]; simpa using hl
    rw [show d'.extract 0 n = d' by rw [← hz]; simp, show xs.toArray.extract 0 n = xs.toArray by rw [← hl]; simp] at hp3
    rw [hw]
    have hb' := bk_sorted (enc := fun x => vc1 (f x)) (n := q) (ys := d'.toList) (os := os) hb (by rw [vcc_len]; simp [hz, hl]) (fun x hx => by show vc1 (f x) = vc1 x; rw [fx x (hp3.subset hx)])
    rw [Array.toArray_toList] at hb'
    have e4 : (vcc d'.toList ++ rest).length = c * 4 := by
      rw [List.length_append, vcc_len] at hbl ⊢
      rw [hl] at hbl
      simpa [hz] using hbl
    exact ownV_back hb' e4 (Nat.zero_le _) (by simpa using hz) hnc hcm
  · rw [hw]
    exact chg_sorted _ _ _ _ _ _ _
end Go.Proofs.Ytckmjpbkcpmdpaa

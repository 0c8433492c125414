import Derived.Test.YtfdmnnbcnaofgaaDoorMacLaw
import Derived.Deep.CutRange
namespace Go.Proofs.YtfdmnnbcnaofgaaDoor
open Go.RowKit
open Pk Sh
set_option linter.unusedVariables false

theorem below_al {w X : World} {o : Obj} (h : Below w.heap.size w X) : Below w.heap.size w (X.alloc o) := h.alloc h.size _
theorem sl_belowA {w w' : World} {o : Obj} {A : Option Addr} {n c : Nat} {l : List UInt8} (h : Sl w A n c l) (hb : Below (w.alloc o).heap.size (w.alloc o) w') : Sl w' A n c l := (h.alloc o).below hb
theorem sl_belowAD {w w' : World} {o : Obj} {A : Option Addr} {n c : Nat} {l : List UInt8} (h : Sl w A n c l) (hb : Below (w.alloc o).drew.heap.size (w.alloc o).drew w') : Sl w' A n c l := (h.alloc o).belowD hb
theorem rd_belowA {w w' : World} {o : Obj} {A : Option Addr} {n : Nat} {l : List Value} (h : Rd w A n l) (hb : Below (w.alloc o).heap.size (w.alloc o) w') : Rd w' A n l := (h.alloc o).below hb
theorem rd_belowAD {w w' : World} {o : Obj} {A : Option Addr} {n : Nat} {l : List Value} (h : Rd w A n l) (hb : Below (w.alloc o).drew.heap.size (w.alloc o).drew w') : Rd w' A n l := (h.alloc o).belowD hb
theorem bk_keptA {w w' : World} {o : Obj} {g : Nat} {t : TypeId} {cs : List Value} (h : Bk w g t cs) (hb : Below (w.alloc o).heap.size (w.alloc o) w') : Bk w' g t cs := (h.alloc o).kept hb
theorem bk_keptAD {w w' : World} {o : Obj} {g : Nat} {t : TypeId} {cs : List Value} (h : Bk w g t cs) (hb : Below (w.alloc o).drew.heap.size (w.alloc o).drew w') : Bk w' g t cs := bk_keptD (h.alloc o) hb
/-- a letter's block that was made ahead of a call -/
theorem kept_new {Y w' : World} (h : Below (Y.alloc (.cells #[.int .i64 0, .int .i64 0, .int .i64 0, .slice none 0 0, .slice none 0 0] 37)).heap.size (Y.alloc (.cells #[.int .i64 0, .int .i64 0, .int .i64 0, .slice none 0 0, .slice none 0 0] 37)) w') : Bk w' Y.heap.size 37 [.int .i64 0, .int .i64 0, .int .i64 0, .slice none 0 0, .slice none 0 0] :=
  (Bk.new Y 37 [.int .i64 0, .int .i64 0, .int .i64 0, .slice none 0 0, .slice none 0 0]).kept h
theorem kept_newD {Y w' : World} (h : Below (Y.alloc (.cells #[.int .i64 0, .int .i64 0, .int .i64 0, .slice none 0 0, .slice none 0 0] 37)).drew.heap.size (Y.alloc (.cells #[.int .i64 0, .int .i64 0, .int .i64 0, .slice none 0 0, .slice none 0 0] 37)).drew w') : Bk w' Y.heap.size 37 [.int .i64 0, .int .i64 0, .int .i64 0, .slice none 0 0, .slice none 0 0] :=
  bk_keptD (Bk.new Y 37 [.int .i64 0, .int .i64 0, .int .i64 0, .slice none 0 0, .slice none 0 0]) h
theorem bk_ne {X : World} {a g : Nat} {t t' : TypeId} {cs cs' : List Value} (h : Bk X a t cs) (h' : Bk X g t' cs') (hne : t ≠ t') : a ≠ g := by
  intro e
  subst e
  unfold Bk at h h'
  rw [h] at h'
  injection h' with h'
  injection h' with _ e2 _
  exact hne e2
/-- a sealed letter in a variable -/
def LetIn (f1 f2 r : Int) (m N : Nat) (body : List UInt8) (tags : List (List UInt8)) (w : World) (pv : Value) (wx : World) : Prop :=
  ∃ g A1 c1 E d1, pv = .pointer (some ⟨g, 0, none⟩) ∧ Bk wx g 37 [.int .i64 f1, .int .i64 f2, .int .i64 r, .slice A1 m c1, .slice E N d1] ∧ Sl wx A1 m c1 body ∧ RdRows wx E N tags ∧ Below w.heap.size w wx ∧ w.heap.size ≤ g
theorem let_alloc {f1 f2 r : Int} {m N c1 d1 b : Nat} {A1 E : Option Addr} {body : List UInt8} {tags : List (List UInt8)} {w X : World} (la : OwnB X b A1 m c1 body) (lt : OwnRs X b E N d1 tags) (hw : Below w.heap.size w X) :
    LetIn f1 f2 r m N body tags w (.pointer (some ⟨X.heap.size, 0, none⟩)) (X.alloc (.cells #[.int .i64 f1, .int .i64 f2, .int .i64 r, .slice A1 m c1, .slice E N d1] 37)) :=
  ⟨_, A1, c1, E, d1, rfl, Bk.new _ _ _, (Sl.own la).alloc _, lt.rd.below ((Below.refl _ _).alloc (Nat.le_refl _) _), hw.alloc hw.size _, hw.size⟩
theorem let_store {f1 f2 r : Int} {m N c1 d1 b g : Nat} {A1 E : Option Addr} {body : List UInt8} {tags : List (List UInt8)} {w X : World} (kz : Bk X g 37 [.int .i64 0, .int .i64 0, .int .i64 0, .slice none 0 0, .slice none 0 0]) (la : OwnB X b A1 m c1 body) (lt : OwnRs X b E N d1 tags) (hw : Below w.heap.size w X) (hg : w.heap.size ≤ g) :
    LetIn f1 f2 r m N body tags w (.pointer (some ⟨g, 0, none⟩)) (((((X.setCell ⟨g, 0, none⟩ (.int .i64 f1)).setCell ⟨g, 1, none⟩ (.int .i64 f2)).setCell ⟨g, 2, none⟩ (.int .i64 r)).setCell ⟨g, 3, none⟩ (.slice A1 m c1)).setCell ⟨g, 4, none⟩ (.slice E N d1)) := by
  have gg := grown_set (grown_set (grown_set (grown_set (grown_set (grown_refl X (some g)) 0 (.int .i64 f1)) 1 (.int .i64 f2)) 2 (.int .i64 r)) 3 (.slice A1 m c1)) 4 (.slice E N d1)
  exact ⟨g, A1, c1, E, d1, rfl, ((((kz.set 0 (.int .i64 f1)).set 1 (.int .i64 f2)).set 2 (.int .i64 r)).set 3 (.slice A1 m c1)).set 4 (.slice E N d1), Sl.own (la.off kz (by decide) gg), (lt.off kz (by decide) (by decide) gg).rd,
    below_set (below_set (below_set (below_set (below_set hw hg 0 _) hg 1 _) hg 2 _) hg 3 _) hg 4 _, hg⟩
/-- Seal's answer, in the words of the statements -/
theorem seal_new {w : World} {A B D : Option Addr} {n c m d p q : Nat} {s body : List UInt8} {f1 f2 r count : Int} {bad : List Int} (X : World) (hw : Below w.heap.size w X) (hT : Tab w) (h : Sl X A n c s) (hb : Sl X B m d body) (hi : Rd X D p (bad.map iv)) (hn : n ≤ 65536) (hm : m ≤ 65536) (hp : p ≤ 4294967296) :
    Calls Tryd.prog 22 #[.slice A n c, .agg #[.int .i64 f1, .int .i64 f2], .int .i64 r, .int .i64 count, .slice B m d, .slice D p q] X (fun e w' =>
      ∃ A' c' E' d' b, e = .returned (.agg #[.int .i64 f1, .int .i64 f2, .int .i64 r, .slice A' m c', .slice E' (upTo count) d']) ∧ OwnB w' b A' m c' body ∧ OwnRs w' b E' (upTo count) d' (tagsN s (f1, f2) r body bad (upTo count)) ∧ Below w.heap.size w w' ∧ Below X.heap.size X w') :=
  (seal_any A B D n c m d p q s body (f1, f2) r count bad X h hb hi (hT.kept hw) hn hm hp).mono fun e w' k => by
    obtain ⟨A', n', c', E', m', d', he, ho, hr, hbb⟩ := k
    have e1 : n' = m := by rw [← ho.len, hb.len]
    have e2 : m' = upTo count := by rw [← hr.1]; exact tagsN_len _ _ _ _ _ _
    subst e1 e2
    exact ⟨A', c', E', d', _, he, ho, hr, below_next hw hbb hw.size, hbb⟩
theorem macReads_early (w : World) (hT : Tab w) (A B D : Option Addr) (n c m d p q : Nat) (f : Int × Int) (r count : Int) (h : 1000 < n + m ∨ 100 < p) (hn : n ≤ 140737488355328) (hm : m ≤ 140737488355328) (hp : p ≤ maxLen) :
    Calls Tryd.prog 7 #[.slice A n c, .agg #[.int .i64 f.1, .int .i64 f.2], .int .i64 r, .int .i64 count, .slice B m d, .slice D p q] w (Tr w) := by
  unfold maxLen at hp
  obtain ⟨f1, f2⟩ := f
  have b0 := (Below.refl w.heap.size w).alloc (Nat.le_refl _) (.cells #[.int .i64 f1, .int .i64 f2] 28)
  have HB0 := Lib.hid b0
  have HA := Lib.hid (alive_ok _ (hT.kept b0))
  clear hT b0
  by_cases h1 : (1000 : Int) < (n : Int) + (m : Int)
  · clear h
    go_enter Tryd.func7, Tryd.ntmps7
    go_wp2_with fail
    refine HA.out.mono ?_
    rintro e w1 ⟨rfl, hb1⟩
    have HB1 := Lib.hid (below_next HB0.out hb1 HB0.out.size)
    clear hb1
    go_wp2_with fail
    go_ret
    exact ⟨rfl, HB1.out⟩
  · have h2 : (100 : Int) < (p : Int) := by omega
    clear h
    go_enter Tryd.func7, Tryd.ntmps7
    go_wp2_with fail
    refine HA.out.mono ?_
    rintro e w1 ⟨rfl, hb1⟩
    have HB1 := Lib.hid (below_next HB0.out hb1 HB0.out.size)
    clear hb1
    go_wp2_with fail
    go_ret
    exact ⟨rfl, HB1.out⟩

/-- is a number a reader's whose tag is right? -/
theorem in_eq (bad : List Int) (count i : Int) : (decide (0 ≤ i ∧ i < count ∧ i < 64) && !(inL bad i)) = (decide (0 ≤ i) && decide (i < (upTo count : Int)) && !(isIn bad i.toNat)) := by
  by_cases h0 : 0 ≤ i
  · obtain ⟨k, rfl⟩ : ∃ k : Nat, i = k := ⟨i.toNat, by omega⟩
    have e : decide (0 ≤ (k : Int) ∧ (k : Int) < count ∧ (k : Int) < 64) = (decide (0 ≤ (k : Int)) && decide ((k : Int) < (upTo count : Int))) := by
      have : (0 ≤ (k : Int) ∧ (k : Int) < count ∧ (k : Int) < 64) ↔ (0 ≤ (k : Int) ∧ (k : Int) < (upTo count : Int)) := by unfold upTo; omega
      rw [decide_eq_decide.2 this, Bool.decide_and]
    rw [e, Int.toNat_natCast, inL_isIn]
  · have e : decide (0 ≤ i ∧ i < count ∧ i < 64) = false := decide_eq_false (fun h => h0 h.1)
    rw [e]
    simp [h0]

set_option maxHeartbeats 3000000 in
set_option maxRecDepth 100000 in
theorem macReads_main (w : World) (hT : Tab w) (A B D : Option Addr) (n c m d p q : Nat) (s body : List UInt8) (f : Int × Int) (r count : Int) (bad : List Int) (h : Sl w A n c s) (hb : Sl w B m d body) (hi : Rd w D p (bad.map iv)) (hnm : n + m ≤ 1000) (hp : p ≤ 100) (hr : -9223372036854775808 ≤ r ∧ r ≤ 9223372036854775807) :
    Calls Tryd.prog 7 #[.slice A n c, .agg #[.int .i64 f.1, .int .i64 f.2], .int .i64 r, .int .i64 count, .slice B m d, .slice D p q] w (Tr w) := by
  obtain ⟨f1, f2⟩ := f
  have b0 := (Below.refl w.heap.size w).alloc (Nat.le_refl _) (.cells #[.int .i64 f1, .int .i64 f2] 28)
  have HB0 := Lib.hid b0
  have HA := Lib.hid (alive_ok _ (hT.kept b0))
  have h1 : ¬ (1000 : Int) < (n : Int) + (m : Int) := by omega
  have h2 : ¬ (100 : Int) < (p : Int) := by omega
  have HKF := Lib.hid (Bk.new w 28 [.int .i64 f1, .int .i64 f2])
  have HN := Lib.hid (show upTo count ≤ 64 by unfold upTo; omega)
  have HC := Lib.hid (show ∀ X, Below w.heap.size w X → Calls Tryd.prog 14 #[.slice A n c] X (fun e w' => ∃ A' c', e = .returned (.slice A' n c') ∧ Sl w' A' n c' s ∧ Below w.heap.size w w' ∧ Below X.heap.size X w') from fun X hw => copy_new h (by omega) X hw)
  have HCB := Lib.hid (show ∀ X, Below w.heap.size w X → Calls Tryd.prog 14 #[.slice B m d] X (fun e w' => ∃ A' c', e = .returned (.slice A' m c') ∧ Sl w' A' m c' body ∧ Below w.heap.size w w' ∧ Below X.heap.size X w') from fun X hw => copy_new hb (by omega) X hw)
  have HCI := Lib.hid (show ∀ X, Below w.heap.size w X → Calls Tryd.prog 20 #[.slice D p q] X (fun e w' => ∃ A' c', e = .returned (.slice A' p c') ∧ Rd w' A' p (bad.map iv) ∧ Below w.heap.size w w' ∧ Below X.heap.size X w') from
    fun X hw => (copyInts_any D p q bad X (hi.below hw) (by omega)).mono fun e w' k => by
      obtain ⟨⟨A', c', he, ho⟩, hbb⟩ := k
      exact ⟨A', c', he, ho.rd, below_next hw hbb hw.size, hbb⟩)
  have HSE := Lib.hid (show ∀ A' c' A2 c2 A3 c3 X, Below w.heap.size w X → Sl X A' n c' s → Sl X A2 m c2 body → Rd X A3 p (bad.map iv) → Calls Tryd.prog 22 #[.slice A' n c', .agg #[.int .i64 f1, .int .i64 f2], .int .i64 r, .int .i64 count, .slice A2 m c2, .slice A3 p c3] X (fun e w' =>
      ∃ A' c' E' d' b, e = .returned (.agg #[.int .i64 f1, .int .i64 f2, .int .i64 r, .slice A' m c', .slice E' (upTo count) d']) ∧ OwnB w' b A' m c' body ∧ OwnRs w' b E' (upTo count) d' (tagsN s (f1, f2) r body bad (upTo count)) ∧ Below w.heap.size w w' ∧ Below X.heap.size X w') from
    fun A' c' A2 c2 A3 c3 X hw g1 g2 g3 => seal_new X hw hT g1 g2 g3 (by omega) (by omega) (by omega))
  have HS := Lib.hid h
  have HBO := Lib.hid hb
  have HI := Lib.hid hi
  have HT := Lib.hid hT
  have HPL := Lib.hid (show bad.length = p by simpa using hi.1)
  have HSB := Lib.hid (fun A' c' X (hw : Below w.heap.size w X) (g1 : Sl X A' m c' body) => same_new (w := w) (show m ≤ maxLen by simp only [maxLen]; omega) A' B m c' d X hw g1 (hb.below hw))
  have HOP := Lib.hid (fun A1 c1 E d1 X i (hw : Below w.heap.size w X) (g1 : Sl X A1 m c1 body) (g2 : RdRows X E (upTo count) (tagsN s (f1, f2) r body bad (upTo count))) =>
    (open_any A A1 E n c m c1 (upTo count) d1 s body (r, i) (f1, f2) r (tagsN s (f1, f2) r body bad (upTo count)) X (h.below hw) g1 g2 (hT.kept hw) (by omega) (by omega) (by have := HN.out; simp only [maxLen]; omega)).mono fun _ _ k => tells_bool hw k)
  have HOP2 := Lib.hid (fun A1 c1 E d1 X i (hw : Below w.heap.size w X) (g1 : Sl X A1 m c1 body) (g2 : RdRows X E (upTo count) (tagsN s (f1, f2) r body bad (upTo count))) =>
    (open_any A A1 E n c m c1 (upTo count) d1 s body (r + 1, i) (f1, f2) r (tagsN s (f1, f2) r body bad (upTo count)) X (h.below hw) g1 g2 (hT.kept hw) (by omega) (by omega) (by have := HN.out; simp only [maxLen]; omega)).mono fun _ _ k => tells_bool hw k)
  have HOS := Lib.hid (fun i => open_sealed s (f1, f2) r body bad (upTo count) i)
  have HOO := Lib.hid (fun i => open_other s (f1, f2) r (r + 1) body (tagsN s (f1, f2) r body bad (upTo count)) i (by omega))
  clear hT h hb hi b0
  go_enter Tryd.func7, Tryd.ntmps7
  go_wp2_with fail
  refine HA.out.mono ?_
  rintro e w1 ⟨rfl, hb1⟩
  have hw : Below w.heap.size w w1 := below_next HB0.out hb1 HB0.out.size
  have kf : Bk w1 w.heap.size 28 [.int .i64 f1, .int .i64 f2] := HKF.out.kept hb1
  have HKF1 := Lib.hid kf
  have hw1 := hw.size
  obtain ⟨ca0, ca1⟩ := kf.two
  clear hb1
  go_upto_region 5 with fail
  go_cut [13] from 30 to 39 (fun pv wx => LetIn f1 f2 r m (upTo count) body (tagsN s (f1, f2) r body bad (upTo count)) w pv wx ∧ Bk wx w.heap.size 28 [.int .i64 f1, .int .i64 f2])
  case first =>
    go_region_held3 (fun w' => w'.cell? ⟨w.heap.size, 0, none⟩ = some (.int .i64 f1) ∧ w'.cell? ⟨w.heap.size, 1, none⟩ = some (.int .i64 f2))
      (first | with_reducible exact kf.two | with_reducible exact (kf.alloc _).two | with_reducible exact (bk_drew (kf.alloc _)).two | go_keep | exact (kf.five_far (bk_ne kf kz (by decide)) _ _ _ _ _).two)
      (first
      | (go_at_call 14; with_reducible refine (HC.out _ ?_).mono ?_
         focus first | with_reducible exact hw | with_reducible exact below_drew hw | with_reducible exact below_al hw | with_reducible exact below_drew (below_al hw)
         rintro e w' ⟨A4, c4, rfl, fc, hw', hx⟩
         first | replace fc := fc.below hx | replace fc := fc.belowD hx | replace fc := sl_belowA fc hx | replace fc := sl_belowAD fc hx | skip
         first | replace fb := fb.below hx | replace fb := fb.belowD hx | replace fb := sl_belowA fb hx | replace fb := sl_belowAD fb hx | skip
         first | replace fi := fi.below hx | replace fi := fi.belowD hx | replace fi := rd_belowA fi hx | replace fi := rd_belowAD fi hx | skip
         first | replace kf := kf.kept hx | replace kf := bk_keptD kf hx | replace kf := bk_keptA kf hx | replace kf := bk_keptAD kf hx | skip
         first | (have kz := kept_new hx; have hgz := hw.size) | (have kz := kept_newD hx; have hgz := hw.size) | replace kz := kz.kept hx | replace kz := bk_keptD kz hx | skip
         try
           obtain ⟨q0, q1, q2, q3, q4⟩ := kz.five
           have v0 := kz.frozen 0
           have v1 := kz.frozen 1
           have v2 := kz.frozen 2
           have v3 := kz.frozen 3
           have v4 := kz.frozen 4
         replace hw := hw'
         clear hw' hx)
      | (go_at_call 14; with_reducible refine (HCB.out _ ?_).mono ?_
         focus first | with_reducible exact hw | with_reducible exact below_drew hw | with_reducible exact below_al hw | with_reducible exact below_drew (below_al hw)
         rintro e w' ⟨A4, c4, rfl, fb, hw', hx⟩
         first | replace fc := fc.below hx | replace fc := fc.belowD hx | replace fc := sl_belowA fc hx | replace fc := sl_belowAD fc hx | skip
         first | replace fb := fb.below hx | replace fb := fb.belowD hx | replace fb := sl_belowA fb hx | replace fb := sl_belowAD fb hx | skip
         first | replace fi := fi.below hx | replace fi := fi.belowD hx | replace fi := rd_belowA fi hx | replace fi := rd_belowAD fi hx | skip
         first | replace kf := kf.kept hx | replace kf := bk_keptD kf hx | replace kf := bk_keptA kf hx | replace kf := bk_keptAD kf hx | skip
         first | (have kz := kept_new hx; have hgz := hw.size) | (have kz := kept_newD hx; have hgz := hw.size) | replace kz := kz.kept hx | replace kz := bk_keptD kz hx | skip
         try
           obtain ⟨q0, q1, q2, q3, q4⟩ := kz.five
           have v0 := kz.frozen 0
           have v1 := kz.frozen 1
           have v2 := kz.frozen 2
           have v3 := kz.frozen 3
           have v4 := kz.frozen 4
         replace hw := hw'
         clear hw' hx)
      | (go_at_call 20; with_reducible refine (HCI.out _ ?_).mono ?_
         focus first | with_reducible exact hw | with_reducible exact below_drew hw | with_reducible exact below_al hw | with_reducible exact below_drew (below_al hw)
         rintro e w' ⟨A4, c4, rfl, fi, hw', hx⟩
         first | replace fc := fc.below hx | replace fc := fc.belowD hx | replace fc := sl_belowA fc hx | replace fc := sl_belowAD fc hx | skip
         first | replace fb := fb.below hx | replace fb := fb.belowD hx | replace fb := sl_belowA fb hx | replace fb := sl_belowAD fb hx | skip
         first | replace fi := fi.below hx | replace fi := fi.belowD hx | replace fi := rd_belowA fi hx | replace fi := rd_belowAD fi hx | skip
         first | replace kf := kf.kept hx | replace kf := bk_keptD kf hx | replace kf := bk_keptA kf hx | replace kf := bk_keptAD kf hx | skip
         first | (have kz := kept_new hx; have hgz := hw.size) | (have kz := kept_newD hx; have hgz := hw.size) | replace kz := kz.kept hx | replace kz := bk_keptD kz hx | skip
         try
           obtain ⟨q0, q1, q2, q3, q4⟩ := kz.five
           have v0 := kz.frozen 0
           have v1 := kz.frozen 1
           have v2 := kz.frozen 2
           have v3 := kz.frozen 3
           have v4 := kz.frozen 4
         replace hw := hw'
         clear hw' hx)
      | (go_at_call 22; with_reducible refine (HSE.out _ _ _ _ _ _ _ ?_ ?_ ?_ ?_).mono ?_
         focus first | with_reducible exact hw | with_reducible exact below_drew hw | with_reducible exact below_al hw | with_reducible exact below_drew (below_al hw)
         focus first | with_reducible exact fc | with_reducible exact fc.drew | with_reducible exact fc.alloc _ | with_reducible exact (fc.alloc _).drew
         focus first | with_reducible exact fb | with_reducible exact fb.drew | with_reducible exact fb.alloc _ | with_reducible exact (fb.alloc _).drew
         focus first | with_reducible exact fi | with_reducible exact fi.drew | with_reducible exact fi.alloc _ | with_reducible exact (fi.alloc _).drew
         rintro e w' ⟨A5, c5, E5, d5, b5, rfl, la, lt, hw', hx⟩
         first | replace fc := fc.below hx | replace fc := fc.belowD hx | replace fc := sl_belowA fc hx | replace fc := sl_belowAD fc hx | skip
         first | replace fb := fb.below hx | replace fb := fb.belowD hx | replace fb := sl_belowA fb hx | replace fb := sl_belowAD fb hx | skip
         first | replace fi := fi.below hx | replace fi := fi.belowD hx | replace fi := rd_belowA fi hx | replace fi := rd_belowAD fi hx | skip
         first | replace kf := kf.kept hx | replace kf := bk_keptD kf hx | replace kf := bk_keptA kf hx | replace kf := bk_keptAD kf hx | skip
         first | (have kz := kept_new hx; have hgz := hw.size) | (have kz := kept_newD hx; have hgz := hw.size) | replace kz := kz.kept hx | replace kz := bk_keptD kz hx | skip
         try
           obtain ⟨q0, q1, q2, q3, q4⟩ := kz.five
           have v0 := kz.frozen 0
           have v1 := kz.frozen 1
           have v2 := kz.frozen 2
           have v3 := kz.frozen 3
           have v4 := kz.frozen 4
         replace hw := hw'
         clear hw' hx))
    all_goals
      go_wp2_with fail
      go_meet
      first
        | with_reducible exact ⟨let_alloc la lt hw, kf.alloc _⟩
        | exact ⟨let_store kz la lt hw hgz, kf.five_far (bk_ne kf kz (by decide)) _ _ _ _ _⟩
  case rest =>
    obtain ⟨⟨g, A1, c1, E, d1, rfl, kl, la, lt, hw2, hgw⟩, kf2⟩ := hcut
    obtain ⟨ca0', ca1'⟩ := kf2.two
    obtain ⟨cl0, cl1, cl2, cl3, cl4⟩ := kl.five
    have hrr : (r != r) = false := by simp
    have HKL := Lib.hid kl
    have HLA := Lib.hid la
    have HLT := Lib.hid lt
    have HW2 := Lib.hid hw2
    clear kl la lt hw2 kf2 kf hw ca0 ca1
    go_wp2_with fail
    refine (HSB.out A1 c1 _ HW2.out HLA.out).mono ?_
    rintro e w5 ⟨rfl, hw5, hx5⟩
    have HKL5 := Lib.hid (HKL.out.kept hx5)
    have HLA5 := Lib.hid (HLA.out.below hx5)
    have HLT5 := Lib.hid (HLT.out.below hx5)
    have HW5 := Lib.hid hw5
    clear hw5 hx5 HKL HLA HLT HW2 ca0' ca1' cl0 cl1 cl2 cl3 cl4 hrr
    go_wp2_with fail
    go_loopw [14] (fun i wr => ∃ k : Nat, k ≤ 67 ∧ i = .int .i64 ((k : Int) - 1) ∧ Bk wr g 37 [.int .i64 f1, .int .i64 f2, .int .i64 r, .slice A1 m c1, .slice E (upTo count) d1] ∧ Sl wr A1 m c1 body ∧ RdRows wr E (upTo count) (tagsN s (f1, f2) r body bad (upTo count)) ∧ Below w.heap.size w wr) (fun i _ => (66 - intOf i).toNat)
    case atStart => exact ⟨0, by omega, rfl, HKL5.out, HLA5.out, HLT5.out, HW5.out⟩
    case round =>
      obtain ⟨wo, hwo⟩ : ∃ wo, wo = wr := ⟨_, rfl⟩
      rw [← hwo] at hrel ⊢
      clear hwo
      obtain ⟨k, hk, rfl, kl, la, lt, hw⟩ := hrel
      obtain ⟨i, hi⟩ : ∃ i : Int, i = (k : Int) - 1 := ⟨_, rfl⟩
      rw [← hi]
      obtain ⟨cl0, cl1, cl2, cl3, cl4⟩ := kl.five
      have HKL := Lib.hid kl
      have HLA := Lib.hid la
      have HLT := Lib.hid lt
      have HW := Lib.hid hw
      have HI2 := Lib.hid hi
      have hik : -1 ≤ i ∧ i ≤ 66 := by omega
      clear kl la lt hw hi
      by_cases hlt : i < 66
      · have hinext : IntKind.i64.wrap (i + 1) = i + 1 := by simp only [IntKind.wrap, IntKind.bits, IntKind.signed]; simp; omega
        go_upto_region 11 with fail
        go_cut [15] from 57 to 107 (fun b wx => b = .bool (decide (0 ≤ i ∧ i < count ∧ i < 64)) ∧ wx = wo)
        case first =>
          by_cases b0 : 0 ≤ i
          · by_cases b1 : i < count
            · by_cases b2 : i < 64
              · have HD := Lib.hid (show decide (0 ≤ i ∧ i < count ∧ i < 64) = true from decide_eq_true ⟨b0, b1, b2⟩)
                go_wp2_with fail
                go_meet
                exact ⟨by rw [HD.out], rfl⟩
              · have HD := Lib.hid (show decide (0 ≤ i ∧ i < count ∧ i < 64) = false from decide_eq_false fun h => b2 h.2.2)
                go_wp2_with fail
                go_meet
                exact ⟨by rw [HD.out], rfl⟩
            · have HD := Lib.hid (show decide (0 ≤ i ∧ i < count ∧ i < 64) = false from decide_eq_false fun h => b1 h.2.1)
              go_wp2_with fail
              go_meet
              exact ⟨by rw [HD.out], rfl⟩
          · have HD := Lib.hid (show decide (0 ≤ i ∧ i < count ∧ i < 64) = false from decide_eq_false fun h => b0 h.1)
            go_wp2_with fail
            go_meet
            exact ⟨by rw [HD.out], rfl⟩
        case rest =>
          obtain ⟨rfl, hwx⟩ := hcut
          rw [hwx]
          clear hwx
          obtain ⟨b0, hb0⟩ : ∃ b0 : Bool, b0 = decide (0 ≤ i ∧ i < count ∧ i < 64) := ⟨_, rfl⟩
          rw [← hb0]
          have HB0' := Lib.hid hb0
          clear hb0
          have HI1 := Lib.hid (HI.out.below HW.out)
          go_wp2_with fail
          go_loop [15, 16] (fun b j => ∃ q : Nat, q ≤ p ∧ j = .int .i64 q ∧ b = .bool (b0 && !(inL (bad.take q) i))) (fun _ j => p - (intOf j).toNat)
          case atStart => exact ⟨0, by omega, rfl, by simp [inL]⟩
          case round =>
            obtain ⟨q', hq, rfl, rfl⟩ := hrel
            by_cases hqp : q' < p
            · have hql : q' < bad.length := by rw [HPL.out]; exact hqp
              obtain ⟨a, rfl, _, hc⟩ := HI1.out.at_ hqp
              have gx : (bad.map iv).getD q' undef = .int .i64 bad[q'] := by
                rw [getD_eq (by simpa using hql)]; simp [iv]
              rw [gx] at hc
              have y1 : (0 : Int) ≤ (q' : Int) := by omega
              have y2 : (q' : Int) < (p : Int) := by omega
              have hnext : inL (bad.take (q' + 1)) i = (inL (bad.take q') i || decide (bad[q'] = i)) := by
                unfold inL
                rw [List.take_succ_eq_append_getElem hql, List.any_append]
                simp
              generalize bad[q'] = v at *
              clear gx
              cases hb : (b0 && !(inL (bad.take q') i))
              · have hn2 : (b0 && !(inL (bad.take (q' + 1)) i)) = false := by
                  rw [hnext, Bool.not_or, ← Bool.and_assoc, hb, Bool.false_and]
                have HNX := Lib.hid hn2
                clear hnext hb hn2
                go_wp2
                go_round
                case rel => exact ⟨q' + 1, by omega, by go_num, by rw [HNX.out]⟩
                case measure => simp [intOf]; omega
              · have hn2 : (b0 && !(inL (bad.take (q' + 1)) i)) = !(decide (v = i)) := by
                  rw [hnext, Bool.not_or, ← Bool.and_assoc, hb, Bool.true_and]
                have HNX := Lib.hid hn2
                clear hnext hb hn2
                by_cases hv : v = i
                · have hve : (v != i) = false := by simp [hv]
                  have HDV := Lib.hid (show decide (v = i) = true by simp [hv])
                  clear hv
                  go_wp2
                  go_round
                  case rel => exact ⟨q' + 1, by omega, by go_num, by rw [HNX.out, HDV.out]; rfl⟩
                  case measure => simp [intOf]; omega
                · have hve : (v != i) = true := by simp [hv]
                  have HDV := Lib.hid (show decide (v = i) = false by simp [hv])
                  clear hv
                  go_wp2
                  go_round
                  case rel => exact ⟨q' + 1, by omega, by go_num, by rw [HNX.out, HDV.out]; rfl⟩
                  case measure => simp [intOf]; omega
            · have ej : bad.take q' = bad := List.take_of_length_le (by have := HPL.out; omega)
              rw [ej]
              clear ej
              obtain ⟨t, ht⟩ : ∃ t : Bool, t = (b0 && !(inL bad i)) := ⟨_, rfl⟩
              rw [← ht]
              have HTT := Lib.hid (show openN s (r, i) (f1, f2) r body (tagsN s (f1, f2) r body bad (upTo count)) = t by
                rw [HOS.out, ht, HB0'.out, in_eq])
              have htt : (t != t) = false := by simp
              clear ht
              go_wp2_with fail
              refine (HOP.out A1 c1 E d1 wo i HW.out HLA.out HLT.out).mono ?_
              rintro e w6 ⟨rfl, hw6, hx6⟩
              rw [HTT.out]
              have HKL6 := Lib.hid (HKL.out.kept hx6)
              have HLA6 := Lib.hid (HLA.out.below hx6)
              have HLT6 := Lib.hid (HLT.out.below hx6)
              have HW6 := Lib.hid hw6
              clear cl0 cl1 cl2 cl3 cl4
              obtain ⟨cl0, cl1, cl2, cl3, cl4⟩ := HKL6.out.five
              clear hw6 hx6
              by_cases h100 : r < 100
              · have hrw : IntKind.i64.wrap (r + 1) = r + 1 := by simp only [IntKind.wrap, IntKind.bits, IntKind.signed]; simp; omega
                have HOO2 := Lib.hid (HOO.out i)
                go_wp2_with fail
                refine (HOP2.out A1 c1 E d1 w6 i HW6.out HLA6.out HLT6.out).mono ?_
                rintro e w7 ⟨rfl, hw7, hx7⟩
                rw [HOO2.out]
                have HKL7 := Lib.hid (HKL6.out.kept hx7)
                have HLA7 := Lib.hid (HLA6.out.below hx7)
                have HLT7 := Lib.hid (HLT6.out.below hx7)
                have HW7 := Lib.hid hw7
                clear hw7 hx7
                go_wp2_with fail
                go_roundw
                case rel => exact ⟨k + 1, by have := HI2.out; omega, by have := HI2.out; congr 1; push_cast; omega, HKL7.out, HLA7.out, HLT7.out, HW7.out⟩
                case measure => simp [intOf]; omega
              · go_wp2_with fail
                go_roundw
                case rel => exact ⟨k + 1, by have := HI2.out; omega, by have := HI2.out; congr 1; push_cast; omega, HKL6.out, HLA6.out, HLT6.out, HW6.out⟩
                case measure => simp [intOf]; omega
      · have hN64 : (upTo count : Int) ≤ 64 := by have := HN.out; omega
        go_wp2_with fail
        go_ret
        exact ⟨rfl, HW.out⟩

theorem macReads_walk (w : World) (hT : Tab w) (v0 : Value) (s : List UInt8) (h0 : InBs w v0 s) (v1 : Value) (f : Int × Int) (h1 : InId w v1 f) (r : Int) (hr : (Lit.int .i64 r).wf = true) (count : Int) (hc : (Lit.int .i64 count).wf = true) (v4 : Value) (body : List UInt8) (h4 : InBs w v4 body) (v5 : Value) (bad : List Int) (h5 : InI w v5 bad) :
    Calls Tryd.prog 7 #[v0, v1, .int .i64 r, .int .i64 count, v4, v5] w (Tr w) := by
  obtain ⟨⟨A, n, c, rfl, hs⟩, hz0⟩ := h0
  rw [Sl.len (w := w) (A := A) (c := c) hs] at hz0
  obtain ⟨rfl, _, _⟩ := h1
  obtain ⟨⟨B, m, d, rfl, hs2⟩, hz1⟩ := h4
  rw [Sl.len (w := w) (A := B) (c := d) hs2] at hz1
  obtain ⟨D, p, q, rfl, hpq, hqm, hrd, _⟩ := h5
  by_cases h : 1000 < n + m ∨ 100 < p
  · exact macReads_early w hT A B D n c m d p q f r count h hz0 hz1 (Nat.le_trans hpq hqm)
  · exact macReads_main w hT A B D n c m d p q s body f r count bad hs hs2 hrd (by omega) (by omega) (by simpa [Lit.wf, IntKind.min, IntKind.max, IntKind.signed, IntKind.bits] using hr)
end Go.Proofs.YtfdmnnbcnaofgaaDoor

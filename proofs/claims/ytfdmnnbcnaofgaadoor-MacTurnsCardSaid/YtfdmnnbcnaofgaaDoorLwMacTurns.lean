import Derived.Test.YtfdmnnbcnaofgaaDoorLwMacReads
namespace Go.Proofs.YtfdmnnbcnaofgaaDoor
open Go.RowKit
open Pk Sh
set_option linter.unusedVariables false

theorem macTurns_early (w : World) (hT : Tab w) (A B D : Option Addr) (n c m d p q : Nat) (f : Int × Int) (r count : Int) (h : 1000 < n + m ∨ 100 < p) (hn : n ≤ 140737488355328) (hm : m ≤ 140737488355328) (hp : p ≤ maxLen) :
    Calls Tryd.prog 9 #[.slice A n c, .agg #[.int .i64 f.1, .int .i64 f.2], .int .i64 r, .int .i64 count, .slice B m d, .slice D p q] w (Tr w) := by
  unfold maxLen at hp
  obtain ⟨f1, f2⟩ := f
  have b0 := (Below.refl w.heap.size w).alloc (Nat.le_refl _) (.cells #[.int .i64 f1, .int .i64 f2] 28)
  have HB0 := Lib.hid b0
  have HA := Lib.hid (alive_ok _ (hT.kept b0))
  clear hT b0
  by_cases h1 : (1000 : Int) < (n : Int) + (m : Int)
  · clear h
    go_enter Tryd.func9, Tryd.ntmps9
    go_wp2_with fail
    refine HA.out.mono ?_
    rintro e w1 ⟨rfl, hb1⟩
    have HB1 := Lib.hid (below_next HB0.out hb1 HB0.out.size)
    clear hb1
    go_wp2_with fail
    go_ret
    exact ⟨rfl, HB1.out⟩
  · have h2 : (100 : Int) < (p : Int) := by omega
    clear h
    go_enter Tryd.func9, Tryd.ntmps9
    go_wp2_with fail
    refine HA.out.mono ?_
    rintro e w1 ⟨rfl, hb1⟩
    have HB1 := Lib.hid (below_next HB0.out hb1 HB0.out.size)
    clear hb1
    go_wp2_with fail
    go_ret
    exact ⟨rfl, HB1.out⟩

theorem letterTag_none (s : List UInt8) (f : Int × Int) (r : Int) (body : List UInt8) (i : Nat) : letterTag s f r body [] i = tagN s f (r, (i : Int)) body := by
  unfold letterTag isIn
  simp
theorem turned_at {t : List UInt8} {k : Nat} (h : k < t.length) : (turned t).getD k 0 = t.getD k 0 ^^^ 255 := by
  simp [turned, List.getD, h]
/-- a tag for those that are bad, byte by byte -/
theorem letterTag_at (s : List UInt8) (f : Int × Int) (r : Int) (body : List UInt8) (bad : List Int) (i k : Nat) (hk : k < 16) :
    (letterTag s f r body bad i).getD k 0 = if isIn bad i then (letterTag s f r body [] i).getD k 0 ^^^ 255 else (letterTag s f r body [] i).getD k 0 := by
  rw [letterTag_none]
  unfold letterTag
  cases isIn bad i
  · simp
  · simp only [if_true]
    exact turned_at (by rw [tagN_len]; exact hk)

theorem rows_alloc {w : World} {o : Obj} {A : Option Addr} {n : Nat} {ls : List (List UInt8)} (h : RdRows w A n ls) : RdRows (w.alloc o) A n ls := h.below ((Below.refl _ _).alloc (Nat.le_refl _) _)
theorem rows_belowA {w w' : World} {o : Obj} {A : Option Addr} {n : Nat} {ls : List (List UInt8)} (h : RdRows w A n ls) (hb : Below (w.alloc o).heap.size (w.alloc o) w') : RdRows w' A n ls := (rows_alloc h).below hb
theorem rows_belowAD {w w' : World} {o : Obj} {A : Option Addr} {n : Nat} {ls : List (List UInt8)} (h : RdRows w A n ls) (hb : Below (w.alloc o).drew.heap.size (w.alloc o).drew w') : RdRows w' A n ls := rows_belowD (rows_alloc h) hb
theorem made_kept {Y w' : World} {o : Obj} (h : Below (Y.alloc o).heap.size (Y.alloc o) w') : Below Y.heap.size Y w' :=
  have b := (Below.refl Y.heap.size Y).alloc (Nat.le_refl _) o
  below_next b h b.size
theorem made_keptD {Y w' : World} {o : Obj} (h : Below (Y.alloc o).drew.heap.size (Y.alloc o).drew w') : Below Y.heap.size Y w' :=
  have b := below_drew ((Below.refl Y.heap.size Y).alloc (Nat.le_refl _) o)
  below_next b h b.size
theorem kept_on {Y X w' : World} (hb : Below Y.heap.size Y X) (h : Below X.heap.size X w') : Below Y.heap.size Y w' := below_next hb h hb.size
theorem kept_onD {Y X w' : World} (hb : Below Y.heap.size Y X) (h : Below X.drew.heap.size X.drew w') : Below Y.heap.size Y w' := below_next (below_drew hb) h (below_drew hb).size
/-- a letter that is stored into a block made ahead: what lay there before that block is as it was -/
theorem two_store {f1 f2 r : Int} {m N c1 d1 b : Nat} {A1 E : Option Addr} {body : List UInt8} {tags tags1 : List (List UInt8)} {w X Y : World} {a g1 : Nat} {t1 : TypeId} {cs cs1 : List Value} {P Q : Option Addr} {k j l : Nat} {bs : List UInt8}
    (kz : Bk X Y.heap.size 37 [.int .i64 0, .int .i64 0, .int .i64 0, .slice none 0 0, .slice none 0 0]) (la : OwnB X b A1 m c1 body) (lt : OwnRs X b E N d1 tags) (hw : Below w.heap.size w X) (hg : w.heap.size ≤ Y.heap.size)
    (kf : Bk X a 28 cs) (kb : Below Y.heap.size Y X) (fl0 : Bk Y g1 t1 cs1) (f1a0 : Sl Y P j k bs) (f1t0 : RdRows Y Q l tags1) :
    LetIn f1 f2 r m N body tags w (.pointer (some ⟨Y.heap.size, 0, none⟩)) (((((X.setCell ⟨Y.heap.size, 0, none⟩ (.int .i64 f1)).setCell ⟨Y.heap.size, 1, none⟩ (.int .i64 f2)).setCell ⟨Y.heap.size, 2, none⟩ (.int .i64 r)).setCell ⟨Y.heap.size, 3, none⟩ (.slice A1 m c1)).setCell ⟨Y.heap.size, 4, none⟩ (.slice E N d1)) ∧ Bk (((((X.setCell ⟨Y.heap.size, 0, none⟩ (.int .i64 f1)).setCell ⟨Y.heap.size, 1, none⟩ (.int .i64 f2)).setCell ⟨Y.heap.size, 2, none⟩ (.int .i64 r)).setCell ⟨Y.heap.size, 3, none⟩ (.slice A1 m c1)).setCell ⟨Y.heap.size, 4, none⟩ (.slice E N d1)) a 28 cs ∧ Bk (((((X.setCell ⟨Y.heap.size, 0, none⟩ (.int .i64 f1)).setCell ⟨Y.heap.size, 1, none⟩ (.int .i64 f2)).setCell ⟨Y.heap.size, 2, none⟩ (.int .i64 r)).setCell ⟨Y.heap.size, 3, none⟩ (.slice A1 m c1)).setCell ⟨Y.heap.size, 4, none⟩ (.slice E N d1)) g1 t1 cs1 ∧ Sl (((((X.setCell ⟨Y.heap.size, 0, none⟩ (.int .i64 f1)).setCell ⟨Y.heap.size, 1, none⟩ (.int .i64 f2)).setCell ⟨Y.heap.size, 2, none⟩ (.int .i64 r)).setCell ⟨Y.heap.size, 3, none⟩ (.slice A1 m c1)).setCell ⟨Y.heap.size, 4, none⟩ (.slice E N d1)) P j k bs ∧ RdRows (((((X.setCell ⟨Y.heap.size, 0, none⟩ (.int .i64 f1)).setCell ⟨Y.heap.size, 1, none⟩ (.int .i64 f2)).setCell ⟨Y.heap.size, 2, none⟩ (.int .i64 r)).setCell ⟨Y.heap.size, 3, none⟩ (.slice A1 m c1)).setCell ⟨Y.heap.size, 4, none⟩ (.slice E N d1)) Q l tags1 := by
  have k5 := below_set (below_set (below_set (below_set (below_set kb (Nat.le_refl _) 0 (.int .i64 f1)) (Nat.le_refl _) 1 (.int .i64 f2)) (Nat.le_refl _) 2 (.int .i64 r)) (Nat.le_refl _) 3 (.slice A1 m c1)) (Nat.le_refl _) 4 (.slice E N d1)
  exact ⟨let_store kz la lt hw hg, kf.five_far (bk_ne kf kz (by decide)) _ _ _ _ _, fl0.kept k5, f1a0.below k5, f1t0.below k5⟩
set_option maxHeartbeats 4000000 in
set_option maxRecDepth 100000 in
theorem macTurns_main (w : World) (hT : Tab w) (A B D : Option Addr) (n c m d p q : Nat) (s body : List UInt8) (f : Int × Int) (r count : Int) (bad : List Int) (h : Sl w A n c s) (hb : Sl w B m d body) (hi : Rd w D p (bad.map iv)) (hnm : n + m ≤ 1000) (hp : p ≤ 100) :
    Calls Tryd.prog 9 #[.slice A n c, .agg #[.int .i64 f.1, .int .i64 f.2], .int .i64 r, .int .i64 count, .slice B m d, .slice D p q] w (Tr w) := by
  obtain ⟨f1, f2⟩ := f
  have b0 := (Below.refl w.heap.size w).alloc (Nat.le_refl _) (.cells #[.int .i64 f1, .int .i64 f2] 28)
  have HB0 := Lib.hid b0
  have HA := Lib.hid (alive_ok _ (hT.kept b0))
  have h1 : ¬ (1000 : Int) < (n : Int) + (m : Int) := by omega
  have h2 : ¬ (100 : Int) < (p : Int) := by omega
  have HKF := Lib.hid (Bk.new w 28 [.int .i64 f1, .int .i64 f2])
  have HN := Lib.hid (show upTo count ≤ 64 by unfold upTo; omega)
  have HCB := Lib.hid (show ∀ X, Below w.heap.size w X → Calls Tryd.prog 14 #[.slice B m d] X (fun e w' => ∃ A' c', e = .returned (.slice A' m c') ∧ Sl w' A' m c' body ∧ Below w.heap.size w w' ∧ Below X.heap.size X w') from fun X hw => copy_new hb (by omega) X hw)
  have HCI := Lib.hid (show ∀ X, Below w.heap.size w X → Calls Tryd.prog 20 #[.slice D p q] X (fun e w' => ∃ A' c', e = .returned (.slice A' p c') ∧ Rd w' A' p (bad.map iv) ∧ Below w.heap.size w w' ∧ Below X.heap.size X w') from
    fun X hw => (copyInts_any D p q bad X (hi.below hw) (by omega)).mono fun e w' k => by
      obtain ⟨⟨A', c', he, ho⟩, hbb⟩ := k
      exact ⟨A', c', he, ho.rd, below_next hw hbb hw.size, hbb⟩)
  have HSA := Lib.hid (show ∀ A2 c2 X, Below w.heap.size w X → Sl X A2 m c2 body → Calls Tryd.prog 22 #[.slice A n c, .agg #[.int .i64 f1, .int .i64 f2], .int .i64 r, .int .i64 count, .slice A2 m c2, .slice none 0 0] X (fun e w' => ∃ A' c' E' d' b, e = .returned (.agg #[.int .i64 f1, .int .i64 f2, .int .i64 r, .slice A' m c', .slice E' (upTo count) d']) ∧ OwnB w' b A' m c' body ∧ OwnRs w' b E' (upTo count) d' (tagsN s (f1, f2) r body [] (upTo count)) ∧ Below w.heap.size w w' ∧ Below X.heap.size X w') from
    fun A2 c2 X hw g2 => seal_new (bad := []) X hw hT (h.below hw) g2 (Rd.nil_ _ _) (by omega) (by omega) (by omega))
  have HSE := Lib.hid (show ∀ A2 c2 A3 c3 X, Below w.heap.size w X → Sl X A2 m c2 body → Rd X A3 p (bad.map iv) → Calls Tryd.prog 22 #[.slice A n c, .agg #[.int .i64 f1, .int .i64 f2], .int .i64 r, .int .i64 count, .slice A2 m c2, .slice A3 p c3] X (fun e w' => ∃ A' c' E' d' b, e = .returned (.agg #[.int .i64 f1, .int .i64 f2, .int .i64 r, .slice A' m c', .slice E' (upTo count) d']) ∧ OwnB w' b A' m c' body ∧ OwnRs w' b E' (upTo count) d' (tagsN s (f1, f2) r body bad (upTo count)) ∧ Below w.heap.size w w' ∧ Below X.heap.size X w') from
    fun A2 c2 A3 c3 X hw g2 g3 => seal_new X hw hT (h.below hw) g2 g3 (by omega) (by omega) (by omega))
  have HI := Lib.hid hi
  have HPL := Lib.hid (show bad.length = p by simpa using hi.1)
  have HSB := Lib.hid (fun A' c' A'' c'' X (hw : Below w.heap.size w X) (g1 : Sl X A' m c' body) (g2 : Sl X A'' m c'' body) => same_new (w := w) (show m ≤ maxLen by simp only [maxLen]; omega) A' A'' m c' c'' X hw g1 g2)
  have HLA := Lib.hid (fun i (hi : i < upTo count) => tagsN_at s (f1, f2) r body [] hi)
  have HLB := Lib.hid (fun i (hi : i < upTo count) => tagsN_at s (f1, f2) r body bad hi)
  have HL16a := Lib.hid (fun i => letterTag_len s (f1, f2) r body [] i)
  have HL16b := Lib.hid (fun i => letterTag_len s (f1, f2) r body bad i)
  have HLAT := Lib.hid (fun i k hk => letterTag_at s (f1, f2) r body bad i k hk)
  clear hT h hb hi b0
  go_enter Tryd.func9, Tryd.ntmps9
  go_wp2_with fail
  refine HA.out.mono ?_
  rintro e w1 ⟨rfl, hb1⟩
  have hw : Below w.heap.size w w1 := below_next HB0.out hb1 HB0.out.size
  have kf : Bk w1 w.heap.size 28 [.int .i64 f1, .int .i64 f2] := HKF.out.kept hb1
  have hw1 := hw.size
  obtain ⟨ca0, ca1⟩ := kf.two
  clear hb1
  go_upto_region 5 with fail
  go_cut [13] from 33 to 39 (fun pv wx => LetIn f1 f2 r m (upTo count) body (tagsN s (f1, f2) r body [] (upTo count)) w pv wx ∧ Bk wx w.heap.size 28 [.int .i64 f1, .int .i64 f2])
  case first =>
    go_region_held3 (fun w' => w'.cell? ⟨w.heap.size, 0, none⟩ = some (.int .i64 f1) ∧ w'.cell? ⟨w.heap.size, 1, none⟩ = some (.int .i64 f2))
      (first | with_reducible exact kf.two | with_reducible exact (kf.alloc _).two | with_reducible exact (bk_drew (kf.alloc _)).two | go_keep | exact (kf.five_far (bk_ne kf kz (by decide)) _ _ _ _ _).two)
      (first
      | (go_at_call 14; with_reducible refine (HCB.out _ ?_).mono ?_
         focus first | with_reducible exact hw | with_reducible exact below_drew hw | with_reducible exact below_al hw | with_reducible exact below_drew (below_al hw)
         rintro e w' ⟨A4, c4, rfl, fb, hw', hx⟩
         first | replace fc := fc.below hx | replace fc := fc.belowD hx | replace fc := sl_belowA fc hx | replace fc := sl_belowAD fc hx | skip
         first | replace fb := fb.below hx | replace fb := fb.belowD hx | replace fb := sl_belowA fb hx | replace fb := sl_belowAD fb hx | skip
         first | replace fi := fi.below hx | replace fi := fi.belowD hx | replace fi := rd_belowA fi hx | replace fi := rd_belowAD fi hx | skip
         first | replace kf := kf.kept hx | replace kf := bk_keptD kf hx | replace kf := bk_keptA kf hx | replace kf := bk_keptAD kf hx | skip
         first | (have kz := kept_new hx; have hgz := hw.size) | (have kz := kept_newD hx; have hgz := hw.size) | replace kz := kz.kept hx | replace kz := bk_keptD kz hx | skip
         try
           obtain ⟨q0, q1, q2, q3, q4⟩ := kz.five
           have v0 := kz.frozen 0
           have v1 := kz.frozen 1
           have v2 := kz.frozen 2
           have v3 := kz.frozen 3
           have v4 := kz.frozen 4
         replace hw := hw'
         clear hw' hx)
      | (go_at_call 22; with_reducible refine (HSA.out _ _ _ ?_ ?_).mono ?_
         focus first | with_reducible exact hw | with_reducible exact below_drew hw | with_reducible exact below_al hw | with_reducible exact below_drew (below_al hw)
         focus first | with_reducible exact fb | with_reducible exact fb.drew | with_reducible exact fb.alloc _ | with_reducible exact (fb.alloc _).drew
         rintro e w' ⟨A5, c5, E5, d5, b5, rfl, la, lt, hw', hx⟩
         first | replace fc := fc.below hx | replace fc := fc.belowD hx | replace fc := sl_belowA fc hx | replace fc := sl_belowAD fc hx | skip
         first | replace fb := fb.below hx | replace fb := fb.belowD hx | replace fb := sl_belowA fb hx | replace fb := sl_belowAD fb hx | skip
         first | replace fi := fi.below hx | replace fi := fi.belowD hx | replace fi := rd_belowA fi hx | replace fi := rd_belowAD fi hx | skip
         first | replace kf := kf.kept hx | replace kf := bk_keptD kf hx | replace kf := bk_keptA kf hx | replace kf := bk_keptAD kf hx | skip
         first | (have kz := kept_new hx; have hgz := hw.size) | (have kz := kept_newD hx; have hgz := hw.size) | replace kz := kz.kept hx | replace kz := bk_keptD kz hx | skip
         try
           obtain ⟨q0, q1, q2, q3, q4⟩ := kz.five
           have v0 := kz.frozen 0
           have v1 := kz.frozen 1
           have v2 := kz.frozen 2
           have v3 := kz.frozen 3
           have v4 := kz.frozen 4
         replace hw := hw'
         clear hw' hx))
    all_goals
      go_wp2_with fail
      go_meet
      first
        | with_reducible exact ⟨let_alloc la lt hw, kf.alloc _⟩
        | exact ⟨let_store kz la lt hw hgz, kf.five_far (bk_ne kf kz (by decide)) _ _ _ _ _⟩
  case rest =>
    obtain ⟨⟨g1, A1, c1, E1, d1, rfl, kl1, la1, lt1, hw2, hg1⟩, kf2⟩ := hcut
    clear kf hw ca0 ca1
    have hw := hw2
    have kf := kf2
    have fl := kl1
    have f1a := la1
    have f1t := lt1
    obtain ⟨ca0, ca1⟩ := kf.two
    clear hw2 kf2 kl1 la1 lt1
    go_upto_region 6 with fail
    go_cut [14] from 40 to 48 (fun pv wx => LetIn f1 f2 r m (upTo count) body (tagsN s (f1, f2) r body bad (upTo count)) w pv wx ∧ Bk wx w.heap.size 28 [.int .i64 f1, .int .i64 f2] ∧ Bk wx g1 37 [.int .i64 f1, .int .i64 f2, .int .i64 r, .slice A1 m c1, .slice E1 (upTo count) d1] ∧ Sl wx A1 m c1 body ∧ RdRows wx E1 (upTo count) (tagsN s (f1, f2) r body [] (upTo count)))
    case first =>
      go_region_held3 (fun w' => w'.cell? ⟨w.heap.size, 0, none⟩ = some (.int .i64 f1) ∧ w'.cell? ⟨w.heap.size, 1, none⟩ = some (.int .i64 f2))
        (first | with_reducible exact kf.two | with_reducible exact (kf.alloc _).two | with_reducible exact (bk_drew (kf.alloc _)).two | go_keep | exact (kf.five_far (bk_ne kf kz (by decide)) _ _ _ _ _).two)
        (first
        | (go_at_call 14; with_reducible refine (HCB.out _ ?_).mono ?_
           focus first | with_reducible exact hw | with_reducible exact below_drew hw | with_reducible exact below_al hw | with_reducible exact below_drew (below_al hw)
           rintro e w' ⟨A4, c4, rfl, fb, hw', hx⟩
           first | (have kz := kept_new hx; have hgz := hw.size; have kb := made_kept hx; have fl0 := fl; have f1a0 := f1a; have f1t0 := f1t) | (have kz := kept_newD hx; have hgz := hw.size; have kb := made_keptD hx; have fl0 := fl; have f1a0 := f1a; have f1t0 := f1t) | (replace kz := kz.kept hx; replace kb := kept_on kb hx) | (replace kz := bk_keptD kz hx; replace kb := kept_onD kb hx) | skip
           try
             obtain ⟨q0, q1, q2, q3, q4⟩ := kz.five
             have v0 := kz.frozen 0
             have v1 := kz.frozen 1
             have v2 := kz.frozen 2
             have v3 := kz.frozen 3
             have v4 := kz.frozen 4
           first | replace fc := fc.below hx | replace fc := fc.belowD hx | replace fc := sl_belowA fc hx | replace fc := sl_belowAD fc hx | skip
           first | replace fb := fb.below hx | replace fb := fb.belowD hx | replace fb := sl_belowA fb hx | replace fb := sl_belowAD fb hx | skip
           first | replace fi := fi.below hx | replace fi := fi.belowD hx | replace fi := rd_belowA fi hx | replace fi := rd_belowAD fi hx | skip
           first | replace kf := kf.kept hx | replace kf := bk_keptD kf hx | replace kf := bk_keptA kf hx | replace kf := bk_keptAD kf hx | skip
           first | replace fl := fl.kept hx | replace fl := bk_keptD fl hx | replace fl := bk_keptA fl hx | replace fl := bk_keptAD fl hx | skip
           first | replace f1a := f1a.below hx | replace f1a := f1a.belowD hx | replace f1a := sl_belowA f1a hx | replace f1a := sl_belowAD f1a hx | skip
           first | replace f1t := f1t.below hx | replace f1t := rows_belowD f1t hx | replace f1t := rows_belowA f1t hx | replace f1t := rows_belowAD f1t hx | skip
           replace hw := hw'
           clear hw' hx)
        | (go_at_call 20; with_reducible refine (HCI.out _ ?_).mono ?_
           focus first | with_reducible exact hw | with_reducible exact below_drew hw | with_reducible exact below_al hw | with_reducible exact below_drew (below_al hw)
           rintro e w' ⟨A4, c4, rfl, fi, hw', hx⟩
           first | (have kz := kept_new hx; have hgz := hw.size; have kb := made_kept hx; have fl0 := fl; have f1a0 := f1a; have f1t0 := f1t) | (have kz := kept_newD hx; have hgz := hw.size; have kb := made_keptD hx; have fl0 := fl; have f1a0 := f1a; have f1t0 := f1t) | (replace kz := kz.kept hx; replace kb := kept_on kb hx) | (replace kz := bk_keptD kz hx; replace kb := kept_onD kb hx) | skip
           try
             obtain ⟨q0, q1, q2, q3, q4⟩ := kz.five
             have v0 := kz.frozen 0
             have v1 := kz.frozen 1
             have v2 := kz.frozen 2
             have v3 := kz.frozen 3
             have v4 := kz.frozen 4
           first | replace fc := fc.below hx | replace fc := fc.belowD hx | replace fc := sl_belowA fc hx | replace fc := sl_belowAD fc hx | skip
           first | replace fb := fb.below hx | replace fb := fb.belowD hx | replace fb := sl_belowA fb hx | replace fb := sl_belowAD fb hx | skip
           first | replace fi := fi.below hx | replace fi := fi.belowD hx | replace fi := rd_belowA fi hx | replace fi := rd_belowAD fi hx | skip
           first | replace kf := kf.kept hx | replace kf := bk_keptD kf hx | replace kf := bk_keptA kf hx | replace kf := bk_keptAD kf hx | skip
           first | replace fl := fl.kept hx | replace fl := bk_keptD fl hx | replace fl := bk_keptA fl hx | replace fl := bk_keptAD fl hx | skip
           first | replace f1a := f1a.below hx | replace f1a := f1a.belowD hx | replace f1a := sl_belowA f1a hx | replace f1a := sl_belowAD f1a hx | skip
           first | replace f1t := f1t.below hx | replace f1t := rows_belowD f1t hx | replace f1t := rows_belowA f1t hx | replace f1t := rows_belowAD f1t hx | skip
           replace hw := hw'
           clear hw' hx)
        | (go_at_call 22; with_reducible refine (HSE.out _ _ _ _ _ ?_ ?_ ?_).mono ?_
           focus first | with_reducible exact hw | with_reducible exact below_drew hw | with_reducible exact below_al hw | with_reducible exact below_drew (below_al hw)
           focus first | with_reducible exact fb | with_reducible exact fb.drew | with_reducible exact fb.alloc _ | with_reducible exact (fb.alloc _).drew
           focus first | with_reducible exact fi | with_reducible exact fi.drew | with_reducible exact fi.alloc _ | with_reducible exact (fi.alloc _).drew
           rintro e w' ⟨A5, c5, E5, d5, b5, rfl, la, lt, hw', hx⟩
           first | (have kz := kept_new hx; have hgz := hw.size; have kb := made_kept hx; have fl0 := fl; have f1a0 := f1a; have f1t0 := f1t) | (have kz := kept_newD hx; have hgz := hw.size; have kb := made_keptD hx; have fl0 := fl; have f1a0 := f1a; have f1t0 := f1t) | (replace kz := kz.kept hx; replace kb := kept_on kb hx) | (replace kz := bk_keptD kz hx; replace kb := kept_onD kb hx) | skip
           try
             obtain ⟨q0, q1, q2, q3, q4⟩ := kz.five
             have v0 := kz.frozen 0
             have v1 := kz.frozen 1
             have v2 := kz.frozen 2
             have v3 := kz.frozen 3
             have v4 := kz.frozen 4
           first | replace fc := fc.below hx | replace fc := fc.belowD hx | replace fc := sl_belowA fc hx | replace fc := sl_belowAD fc hx | skip
           first | replace fb := fb.below hx | replace fb := fb.belowD hx | replace fb := sl_belowA fb hx | replace fb := sl_belowAD fb hx | skip
           first | replace fi := fi.below hx | replace fi := fi.belowD hx | replace fi := rd_belowA fi hx | replace fi := rd_belowAD fi hx | skip
           first | replace kf := kf.kept hx | replace kf := bk_keptD kf hx | replace kf := bk_keptA kf hx | replace kf := bk_keptAD kf hx | skip
           first | replace fl := fl.kept hx | replace fl := bk_keptD fl hx | replace fl := bk_keptA fl hx | replace fl := bk_keptAD fl hx | skip
           first | replace f1a := f1a.below hx | replace f1a := f1a.belowD hx | replace f1a := sl_belowA f1a hx | replace f1a := sl_belowAD f1a hx | skip
           first | replace f1t := f1t.below hx | replace f1t := rows_belowD f1t hx | replace f1t := rows_belowA f1t hx | replace f1t := rows_belowAD f1t hx | skip
           replace hw := hw'
           clear hw' hx))
      all_goals
        go_wp2_with fail
        go_meet
        first
          | with_reducible exact ⟨let_alloc la lt hw, kf.alloc _, fl.alloc _, f1a.alloc _, rows_alloc f1t⟩
          | exact two_store kz la lt hw hgz kf kb fl0 f1a0 f1t0
    case rest =>
      obtain ⟨⟨g2, A2, c2, E2, d2, rfl, kl2, la2, lt2, hw3, hg2⟩, _, kl1, la1, lt1⟩ := hcut
      obtain ⟨cl0, cl1, cl2, cl3, cl4⟩ := kl1.five
      obtain ⟨cm0, cm1, cm2, cm3, cm4⟩ := kl2.five
      have hrr : (r != r) = false := by simp
      have HK1 := Lib.hid kl1
      have HK2 := Lib.hid kl2
      have HA1 := Lib.hid la1
      have HA2 := Lib.hid la2
      have HT1 := Lib.hid lt1
      have HT2 := Lib.hid lt2
      have HW3 := Lib.hid hw3
      clear kl1 kl2 la1 la2 lt1 lt2 hw3 hw ca0 ca1 kf fl f1a f1t
      go_wp2_with fail
      refine (HSB.out A1 c1 A2 c2 _ HW3.out HA1.out HA2.out).mono ?_
      rintro e w5 ⟨rfl, hw5, hx5⟩
      have kl1 := HK1.out.kept hx5
      have kl2 := HK2.out.kept hx5
      have HR1 := Lib.hid (HT1.out.below hx5)
      have HR2 := Lib.hid (HT2.out.below hx5)
      have HW5 := Lib.hid hw5
      clear cl0 cl1 cl2 cl3 cl4 cm0 cm1 cm2 cm3 cm4 hrr hw5 hx5 HK1 HK2 HA1 HA2 HT1 HT2 HW3
      obtain ⟨cl0, cl1, cl2, cl3, cl4⟩ := kl1.five
      obtain ⟨cm0, cm1, cm2, cm3, cm4⟩ := kl2.five
      have HK1 := Lib.hid kl1
      have HK2 := Lib.hid kl2
      clear kl1 kl2
      go_wp2_with fail
      clear cl0 cl1 cl2 cl3 cl4 cm0 cm1 cm2 cm3 cm4
      go_loopw [15] (fun i wr => ∃ k : Nat, k ≤ upTo count ∧ i = .int .i64 k ∧ Bk wr g1 37 [.int .i64 f1, .int .i64 f2, .int .i64 r, .slice A1 m c1, .slice E1 (upTo count) d1] ∧ Bk wr g2 37 [.int .i64 f1, .int .i64 f2, .int .i64 r, .slice A2 m c2, .slice E2 (upTo count) d2] ∧ RdRows wr E1 (upTo count) (tagsN s (f1, f2) r body [] (upTo count)) ∧ RdRows wr E2 (upTo count) (tagsN s (f1, f2) r body bad (upTo count)) ∧ Below w.heap.size w wr) (fun i _ => upTo count - (intOf i).toNat)
      case atStart => exact ⟨0, by omega, rfl, HK1.out, HK2.out, HR1.out, HR2.out, HW5.out⟩
      case round =>
        clear HK1 HK2 HR1 HR2 HW5
        obtain ⟨wo, hwo⟩ : ∃ wo, wo = wr := ⟨_, rfl⟩
        rw [← hwo] at hrel ⊢
        clear hwo
        obtain ⟨k, hk, rfl, kl1, kl2, lt1, lt2, hw⟩ := hrel
        obtain ⟨cl0, cl1, cl2, cl3, cl4⟩ := kl1.five
        obtain ⟨cm0, cm1, cm2, cm3, cm4⟩ := kl2.five
        have HK1 := Lib.hid kl1
        have HK2 := Lib.hid kl2
        have HW := Lib.hid hw
        have HI1 := Lib.hid (HI.out.below HW.out)
        clear kl1 kl2 hw
        by_cases hkN : k < upTo count
        · obtain ⟨a1, B1, e1, hE1, _, hc1, _, _, hr1, _⟩ := lt1.at_ hkN
          obtain ⟨a2, B2, e2, hE2, _, hc2, _, _, hr2, _⟩ := lt2.at_ hkN
          subst hE1 hE2
          rw [HLA.out k hkN, HL16a.out k] at hc1 hr1
          rw [HLB.out k hkN, HL16b.out k] at hc2 hr2
          have HKN := Lib.hid hkN
          have HR1 := Lib.hid lt1
          have HR2 := Lib.hid lt2
          have HBa := Lib.hid hr1
          have HBb := Lib.hid hr2
          have HAT := Lib.hid (HLAT.out k)
          have hk64 : (k : Int) < 64 := by have := HN.out; omega
          have hinext : IntKind.i64.wrap ((k : Int) + 1) = (k : Int) + 1 := by simp only [IntKind.wrap, IntKind.bits, IntKind.signed]; simp; omega
          have q1 : (0 : Int) ≤ (k : Int) := by omega
          have q2 : (k : Int) < (upTo count : Int) := by omega
          clear lt1 lt2 hr1 hr2
          go_wp2_with fail
          go_loop [16, 17] (fun b i => ∃ j : Nat, j ≤ p ∧ i = .int .i64 j ∧ b = .bool (inL (bad.take j) (k : Int))) (fun _ i => p - (intOf i).toNat)
          case atStart => exact ⟨0, by omega, rfl, rfl⟩
          case round =>
            obtain ⟨j, hj, rfl, rfl⟩ := hrel
            by_cases hjp : j < p
            · have hjl : j < bad.length := by rw [HPL.out]; exact hjp
              obtain ⟨a, rfl, _, hc⟩ := HI1.out.at_ hjp
              have gx : (bad.map iv).getD j undef = .int .i64 bad[j] := by
                rw [getD_eq (by simpa using hjl)]; simp [iv]
              rw [gx] at hc
              have y1 : (0 : Int) ≤ (j : Int) := by omega
              have y2 : (j : Int) < (p : Int) := by omega
              have hnext : inL (bad.take (j + 1)) (k : Int) = (inL (bad.take j) (k : Int) || decide (bad[j] = (k : Int))) := by
                unfold inL
                rw [List.take_succ_eq_append_getElem hjl, List.any_append]
                simp
              generalize bad[j] = v at *
              clear gx
              cases hb : inL (bad.take j) (k : Int)
              · rw [hb, Bool.false_or] at hnext
                have HNX := Lib.hid hnext
                clear hnext hb
                by_cases hv : v = (k : Int)
                · have hve : (v == (k : Int)) = true := by simp [hv]
                  have HDV := Lib.hid (show decide (v = (k : Int)) = true by simp [hv])
                  clear hv
                  go_wp2
                  go_round
                  case rel => exact ⟨j + 1, by omega, by go_num, by rw [HNX.out, HDV.out]⟩
                  case measure => simp [intOf]; omega
                · have hve : (v == (k : Int)) = false := by simp [hv]
                  have HDV := Lib.hid (show decide (v = (k : Int)) = false by simp [hv])
                  clear hv
                  go_wp2
                  go_round
                  case rel => exact ⟨j + 1, by omega, by go_num, by rw [HNX.out, HDV.out]⟩
                  case measure => simp [intOf]; omega
              · rw [hb, Bool.true_or] at hnext
                have HNX := Lib.hid hnext
                clear hnext hb
                go_wp2
                go_round
                case rel => exact ⟨j + 1, by omega, by go_num, by rw [HNX.out]⟩
                case measure => simp [intOf]; omega
            · have ej : bad.take j = bad := List.take_of_length_le (by have := HPL.out; omega)
              rw [ej, inL_isIn]
              clear ej
              obtain ⟨t, ht⟩ : ∃ t : Bool, t = isIn bad k := ⟨_, rfl⟩
              rw [← ht]
              have HTT := Lib.hid ht.symm
              clear ht
              go_wp2_with fail
              go_quiet (fail)
              go_wp2_with fail
              go_loop [18] (fun i => ∃ z : Nat, z ≤ 16 ∧ i = .int .i64 z) (fun i => 16 - (intOf i).toNat)
              case atStart => exact ⟨0, by omega, rfl⟩
              case round =>
                obtain ⟨z, hz, rfl⟩ := hrel
                by_cases hz16 : z < 16
                · obtain ⟨b1, hB1, _, hd1⟩ := HBa.out.at_ hz16
                  obtain ⟨b2, hB2, _, hd2⟩ := HBb.out.at_ hz16
                  subst hB1 hB2
                  rw [getD_eq (by rw [List.length_map, HL16a.out k]; exact hz16), List.getElem_map] at hd1
                  rw [getD_eq (by rw [List.length_map, HL16b.out k]; exact hz16), List.getElem_map] at hd2
                  have hat := HAT.out z hz16
                  rw [getD_eq (by rw [HL16b.out k]; exact hz16), getD_eq (by rw [HL16a.out k]; exact hz16), HTT.out] at hat
                  generalize (letterTag s (f1, f2) r body [] k)[z]'_ = x at hd1 hat
                  generalize (letterTag s (f1, f2) r body bad k)[z]'_ = y at hd2 hat
                  subst hat
                  have z1 : (0 : Int) ≤ (z : Int) := by omega
                  have z2 : (z : Int) < 16 := by omega
                  simp only [bv] at hd1 hd2
                  cases t
                  · simp only [Bool.false_eq_true, if_false] at hd2
                    go_wp2
                    go_round
                    case rel => exact ⟨z + 1, by omega, by go_num⟩
                    case measure => simp [intOf]; omega
                  · simp only [if_true] at hd2
                    have hx : bits .xor .u8 (x.toNat : Int) 255 = ((x ^^^ 255).toNat : Int) := xor_u8 _ 255
                    go_wp2
                    go_round
                    case rel => exact ⟨z + 1, by omega, by go_num⟩
                    case measure => simp [intOf]; omega
                · have ez : z = 16 := by omega
                  subst ez
                  go_wp2_with fail
                  go_roundw
                  case rel => exact ⟨k + 1, by have := HKN.out; omega, by go_num, HK1.out.drewN _, HK2.out.drewN _, HR1.out.below (below_drewN (Below.refl _ _) _), HR2.out.below (below_drewN (Below.refl _ _) _), below_drewN HW.out _⟩
                  case measure => have := HKN.out; simp [intOf]; omega
        · have ek : k = upTo count := by omega
          subst ek
          go_wp2_with fail
          go_ret
          exact ⟨rfl, HW.out⟩

theorem macTurns_walk (w : World) (hT : Tab w) (v0 : Value) (s : List UInt8) (h0 : InBs w v0 s) (v1 : Value) (f : Int × Int) (h1 : InId w v1 f) (r : Int) (hr : (Lit.int .i64 r).wf = true) (count : Int) (hc : (Lit.int .i64 count).wf = true) (v4 : Value) (body : List UInt8) (h4 : InBs w v4 body) (v5 : Value) (bad : List Int) (h5 : InI w v5 bad) :
    Calls Tryd.prog 9 #[v0, v1, .int .i64 r, .int .i64 count, v4, v5] w (Tr w) := by
  obtain ⟨⟨A, n, c, rfl, hs⟩, hz0⟩ := h0
  rw [Sl.len (w := w) (A := A) (c := c) hs] at hz0
  obtain ⟨rfl, _, _⟩ := h1
  obtain ⟨⟨B, m, d, rfl, hs2⟩, hz1⟩ := h4
  rw [Sl.len (w := w) (A := B) (c := d) hs2] at hz1
  obtain ⟨D, p, q, rfl, hpq, hqm, hrd, _⟩ := h5
  by_cases h : 1000 < n + m ∨ 100 < p
  · exact macTurns_early w hT A B D n c m d p q f r count h hz0 hz1 (Nat.le_trans hpq hqm)
  · exact macTurns_main w hT A B D n c m d p q s body f r count bad hs hs2 hrd (by omega) (by omega)
end Go.Proofs.YtfdmnnbcnaofgaaDoor

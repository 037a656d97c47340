/- What cut of package hold does. -/
import Derived.Test.YtmgfakfiiaeofaaGreatHoCont
import Derived.Lib.SliceRun
/- What Make of package hold does. -/
namespace Go.Proofs.YtmgfakfiiaeofaaGreat.Ho
open Go.RowKit Go.Sort
def upd (T : Tab) (i : Int) (r : Rc) : Tab := fun k => if k = i then some r else T k
def newOb (id kind quota d : Int) (xs : List (Int × Int)) : Ob := ⟨id, kind, quota, 0, 1, d, xs, []⟩
set_option maxRecDepth 100000 in
set_option maxHeartbeats 1000000 in
theorem Make_ok {w : World} {base tb mb : Nat} {D : DataW Unit} {T : Tab} (h : TAt w base tb mb D T) (i id kind quota d : Int) (p : Option Addr) (cap : Nat) (xs : List (Int × Int)) (r : Rc)
 (hm : xs.length * 16 <= 140737488355328) (hc : CatsAt w p xs) (hi : i64 i) (hT : T i = some r) (hk : r.ob.kind = 1) (hkd : 1 <= kind /\ kind <= 6) (hq : 1 <= quota /\ quota <= 1099511627776)
 (hf : fitsS d (low kind) xs = true) (hid : isCt id = true) (hno : T id = none) (hsz : Maps.size D < 4096) (hqr : quota <= r.ob.quota - r.ob.used) (hu : 0 <= r.ob.used) (hqq : r.ob.quota <= 1099511627776) (hn : r.ob.ents.length < 1000000) :
 Calls Tryz.prog 16 #[.pointer (some ⟨tb, 0, none⟩), .int .i64 i, .int .i64 id, .int .i64 kind, .int .i64 quota, .agg #[.int .i64 d, .slice p xs.length cap]] w fun e w' =>
  e = .returned (.int .i64 0) /\ ∃ D' r' s', TAt w' base tb mb D' (upd (upd T i r') id s') /\ r'.ob = { r.ob with used := r.ob.used + quota, ents := r.ob.ents ++ [id] } /\ s'.ob = newOb id kind quota d xs /\ Maps.size D' = Maps.size D + 1 /\ Fm w w' (tfoot tb mb T) (tfoot tb mb (upd (upd T i r') id s')) := by
 have hW1 : Below w.heap.size w (w.alloc (.cells #[.int .i64 d, .slice p xs.length cap] 46)) := by go_grown
 have hir : i64 id := by have := hid; unfold isCt at this; simp at this; unfold i64; omega
 have hcp : contP T i = .pointer (some ⟨r.B, 0, none⟩) := by unfold contP contE fnd; rw [hT]; simp [hk]
 have hce : contE T i = 0 := by unfold contE; rw [hT]; simp [hk]
 have HCo := container_any (h.below hW1) i hi
 rw [hcp, hce] at HCo
 have HC := Lib.hid HCo
 have k0 : (w.alloc (.cells #[.int .i64 d, .slice p xs.length cap] 46)).cell? ⟨w.heap.size, 0, none⟩ = some (.int .i64 d) := by simp [go_sem]
 have k1 : (w.alloc (.cells #[.int .i64 d, .slice p xs.length cap] 46)).cell? ⟨w.heap.size, 1, none⟩ = some (.slice p xs.length cap) := by simp [go_sem]
 have hc1 := hc.below hW1
 have HL := Lib.hid (fun W => lowest_any kind W)
 have HI := Lib.hid (isId_any id)
 rw [hid] at HI
 have HH := Lib.hid (h.below hW1)
 have HCt := Lib.hid hc1
 clear HCo h hc hc1
 obtain ⟨W1, hWe⟩ : ∃ W1, w.alloc (.cells #[.int .i64 d, .slice p xs.length cap] 46) = W1 := ⟨_, rfl⟩
 rw [hWe] at k0 k1 hW1 HC HH HCt
 have g1 : ¬ kind < 1 := by omega
 have g2 : ¬ 6 < kind := by omega
 have g3 : ¬ quota < 1 := by omega
 have g4 : ¬ 1099511627776 < quota := by omega
 go_enter Tryz.func16, Tryz.ntmps16
 go_wp2_with (first
  | (go_at_call 34; refine HC.out.mono ?_; rintro e w1 ⟨rfl, hw1⟩; rw [hw1]; clear hw1 w1))
 have b3 : decide (quota < 1) = false := by simpa using g3
 have b4 : decide (1099511627776 < quota) = false := by simpa using g4
 have hs1 : w.heap.size < W1.heap.size := by rw [<- hWe]; simp
 have K0 := cell_gx (a := ⟨w.heap.size, 0, none⟩) hs1 k0
 have K1 := cell_gx (a := ⟨w.heap.size, 1, none⟩) hs1 k1
 have HFt : Hid (∀ n os, Calls Tryz.prog 32 #[.agg #[.int .i64 d, .slice p xs.length cap], .int .i64 (low kind)] (gx W1 n os) fun e w' => e = .returned (.bool true) /\ RowKit.Below (gx W1 n os).heap.size (gx W1 n os) w') := fun n os => by
  have := fits_any d (low kind) p cap xs (gx W1 n os) (by unfold maxLen; omega) (HCt.out.below (gx_below _ _ _))
  rwa [hf] at this
 have HLo : Hid (∀ n os, Calls Tryz.prog 35 #[.int .i64 kind] (gx W1 n os) fun e w' => e = .returned (.int .i64 (low kind)) /\ RowKit.Below (gx W1 n os).heap.size (gx W1 n os) w') := fun n os => (HL.out _).mono fun e w' ⟨h1, h2⟩ => ⟨h1, by rw [h2]; exact Below.refl _ _⟩
 refine wp_region_quiet_gx (by kernel_rfl) (by kernel_rfl) ?_
 repeat (quiet_step (first
  | (go_at_call 32; exact calls_gx (HFt.out _ _))
  | (go_at_call 35; exact calls_gx (HLo.out _ _))))
 refine wpQuiet_nil ?_
 intro _ hw'
 obtain ⟨⟨nq, osq⟩, hw''⟩ := hw'
 subst hw''
 have hb2 : RowKit.Below W1.heap.size W1 (gx W1 nq osq) := gx_below _ _ _
 simp only
 generalize gx W1 nq osq = W2 at hb2 |-
 clear K0 K1 HFt HLo
 have hz1 : w.heap.size + 1 = W1.heap.size := by rw [<- hWe]; simp
 have HH2 := Lib.hid (HH.out.below hb2)
 have HFi := find_any HH2.out id hir
 rw [show fnd T id = .pointer none from by unfold fnd; rw [hno]; rfl] at HFi
 have HF2 := Lib.hid HFi
 have HLn := Lib.hid (Len_any HH2.out)
 have HRm := Lib.hid (room_any (HH2.out.obj i r hT).1 (by unfold i64; omega))
 have g5 : ¬ (4096 : Int) <= (Maps.size D : Int) := by omega
 have g6 : ¬ r.ob.quota - r.ob.used < quota := by omega
 have m0 := (hb2.cell (p := ⟨w.heap.size, 0, none⟩) (by simp; omega)).trans k0
 have m1 := (hb2.cell (p := ⟨w.heap.size, 1, none⟩) (by simp; omega)).trans k1
 clear HFi
 go_wp2_with (first
  | (go_at_call 31; refine (HI.out _).mono ?_; rintro e w1 ⟨rfl, hw1⟩; rw [hw1]; clear hw1 w1)
  | (go_at_call 36; refine HF2.out.mono ?_; rintro e w1 ⟨rfl, hw1⟩; rw [hw1]; clear hw1 w1)
  | (go_at_call 37; refine HLn.out.mono ?_; rintro e w1 ⟨rfl, hw1⟩; rw [hw1]; clear hw1 w1)
  | (go_at_call 38; refine HRm.out.mono ?_; rintro e w3 ⟨rfl, q3, hw3⟩; have hb3 : RowKit.Below W2.heap.size W2 w3 := (by rw [hw3]; exact ⟨rfl, rfl, rfl, Nat.le_refl _, fun _ _ => rfl⟩); have hz3 : w3.heap.size = W2.heap.size := (by rw [hw3]; rfl); clear hw3; refine Hid.out ?_))
 refine Lib.hid ?_
 clear HF2 HLn HRm
 have HH3 := Lib.hid (HH2.out.below hb3)
 have n0 := (hb3.cell (p := ⟨w.heap.size, 0, none⟩) (by have := hb2.size; simp; omega)).trans m0
 have n1 := (hb3.cell (p := ⟨w.heap.size, 1, none⟩) (by have := hb2.size; simp; omega)).trans m1
 have HO := Lib.hid (newObject_any id kind quota d p cap xs w3 hm ((HCt.out.below hb2).below hb3))
 go_wp2_with (first
  | (go_at_call 33; refine HO.out.mono ?_; rintro e w4 ⟨B, cv, rfl, hB4, hlow4, hr4, hb4⟩; refine Hid.out ?_))
 refine Lib.hid ?_
 have HH4 := Lib.hid (HH3.out.below hb4)
 have u0 : w4.cell? ⟨tb, 0, none⟩ = some (.map (some mb)) := by simp [World.cell?, HH4.out.blk]
 obtain ⟨w5, hup, hm5, hg5⟩ := HH4.out.map.update keyedI um (by unfold maxLen; omega) (keyI hir) (val := .pointer (some ⟨B, 0, none⟩)) (d := .lit (.int .i64 (B : Int))) (ps := []) rfl
 have HB4 := Lib.hid hB4
 have HR4 := Lib.hid hr4
 have HM5 := Lib.hid hm5
 have HG5 := Lib.hid hg5
 clear hB4 hr4 hm5 hg5
 have h34 : w3.heap.size <= w4.heap.size := hb4.size
 have hBl : B < w4.heap.size := (Array.getElem?_eq_some_iff.1 HB4.out).1
 have hmbl : mb < w3.heap.size := HH3.out.map.lt
 have htbl : tb < w3.heap.size := (HH3.out.lt (.inl rfl)).2
 have hbase : base <= w3.heap.size := by have := (HH3.out.lt (.inl rfl)).1; omega
 have hw5 : ∀ k, k < w4.heap.size -> k ≠ mb -> w5.heap[k]? = w4.heap[k]? := fun k hk hne => HG5.out.block k hk (by simpa using hne)
 have hz5 := HG5.out.size
 obtain ⟨s, hs⟩ : ∃ s : Rc, (⟨B, cv, .slice none 0 0, ⟨id, kind, quota, 0, 0, d, xs, []⟩⟩ : Rc) = s := ⟨_, rfl⟩
 have hsB : s.B = B := by rw [<- hs]
 have hfs : ∀ k, foot s k -> w3.heap.size <= k := fun k hk => by
  rw [<- hs] at hk
  rcases hk with h | h | h
  · show w3.heap.size <= k; rw [h]; exact hlow4
  · exact (HR4.out.lt k h).1
  · cases h
 have hs5 : RAt w5 base s := by
  rw [<- hs]
  refine ⟨(hw5 B hBl (by omega)).trans HB4.out, ?_, World.ownsRow_nil _ _ _ _, by show base <= B; omega⟩
  exact row_mono (row_same HR4.out (fun k hk => hw5 k (HR4.out.lt k hk).2 (by have := (HR4.out.lt k hk).1; omega))) hbase
 have hfr : ∀ j t, T j = some t -> ∀ k, foot t k -> k < w3.heap.size /\ k ≠ mb := fun j t ht k hk => ⟨((HH3.out.obj j t ht).1.lt hk).2, fun e => by subst e; exact (HH3.out.obj j t ht).1.mbF HH3.out.map hk⟩
 have hT5 : ∀ j t, T j = some t -> RAt w5 base t := fun j t ht => (HH4.out.obj j t ht).1.same (fun k hk => hw5 k (by have := (hfr j t ht k hk).1; omega) (hfr j t ht k hk).2)
 have HK := Lib.hid (link_any base r s w5 (hT5 i r hT) hs5 (fun k h1 h2 => by have := (hfr i r hT k h1).1; have := hfs k h2; omega) hn (by rw [<- hs]; show i64 (r.ob.used + quota); unfold i64; omega) (by rw [<- hs]; show i64 (0 + 1); unfold i64; omega))
 rw [hsB] at HK
 have HHs := Lib.hid hs
 have HHf := Lib.hid hfs
 have HT5 := Lib.hid hT5
 have HFR := Lib.hid hfr
 have HW5 := Lib.hid hw5
 clear hs hfs hT5 hfr hs5 hw5
 go_wp2_with (first | (go_at_call 39; refine HK.out.mono ?_; rintro e w6 ⟨⟨v6, rfl⟩, iv, hr6, hs6, hnew6, hF6⟩; have HR6 := Lib.hid hr6; have HS6 := Lib.hid hs6; have HN6 := Lib.hid hnew6; have HF6 := Lib.hid hF6; clear hr6 hs6 hnew6 hF6))
 go_ret
 have hne : i ≠ id := fun e => by rw [<- e, hT] at hno; cases hno
 have hso : s.ob = ⟨id, kind, quota, 0, 0, d, xs, []⟩ := by rw [<- HHs.out]
 have hw6 : ∀ k, k < w5.heap.size -> ¬ foot r k -> ¬ foot s k -> w6.heap[k]? = w5.heap[k]? := fun k hk h1 h2 => HF6.out.same k hk (fun h => h.elim h1 h2)
 have hD := HH3.out.map.isMap
 have hupd : ∀ j t, upd (upd T i (linkR r s iv)) id (upR s) j = some t -> (j = id /\ t = upR s) ∨ (j = i /\ t = linkR r s iv) ∨ (j ≠ id /\ j ≠ i /\ T j = some t) := fun j t ht => by
  unfold upd at ht
  split at ht
  · exact .inl ⟨by assumption, by simpa using ht.symm⟩
  · split at ht
    · exact .inr (.inl ⟨by assumption, by simpa using ht.symm⟩)
    · exact .inr (.inr ⟨by assumption, by assumption, ht⟩)
 have hsize : Maps.size (D.put (ky id) (.lit (.int .i64 (B : Int)))) = Maps.size D + 1 := by
  rw [Maps.size_put (HH3.out.map.tidy keyedI), HH3.out.has id, hno]; rfl
 have hold : ∀ j t, T j = some t -> j ≠ i -> ∀ k, foot t k -> ¬ foot r k /\ ¬ foot s k := fun j t ht hj k hk => ⟨fun h => HH3.out.apart j i t r k ht hT hj hk h, fun h => by have := HHf.out k h; have := (HFR.out j t ht k hk).1; omega⟩
 refine ⟨rfl, D.put (ky id) (.lit (.int .i64 (B : Int))), linkR r s iv, upR s, ⟨?_, ?_, ?_, ?_, ?_, ?_, HH3.out.lowt, HH3.out.lowm⟩, ?_, ?_, hsize, ?_⟩
 · rw [hw6 tb (by omega) (HH3.out.tbF hT) (fun h => by have := HHf.out _ h; omega), HW5.out tb (by omega) HH3.out.mbt]; exact HH4.out.blk
 · exact map_exact (map_same HM5.out (hw6 mb (by omega) ((HH3.out.obj i r hT).1.mbF HH3.out.map) (fun h => by have := HHf.out _ h; omega)))
 · intro k
   unfold upd
   by_cases hk : k = id
   · subst hk; rw [if_pos rfl, Maps.has_put_same hD (show WideAt.IsKeyLit (ky k) from trivial)]; rfl
   · rw [if_neg hk, Maps.has_put_other (by simpa using hk), HH3.out.has]
     by_cases hk2 : k = i
     · subst hk2; rw [if_pos rfl, hT]; rfl
     · rw [if_neg hk2]
 · intro k t ht z
   rcases hupd k t ht with ⟨rfl, rfl⟩ | ⟨rfl, rfl⟩ | ⟨h1, h2, h3⟩
   · rw [Maps.atKey_put_same hD (show WideAt.IsKeyLit (ky k) from trivial)]
     show _ = DataW.lit (Lit.int .i64 (s.B : Int))
     rw [hsB]
   · rw [Maps.atKey_put_other (by simpa using hne)]; exact HH3.out.at_ k r hT z
   · rw [Maps.atKey_put_other (by simpa using h1)]; exact HH3.out.at_ k t h3 z
 · intro k t ht
   rcases hupd k t ht with ⟨rfl, rfl⟩ | ⟨rfl, rfl⟩ | ⟨h1, h2, h3⟩
   · exact ⟨HS6.out, by show s.ob.id = k; rw [hso]⟩
   · exact ⟨HR6.out, (HH3.out.obj k r hT).2⟩
   · exact ⟨(HT5.out k t h3).same (fun j hj => hw6 j (by have := (HFR.out k t h3 j hj).1; omega) (hold k t h3 h2 j hj).1 (hold k t h3 h2 j hj).2), (HH3.out.obj k t h3).2⟩
 · have key : ∀ j t, T j = some t -> j ≠ i -> ∀ k, foot t k -> foot (linkR r s iv) k -> False := fun j t ht hj k h1 h2 => by
    rcases HN6.out k h2 with h | h
    · exact (hold j t ht hj k h1).1 h
    · have := (HFR.out j t ht k h1).1; omega
   have key2 : ∀ k, foot (linkR r s iv) k -> foot s k -> False := fun k h1 h2 => by
    have h3 := HHf.out k h2
    rcases HN6.out k h1 with h | h
    · have := (HFR.out i r hT k h).1; omega
    · have h4 : k < w5.heap.size := by
       rw [<- HHs.out] at h2
       rcases h2 with e | e | e
       · have : k = B := e; omega
       · have := (HR4.out.lt k e).2; omega
       · cases e
      omega
   intro a b t u k ha hb hab h1 h2
   rcases hupd a t ha with ⟨rfl, rfl⟩ | ⟨rfl, rfl⟩ | ⟨a1, a2, a3⟩
   · rcases hupd b u hb with ⟨rfl, rfl⟩ | ⟨rfl, rfl⟩ | ⟨b1, b2, b3⟩
     · exact hab rfl
     · exact key2 k h2 h1
     · exact (hold b u b3 b2 k h2).2 h1
   · rcases hupd b u hb with ⟨rfl, rfl⟩ | ⟨rfl, rfl⟩ | ⟨b1, b2, b3⟩
     · exact key2 k h1 h2
     · exact hab rfl
     · exact key b u b3 b2 k h2 h1
   · rcases hupd b u hb with ⟨rfl, rfl⟩ | ⟨rfl, rfl⟩ | ⟨b1, b2, b3⟩
     · exact (hold a t a3 a2 k h1).2 h2
     · exact key a t a3 a2 k h1 h2
     · exact HH3.out.apart a b t u k a3 b3 hab h1 h2
 · show ({ r.ob with used := r.ob.used + s.ob.quota, ents := r.ob.ents ++ [s.ob.id] } : Ob) = _
   rw [hso]
 · show ({ s.ob with links := s.ob.links + 1 } : Ob) = _
   rw [hso]; rfl
 · have hB1 : RowKit.Below w.heap.size w w4 := ((hW1.trans (hb2.mono (by omega))).trans (hb3.mono (by have := hb2.size; omega))).trans (hb4.mono (by have := hb2.size; omega))
   have hz : w.heap.size <= w3.heap.size := by have := hb2.size; omega
   refine ⟨by rw [HF6.out.os, HG5.out.os, hB1.os], by rw [HF6.out.tape, HG5.out.tape, hB1.tape], by rw [HF6.out.output, HG5.out.output, hB1.output], by have := HF6.out.size; omega, ?_, ?_⟩
   · intro k hk hf
     rw [hw6 k (by omega) (fun h => hf (.inr (.inr ⟨i, r, hT, h⟩))) (fun h => by have := HHf.out _ h; omega), HW5.out k (by omega) (fun e => hf (.inr (.inl e))), hB1.block k hk]
   · intro k hk
     rcases hk with h | h | ⟨j, t, ht, h⟩
     · exact .inl (.inl h)
     · exact .inl (.inr (.inl h))
     · rcases hupd j t ht with ⟨rfl, rfl⟩ | ⟨rfl, rfl⟩ | ⟨a1, a2, a3⟩
       · have := HHf.out k h; exact .inr (by omega)
       · rcases HN6.out k h with h | h
         · exact .inl (.inr (.inr ⟨_, r, hT, h⟩))
         · exact .inr (by omega)
       · exact .inl (.inr (.inr ⟨j, t, a3, h⟩))
def idxI (x : Int) : List Int -> Nat -> Int
 | [], _ => -1
 | y :: l, k => if (x == y) = true then (k : Int) else idxI x l (k + 1)
theorem idxI_step (x : Int) (l : List Int) (k : Nat) (h : k < l.length) : idxI x (l.drop k) k = if (x == l[k]) = true then (k : Int) else idxI x (l.drop (k + 1)) (k + 1) := by
 rw [List.drop_eq_getElem_cons h]; rfl
theorem idxI_any (x : Int) (l : List Int) (k : Nat) : decide (0 <= idxI x l k) = l.contains x := by
 induction l generalizing k with
 | nil => simp [idxI]
 | cons y l ih =>
  by_cases h : (x == y) = true
  · simp [idxI, h]; left; simpa using h
  · have h' : (x == y) = false := by simpa using h
    simp only [idxI, h', Bool.false_eq_true, if_false, ih (k + 1), List.contains_cons, Bool.false_or]
set_option maxRecDepth 100000 in
set_option maxHeartbeats 1000000 in
theorem Index_any (base : Nat) (iv : Value) (l : List Int) (x : Int) (w : World) (hn : l.length < 1000000) (hr : w.ownsRow base 3 1 iv l.length (ivs l)) :
 Calls Tryz.prog 255 #[iv, .int .i64 x] w fun e w' => e = .returned (.int .i64 (idxI x l 0)) /\ w' = w := by
 obtain ⟨sp, cap, rfl⟩ := row_form hr
 have HR := Lib.hid hr
 clear hr
 go_enter Tryz.func255, Tryz.ntmps255
 go_wp2_with fail
 go_loopw [8] (fun y wr => ∃ k : Nat, y = .int .i64 k /\ k <= l.length /\ idxI x l 0 = idxI x (l.drop k) k /\ w = wr) (fun y _ => (l.length - (RowKit.intOf y).toNat))
 case atStart => exact ⟨0, rfl, Nat.zero_le _, by simp, rfl⟩
 case round =>
  obtain ⟨k, rfl, hk, hx, rfl⟩ := hrel
  have HX := Lib.hid hx
  clear hx
  by_cases hlt : k < l.length
  · have hki : (k : Int) < (l.length : Int) := by omega
    have hst := idxI_step x l k hlt
    have HST := Lib.hid hst
    clear hst
    obtain ⟨g, rfl⟩ : ∃ g, sp = some ⟨g, 0, none⟩ := by
     rcases HR.out.2 with ⟨h', _⟩ | ⟨g', cap', cur, h', _⟩
     · simp at h'; omega
     · simp at h'; exact ⟨g', h'.1⟩
    have c0 : w.cell? ⟨g, k, none⟩ = some (.int .i64 l[k]) := (HR.out.cellAt k (by omega)).trans (by unfold ivs; simp [hlt])
    by_cases he : (x == l[k]) = true
    · go_wp2
      go_ret
      exact ⟨by rw [HX.out, HST.out, if_pos he]; rfl, rfl⟩
    · have he' : (x == l[k]) = false := by simpa using he
      go_wp2
      go_roundw
      case rel => exact ⟨k + 1, by go_num, by omega, by rw [HX.out, HST.out, if_neg he], trivial⟩
      case measure => simp [RowKit.intOf]; omega
  · obtain rfl : k = l.length := by omega
    have hkk : ¬ (l.length : Int) < (l.length : Int) := by omega
    go_wp2
    go_ret
    exact ⟨by rw [HX.out, List.drop_length]; rfl, rfl⟩
theorem Contains_any (base : Nat) (iv : Value) (l : List Int) (x : Int) (w : World) (hn : l.length < 1000000) (hr : w.ownsRow base 3 1 iv l.length (ivs l)) :
 Calls Tryz.prog 216 #[iv, .int .i64 x] w fun e w' => e = .returned (.bool (l.contains x)) /\ w' = w := by
 have H := Lib.hid (Index_any base iv l x w hn hr)
 obtain ⟨sp, cap, rfl⟩ := row_form hr
 have hd := Lib.hid (idxI_any x l 0)
 clear hr
 go_enter Tryz.func216, Tryz.ntmps216
 go_wp2_with (go_at_call 255; refine H.out.mono ?_; rintro e w1 ⟨rfl, hw1⟩; rw [hw1]; clear hw1 w1)
 go_ret
 exact ⟨by show Ending.returned (Value.bool (decide _)) = _; rw [hd.out], rfl⟩
theorem has_any {w : World} {base : Nat} {r : Rc} (h : RAt w base r) (x : Int) (hn : r.ob.ents.length < 1000000) :
 Calls Tryz.prog 180 #[.pointer (some ⟨r.B, 7, none⟩), .int .i64 x] w fun e w' => e = .returned (.bool (r.ob.ents.contains x)) /\ w' = w := by
 have H := Contains_any base r.iv r.ob.ents x w hn h.row
 obtain ⟨sp, cap, hv⟩ := row_form h.row
 have c7 : w.cell? ⟨r.B, 7, none⟩ = some (.slice sp r.ob.ents.length cap) := by rw [<- hv]; simp [World.cell?, h.blk, cellsR]
 rw [hv] at H
 obtain ⟨b, hb⟩ : ∃ b, r.ob.ents.contains x = b := ⟨_, rfl⟩
 rw [hb] at H |-
 have HH := Lib.hid H
 clear h hv H hb
 go_enter Tryz.func180, Tryz.ntmps180
 go_wp2_with (go_at_call 216; refine HH.out.mono ?_; rintro e w1 ⟨rfl, hw1⟩; rw [hw1]; clear hw1 w1)
 go_ret
 exact ⟨rfl, rfl⟩
set_option maxRecDepth 100000 in
set_option maxHeartbeats 1000000 in
theorem entry_ok {w : World} {base tb mb : Nat} {D : DataW Unit} {T : Tab} (h : TAt w base tb mb D T) (i x : Int) (hi : i64 i) (hx : i64 x) (r : Rc) (hT : T i = some r) (hk : r.ob.kind = 1) (hn : r.ob.ents.length < 1000000) (hc : r.ob.ents.contains x = true) :
 Calls Tryz.prog 181 #[.pointer (some ⟨tb, 0, none⟩), .int .i64 i, .int .i64 x] w fun e w' => e = .returned (.tuple #[.pointer (some ⟨r.B, 0, none⟩), fnd T x, .int .i64 0]) /\ w' = w := by
 have HC := container_any h i hi
 rw [show contP T i = .pointer (some ⟨r.B, 0, none⟩) from by unfold contP contE fnd; rw [hT]; simp [hk], show contE T i = 0 from by unfold contE; rw [hT]; simp [hk]] at HC
 have H1 := Lib.hid HC
 have H2 := has_any (h.obj i r hT).1 x hn
 rw [hc] at H2
 have H3 := Lib.hid H2
 have H4 := Lib.hid (find_any h x hx)
 clear h HC H2
 go_enter Tryz.func181, Tryz.ntmps181
 go_wp2_with (first
  | (go_at_call 34; refine H1.out.mono ?_; rintro e w1 ⟨rfl, hw1⟩; rw [hw1]; clear hw1 w1)
  | (go_at_call 180; refine H3.out.mono ?_; rintro e w1 ⟨rfl, hw1⟩; rw [hw1]; clear hw1 w1)
  | (go_at_call 36; refine H4.out.mono ?_; rintro e w1 ⟨rfl, hw1⟩; rw [hw1]; clear hw1 w1))
 refine bodyPost_ret (by simp [results, Tryz.results181, go_sem]) rfl ⟨rfl, rfl⟩
def infoV (r : Rc) (v : Value) : Value := .agg #[.int .i64 r.ob.id, .int .i64 r.ob.kind, .int .i64 r.ob.quota, .int .i64 r.ob.used, .int .i64 r.ob.links, .int .i64 r.ob.df, v]
theorem cats_row {w : World} {base : Nat} {v : Value} {xs : List (Int × Int)} (h : w.ownsRow base 163 2 v xs.length (flat xs)) : ∃ p cap, v = .slice p xs.length cap /\ CatsAt w p xs := by
 rcases h.2 with ⟨rfl, h0⟩ | ⟨g, cap, cur, rfl, _⟩
 · have := List.length_eq_zero_iff.1 h0
   subst this
   exact ⟨none, 0, rfl, fun j hj => by simp at hj⟩
 · refine ⟨some ⟨g, 0, none⟩, cap, rfl, fun j hj => ⟨g, 0, rfl, (h.lt g rfl).2, ?_, ?_⟩⟩
   · rw [Nat.zero_add, h.cellAt (j * 2) (by omega)]; exact (flat_at xs j hj).1
   · rw [Nat.zero_add, h.cellAt (j * 2 + 1) (by omega)]; exact (flat_at xs j hj).2
set_option maxRecDepth 100000 in
set_option maxHeartbeats 1000000 in
theorem told_any {w : World} {base : Nat} {r : Rc} (h : RAt w base r) (hm : r.ob.cats.length * 16 <= 140737488355328) :
 Calls Tryz.prog 104 #[.pointer (some ⟨r.B, 0, none⟩)] w fun e w' => ∃ sp c, e = .returned (infoV r (.slice sp r.ob.cats.length c)) /\ w'.ownsRow w.heap.size 163 2 (.slice sp r.ob.cats.length c) r.ob.cats.length (flat r.ob.cats) /\ Below w.heap.size w w' := by
 obtain ⟨p, cap, hv, hc⟩ := cats_row h.cat
 have hb := h.blk
 have hbl := (h.lt (.inl rfl)).2
 have c0 : w.cell? ⟨r.B, 0, none⟩ = some (.int .i64 r.ob.id) := by simp [World.cell?, hb, cellsR]
 have c1 : w.cell? ⟨r.B, 1, none⟩ = some (.int .i64 r.ob.kind) := by simp [World.cell?, hb, cellsR]
 have c2 : w.cell? ⟨r.B, 2, none⟩ = some (.int .i64 r.ob.quota) := by simp [World.cell?, hb, cellsR]
 have c3 : w.cell? ⟨r.B, 3, none⟩ = some (.int .i64 r.ob.used) := by simp [World.cell?, hb, cellsR]
 have c4 : w.cell? ⟨r.B, 4, none⟩ = some (.int .i64 r.ob.links) := by simp [World.cell?, hb, cellsR]
 have c5 : w.cell? ⟨r.B, 5, none⟩ = some (.int .i64 r.ob.df) := by simp [World.cell?, hb, cellsR]
 have c6 : w.cell? ⟨r.B, 6, none⟩ = some (.slice p r.ob.cats.length cap) := by rw [<- hv]; simp [World.cell?, hb, cellsR]
 have HC := Lib.hid (fun W (hW : RowKit.Below w.heap.size w W) => copied_any r.ob.df p cap r.ob.cats W hm (hc.below hW))
 clear hb hv hc h
 have hW : Below w.heap.size w ((w.alloc (.cells #[.int .i64 0, .int .i64 0, .int .i64 0, .int .i64 0, .int .i64 0, .int .i64 0, .slice none 0 0] 89)).alloc (.cells #[.int .i64 r.ob.id, .int .i64 r.ob.kind, .int .i64 r.ob.quota, .int .i64 r.ob.used, .int .i64 r.ob.links, .int .i64 r.ob.df, .slice p r.ob.cats.length cap] 89)) := by go_grown
 have E1 : ((w.alloc (.cells #[.int .i64 0, .int .i64 0, .int .i64 0, .int .i64 0, .int .i64 0, .int .i64 0, .slice none 0 0] 89)).alloc (.cells #[.int .i64 r.ob.id, .int .i64 r.ob.kind, .int .i64 r.ob.quota, .int .i64 r.ob.used, .int .i64 r.ob.links, .int .i64 r.ob.df, .slice p r.ob.cats.length cap] 89)).heap[w.heap.size + 1]? = some (.cells #[.int .i64 r.ob.id, .int .i64 r.ob.kind, .int .i64 r.ob.quota, .int .i64 r.ob.used, .int .i64 r.ob.links, .int .i64 r.ob.df, .slice p r.ob.cats.length cap] 89 (0, 0)) := by
  have := heap_new (w.alloc (.cells #[.int .i64 0, .int .i64 0, .int .i64 0, .int .i64 0, .int .i64 0, .int .i64 0, .slice none 0 0] 89)) (.cells #[.int .i64 r.ob.id, .int .i64 r.ob.kind, .int .i64 r.ob.quota, .int .i64 r.ob.used, .int .i64 r.ob.links, .int .i64 r.ob.df, .slice p r.ob.cats.length cap] 89)
  simpa using this
 have E0 : ((w.alloc (.cells #[.int .i64 0, .int .i64 0, .int .i64 0, .int .i64 0, .int .i64 0, .int .i64 0, .slice none 0 0] 89)).alloc (.cells #[.int .i64 r.ob.id, .int .i64 r.ob.kind, .int .i64 r.ob.quota, .int .i64 r.ob.used, .int .i64 r.ob.links, .int .i64 r.ob.df, .slice p r.ob.cats.length cap] 89)).heap[w.heap.size]? = some (.cells #[.int .i64 0, .int .i64 0, .int .i64 0, .int .i64 0, .int .i64 0, .int .i64 0, .slice none 0 0] 89 (0, 0)) := by
  rw [Below.heap_alloc _ _ _ (by simp)]; exact heap_new _ _
 have HC1 := Lib.hid (HC.out _ hW)
 clear HC
 go_enter Tryz.func104, Tryz.ntmps104
 go_wp2_with (first | (go_at_call 97; refine HC1.out.mono ?_; rintro e w2 ⟨sp, c, rfl, hr2, hb2⟩; have hz2 := hb2.size; have e1 : w2.heap[w.heap.size + 1]? = some (.cells #[.int .i64 r.ob.id, .int .i64 r.ob.kind, .int .i64 r.ob.quota, .int .i64 r.ob.used, .int .i64 r.ob.links, .int .i64 r.ob.df, .slice p r.ob.cats.length cap] 89 (0, 0)) := (hb2.block _ (by simp)).trans E1; have e0 : w2.heap[w.heap.size]? = some (.cells #[.int .i64 0, .int .i64 0, .int .i64 0, .int .i64 0, .int .i64 0, .int .i64 0, .slice none 0 0] 89 (0, 0)) := (hb2.block _ (by simp; omega)).trans E0; have t0 : w2.cell? ⟨w.heap.size + 1, 0, none⟩ = some (.int .i64 r.ob.id) := (by simp [World.cell?, e1]); have s0 : w2.cell? ⟨w.heap.size, 0, none⟩ = some (.int .i64 0) := (by simp [World.cell?, e0]); have t1 : w2.cell? ⟨w.heap.size + 1, 1, none⟩ = some (.int .i64 r.ob.kind) := (by simp [World.cell?, e1]); have s1 : w2.cell? ⟨w.heap.size, 1, none⟩ = some (.int .i64 0) := (by simp [World.cell?, e0]); have t2 : w2.cell? ⟨w.heap.size + 1, 2, none⟩ = some (.int .i64 r.ob.quota) := (by simp [World.cell?, e1]); have s2 : w2.cell? ⟨w.heap.size, 2, none⟩ = some (.int .i64 0) := (by simp [World.cell?, e0]); have t3 : w2.cell? ⟨w.heap.size + 1, 3, none⟩ = some (.int .i64 r.ob.used) := (by simp [World.cell?, e1]); have s3 : w2.cell? ⟨w.heap.size, 3, none⟩ = some (.int .i64 0) := (by simp [World.cell?, e0]); have t4 : w2.cell? ⟨w.heap.size + 1, 4, none⟩ = some (.int .i64 r.ob.links) := (by simp [World.cell?, e1]); have s4 : w2.cell? ⟨w.heap.size, 4, none⟩ = some (.int .i64 0) := (by simp [World.cell?, e0]); have t5 : w2.cell? ⟨w.heap.size + 1, 5, none⟩ = some (.int .i64 r.ob.df) := (by simp [World.cell?, e1]); have s5 : w2.cell? ⟨w.heap.size, 5, none⟩ = some (.int .i64 0) := (by simp [World.cell?, e0]); have t6 : w2.cell? ⟨w.heap.size + 1, 6, none⟩ = some (.slice p r.ob.cats.length cap) := (by simp [World.cell?, e1]); have s6 : w2.cell? ⟨w.heap.size, 6, none⟩ = some (.slice none 0 0) := (by simp [World.cell?, e0]); have tf : (∀ o, w2.frozen? ⟨w.heap.size + 1, o, none⟩ = false) := (fun o => by simp [World.frozen?, e1]); have sf : (∀ o, w2.frozen? ⟨w.heap.size, o, none⟩ = false) := (fun o => by simp [World.frozen?, e0]); have HR2 := Lib.hid hr2; have HB2 := Lib.hid hb2; clear hr2 hb2 e0 e1; refine Hid.out ?_))
 refine Lib.hid ?_
 clear E0 E1 c0 c1 c2 c3 c4 c5 c6
 go_wp2_with fail
 have hB2 : RowKit.Below w.heap.size w w2 := hW.trans (HB2.out.mono (by simp; omega))
 refine bodyPost_ret (by simp [results, Tryz.results104, go_sem, s0, s1, s2, s3, s4, s5, s6]; rfl) rfl ⟨sp, c, rfl, ?_, ?_⟩
 · refine row_mono (row_same HR2.out (fun k hk => ?_)) (by simp; omega)
   have hk1 := (HR2.out.lt k hk).1
   simp at hk1
   rw [heap_ne _ _ _ (by show k ≠ w.heap.size; omega), heap_ne _ _ _ (by show k ≠ w.heap.size; omega), heap_ne _ _ _ (by show k ≠ w.heap.size; omega), heap_ne _ _ _ (by show k ≠ w.heap.size; omega), heap_ne _ _ _ (by show k ≠ w.heap.size; omega), heap_ne _ _ _ (by show k ≠ w.heap.size; omega), heap_ne _ _ _ (by show k ≠ w.heap.size; omega), heap_ne _ _ _ (by show k ≠ w.heap.size + 1; omega), heap_ne _ _ _ (by show k ≠ w.heap.size + 1; omega)]
 · exact (((((((((hB2.setCell (p := ⟨w.heap.size + 1, 5, none⟩) (by show _ <= w.heap.size + 1; omega) _).setCell (p := ⟨w.heap.size + 1, 6, none⟩) (by show _ <= w.heap.size + 1; omega) _).setCell (p := ⟨w.heap.size, 0, none⟩) (Nat.le_refl _) _).setCell (p := ⟨w.heap.size, 1, none⟩) (Nat.le_refl _) _).setCell (p := ⟨w.heap.size, 2, none⟩) (Nat.le_refl _) _).setCell (p := ⟨w.heap.size, 3, none⟩) (Nat.le_refl _) _).setCell (p := ⟨w.heap.size, 4, none⟩) (Nat.le_refl _) _).setCell (p := ⟨w.heap.size, 5, none⟩) (Nat.le_refl _) _).setCell (p := ⟨w.heap.size, 6, none⟩) (Nat.le_refl _) _)
set_option maxRecDepth 100000 in
set_option maxHeartbeats 1000000 in
theorem Info_any {w : World} {base tb mb : Nat} {D : DataW Unit} {T : Tab} (h : TAt w base tb mb D T) (x : Int) (hx : i64 x) (r : Rc) (hT : T x = some r) (hm : r.ob.cats.length * 16 <= 140737488355328) :
 Calls Tryz.prog 48 #[.pointer (some ⟨tb, 0, none⟩), .int .i64 x] w fun e w' => ∃ v, e = .returned (.tuple #[infoV r v, .bool true]) /\ (∃ sp c, v = .slice sp r.ob.cats.length c /\ w'.ownsRow w.heap.size 163 2 v r.ob.cats.length (flat r.ob.cats)) /\ Below w.heap.size w w' := by
 have hW : Below w.heap.size w (w.alloc (.cells #[.int .i64 0, .int .i64 0, .int .i64 0, .int .i64 0, .int .i64 0, .int .i64 0, .slice none 0 0] 89)) := by go_grown
 have HF := find_any (h.below hW) x hx
 rw [show fnd T x = .pointer (some ⟨r.B, 0, none⟩) from by unfold fnd; rw [hT]; rfl] at HF
 have HF1 := Lib.hid HF
 have HT := Lib.hid (told_any ((h.below hW).obj x r hT).1 hm)
 clear h HF
 go_enter Tryz.func48, Tryz.ntmps48
 go_wp2_with (first
  | (go_at_call 36; refine HF1.out.mono ?_; rintro e w1 ⟨rfl, hw1⟩; rw [hw1]; clear hw1 w1)
  | (go_at_call 104; refine HT.out.mono ?_; rintro e w2 ⟨sp, c, rfl, hr2, hb2⟩; refine Hid.out ?_))
 refine Lib.hid ?_
 simp only [infoV]
 have e0 : w2.heap[w.heap.size]? = some (.cells #[.int .i64 0, .int .i64 0, .int .i64 0, .int .i64 0, .int .i64 0, .int .i64 0, .slice none 0 0] 89 (0, 0)) := (hb2.block _ (by simp)).trans (heap_new _ _)
 have s0 : w2.cell? ⟨w.heap.size, 0, none⟩ = some (.int .i64 0) := by simp [World.cell?, e0]
 have s1 : w2.cell? ⟨w.heap.size, 1, none⟩ = some (.int .i64 0) := by simp [World.cell?, e0]
 have s2 : w2.cell? ⟨w.heap.size, 2, none⟩ = some (.int .i64 0) := by simp [World.cell?, e0]
 have s3 : w2.cell? ⟨w.heap.size, 3, none⟩ = some (.int .i64 0) := by simp [World.cell?, e0]
 have s4 : w2.cell? ⟨w.heap.size, 4, none⟩ = some (.int .i64 0) := by simp [World.cell?, e0]
 have s5 : w2.cell? ⟨w.heap.size, 5, none⟩ = some (.int .i64 0) := by simp [World.cell?, e0]
 have s6 : w2.cell? ⟨w.heap.size, 6, none⟩ = some (.slice none 0 0) := by simp [World.cell?, e0]
 have sf : ∀ o, w2.frozen? ⟨w.heap.size, o, none⟩ = false := fun o => by simp [World.frozen?, e0]
 have HR2 := Lib.hid hr2
 have HB2 := Lib.hid hb2
 have hz2 := hb2.size
 simp at hz2
 clear hr2 hb2 e0
 go_wp2_with fail
 have hB2 : RowKit.Below w.heap.size w w2 := hW.trans (HB2.out.mono (by simp))
 refine bodyPost_ret (by simp [results, Tryz.results48, go_sem, s0, s1, s2, s3, s4, s5, s6]; rfl) rfl ⟨.slice sp r.ob.cats.length c, rfl, ⟨sp, c, rfl, ?_⟩, ?_⟩
 · refine row_mono (row_same HR2.out (fun k hk => ?_)) (by simp)
   have hk1 := (HR2.out.lt k hk).1
   simp at hk1
   rw [heap_ne _ _ _ (by show k ≠ w.heap.size; omega), heap_ne _ _ _ (by show k ≠ w.heap.size; omega), heap_ne _ _ _ (by show k ≠ w.heap.size; omega), heap_ne _ _ _ (by show k ≠ w.heap.size; omega), heap_ne _ _ _ (by show k ≠ w.heap.size; omega), heap_ne _ _ _ (by show k ≠ w.heap.size; omega), heap_ne _ _ _ (by show k ≠ w.heap.size; omega)]
 · exact (((((((hB2.setCell (p := ⟨w.heap.size, 0, none⟩) (Nat.le_refl _) _).setCell (p := ⟨w.heap.size, 1, none⟩) (Nat.le_refl _) _).setCell (p := ⟨w.heap.size, 2, none⟩) (Nat.le_refl _) _).setCell (p := ⟨w.heap.size, 3, none⟩) (Nat.le_refl _) _).setCell (p := ⟨w.heap.size, 4, none⟩) (Nat.le_refl _) _).setCell (p := ⟨w.heap.size, 5, none⟩) (Nat.le_refl _) _).setCell (p := ⟨w.heap.size, 6, none⟩) (Nat.le_refl _) _)
def without (x : Int) (l : List Int) : List Int := l.filter fun y => !(y == x)
end Go.Proofs.YtmgfakfiiaeofaaGreat.Ho

/- What Ids of the reference answers. -/
import Derived.Test.YtmgfakfiiaeofaaGreatHoAppI
namespace Go.Proofs.YtmgfakfiiaeofaaGreat.Ho
open Go.RowKit Go.Sort
theorem ins_sorted {l : List Int} {x : Int} {m : Nat} (hs : l.Pairwise (· < ·)) (hm : m <= l.length) (h1 : ∀ j (hj : j < l.length), j < m -> l[j] < x) (h2 : ∀ (hj : m < l.length), x < l[m]) : (l.take m ++ [x] ++ l.drop m).Pairwise (· < ·) := by
 have htake : ∀ a ∈ l.take m, a < x := fun a ha => by
  obtain ⟨j, hj, rfl⟩ := List.getElem_of_mem ha
  have hj' : j < m := by simp at hj; omega
  rw [List.getElem_take]
  exact h1 j (by omega) hj'
 have hdrop : ∀ b ∈ l.drop m, x < b := fun b hb => by
  obtain ⟨j, hj, rfl⟩ := List.getElem_of_mem hb
  have hml : m < l.length := by simp at hj; omega
  rw [List.getElem_drop]
  rcases Nat.eq_zero_or_pos j with e | e
  · subst e; exact h2 hml
  · have := List.pairwise_iff_getElem.1 hs m (m + j) hml (by simp at hj; omega) (by omega)
    have := h2 hml
    omega
 have hall := hs
 rw [<- List.take_append_drop m l, List.pairwise_append] at hall
 rw [List.pairwise_append, List.pairwise_append]
 refine ⟨⟨hall.1, by simp, fun a ha b hb => ?_⟩, hall.2.1, fun a ha b hb => ?_⟩
 · simp at hb; subst hb; exact htake a ha
 · rcases List.mem_append.1 ha with ha | ha
   · exact hall.2.2 a ha b hb
   · simp at ha; subst ha; exact hdrop b hb
theorem sorted_eq {a b : List Int} (ha : a.Pairwise (· < ·)) (hb : b.Pairwise (· < ·)) (h : ∀ x, x ∈ a ↔ x ∈ b) : a = b := by
 have na : a.Nodup := ha.imp (fun h e => by omega)
 have nb : b.Nodup := hb.imp (fun h e => by omega)
 have hp : a.Perm b := (List.perm_ext_iff_of_nodup na nb).2 h
 exact hp.eq_of_pairwise (fun x y _ _ h1 h2 => by omega) ha hb
def IdsOf (l : List Int) (L : List Th) : Prop := l.Pairwise (· < ·) /\ ∀ x, x ∈ l ↔ x ∈ L.map (·.id)
section
variable {w : World} {rb g cap : Nat} {cs : Array Value} {root : Int} {L : List Th} {F : Nat -> Prop}
theorem src_take {X : World} {B ga ca : Nat} {l : List Int} (h : X.ownsRow B 3 1 (.slice (some ⟨ga, 0, none⟩) l.length ca) l.length (ivs l)) (m : Nat) : SrcI X (some ⟨ga, 0, none⟩) (l.take m) := .inr ⟨_, rfl, fun j u hu => by
 have hI := row_ints h
 have hj : j < (l.take m).length := by have := (List.getElem?_eq_some_iff.1 hu).1; simpa [ivs] using this
 obtain ⟨b, off, e, _, hc⟩ := hI.take m j hj
 cases e
 rw [addr_plus]
 unfold ivs at hu
 rw [List.getElem?_map, List.getElem?_eq_getElem hj] at hu
 simp only [Option.map_some, Option.some.injEq] at hu
 rw [<- hu]; exact hc⟩
theorem src_drop {X : World} {B ga ca : Nat} {l : List Int} (h : X.ownsRow B 3 1 (.slice (some ⟨ga, 0, none⟩) l.length ca) l.length (ivs l)) (m : Nat) : SrcI X (if ca = m then some ⟨ga, 0, none⟩ else some ⟨ga, m, none⟩) (l.drop m) := by
 have hI := row_ints h
 have hca : l.length <= ca := by
  rcases h.2 with ⟨e, _⟩ | ⟨g3, c3, cur, e, _, _, h4, _⟩
  · cases e
  · cases e; exact h4
 by_cases e : ca = m
 · rw [if_pos e, List.drop_of_length_le (by omega)]
   exact .inr ⟨_, rfl, fun j u hu => by simp [ivs] at hu⟩
 · rw [if_neg e]
   refine .inr ⟨_, rfl, fun j u hu => ?_⟩
   have hj : j < (l.drop m).length := by have := (List.getElem?_eq_some_iff.1 hu).1; simpa [ivs] using this
   have hj' : m + j < l.length := by simp at hj; omega
   obtain ⟨b, off, e', _, hc⟩ := hI (m + j) hj'
   cases e'
   rw [addr_plus]
   unfold ivs at hu
   rw [List.getElem?_map, List.getElem?_eq_getElem hj] at hu
   simp only [Option.map_some, Option.some.injEq, List.getElem_drop] at hu
   rw [<- hu]
   rw [show 0 + (m + j) = m + j from by omega] at hc
   exact hc
set_option maxRecDepth 100000 in
set_option maxHeartbeats 8000000 in
theorem rIds_any (h : RS w rb g cap cs root L F) : Calls Tryz.prog 23 #[.pointer (some ⟨rb, 0, none⟩)] w fun e w' => ∃ p c l, e = .returned (.slice p (List.length l) c) /\ IntsAt w' p l /\ Below w.heap.size w w' /\ IdsOf l L := by
 have HH := Lib.hid h
 obtain ⟨W1, hW1⟩ : ∃ W1, w.alloc (.cells #[] 3) = W1 := ⟨_, rfl⟩
 have hb1 : Below w.heap.size w W1 := by rw [<- hW1]; exact (Below.refl _ _).alloc (Nat.le_refl _) _
 have hr1 : W1.ownsRow w.heap.size 3 1 (.slice (some ⟨w.heap.size, 0, none⟩) 0 0) 0 (ivs []) := by rw [<- hW1]; exact World.ownsRow_lit (base := w.heap.size) (e := 3) (size := 1) w #[] 0 (Nat.le_refl _) (by decide) rfl
 obtain ⟨t0, t1⟩ := (h.below hb1).hd
 have hLn := h.lim.1
 have HND := Lib.hid h.nd
 have HR1 := Lib.hid hr1
 have HB1 := Lib.hid hb1
 clear h hr1 hb1
 go_enter Tryz.func23, Tryz.ntmps23
 go_wp2_with fail
 go_loopw [3, 14] (fun r y wr => ∃ (k : Nat) (l : List Int) (ga ca : Nat), y = .int .i64 k /\ k <= L.length /\ r = .slice (some ⟨ga, 0, none⟩) l.length ca /\ wr.ownsRow w.heap.size 3 1 r l.length (ivs l) /\ Below w.heap.size w wr /\ l.length = k /\ IdsOf l (L.take k)) (fun _ y _ => (L.length - (RowKit.intOf y).toNat))
 case atStart => exact ⟨0, [], w.heap.size, 0, rfl, Nat.zero_le _, rfl, HR1.out, HB1.out, rfl, List.Pairwise.nil, fun x => by simp⟩
 case round =>
  obtain ⟨k, l, ga, ca, rfl, hk, rfl, hrow, hB, hlen, hids⟩ := hrel
  obtain ⟨wo, rfl⟩ : ∃ wo, wo = wr := ⟨wr, rfl⟩
  have HLen := Lib.hid hlen
  have HIds := Lib.hid hids
  have hll : l.length <= 4096 := by omega
  clear hlen hids
  by_cases hlt : k < L.length
  · have hki : (k : Int) < (L.length : Int) := by omega
    obtain ⟨c0, c1, c2, c3, c4, c5⟩ := (HH.out.below hB).six hlt
    obtain ⟨id, hid⟩ : ∃ id, L[k].id = id := ⟨_, rfl⟩
    rw [hid] at c0
    have HId := Lib.hid hid
    generalize L[k].kind = v1 at c1
    generalize L[k].quota = v2 at c2
    generalize L[k].df = v3 at c3
    generalize L[k].cp = v4 at c4
    generalize L[k].cc = v5 at c4
    generalize L[k].cats.length = v6 at c4
    generalize L[k].lp = v7 at c5
    generalize L[k].lc = v8 at c5
    generalize L[k].ents.length = v9 at c5
    obtain ⟨W2, hW2⟩ : ∃ W2, wo.alloc (.cells #[.int .i64 id, .int .i64 v1, .int .i64 v2, .int .i64 v3, .slice v4 v6 v5, .slice v7 v9 v8] 130) = W2 := ⟨_, rfl⟩
    have hb2 : Below wo.heap.size wo W2 := by rw [<- hW2]; exact (Below.refl _ _).alloc (Nat.le_refl _) _
    have hz2 : W2.heap.size = wo.heap.size + 1 := by rw [<- hW2]; simp
    have d0 : W2.cell? ⟨wo.heap.size, 0, none⟩ = some (.int .i64 id) := by rw [<- hW2]; simp [go_sem]
    have hrow2 := row_same (w' := W2) hrow (fun j hj => hb2.block j (hrow.lt j hj).2)
    have hgl := (hrow2.lt ga rfl).2
    have hB2 := hB.trans (hb2.mono hB.size)
    have HD0 := Lib.hid d0
    have HRow := Lib.hid hrow2
    have HB2 := Lib.hid hB2
    have HI2 := Lib.hid (row_ints hrow2)
    have hca : l.length <= ca := by
     rcases hrow2.2 with ⟨e, _⟩ | ⟨g3, c3, cur, e, _, _, h4, _⟩
     · cases e
     · cases e; exact h4
    clear hrow hrow2 hB2 hb2 d0 hid
    go_wp2_with fail
    go_loopw [6] (fun y wr2 => ∃ m : Nat, y = .int .i64 m /\ m <= l.length /\ (∀ j (hj : j < l.length), j < m -> l[j] < id) /\ Below W2.heap.size W2 wr2) (fun y _ => (l.length - (RowKit.intOf y).toNat))
    case atStart => exact ⟨0, rfl, Nat.zero_le _, fun j hj h => absurd h (Nat.not_lt_zero _), Below.refl _ _⟩
    case round =>
     obtain ⟨m, rfl, hm, hbelow, hBm⟩ := hrel
     have HBe := Lib.hid hbelow
     clear hbelow
     obtain ⟨X1, rfl⟩ : ∃ X1, X1 = wr := ⟨wr, rfl⟩
     have pid : ∀ n' os, (gx X1 n' os).cell? ⟨wo.heap.size, 0, none⟩ = some (.int .i64 id) := cell_gx (by show wo.heap.size < _; have := hBm.size; omega) ((hBm.cell (p := ⟨wo.heap.size, 0, none⟩) (by show wo.heap.size < _; omega)).trans HD0.out)
     by_cases hc : m < l.length
     · have hci : (m : Int) < (l.length : Int) := by omega
       obtain ⟨b, off, e, hbl, hcl⟩ := HI2.out m hc
       cases e
       rw [Nat.zero_add] at hcl
       have pm : ∀ n' os, (gx X1 n' os).cell? ⟨ga, m, none⟩ = some (.int .i64 l[m]) := cell_gx (by show ga < _; have := hBm.size; omega) ((hBm.cell (p := ⟨ga, m, none⟩) hbl).trans hcl)
       by_cases hl2 : l[m] < id
       · go_upto_region 6 with fail
         refine wp_region_quiet_gx (by kernel_rfl) (by kernel_rfl) ?_
         repeat (first | go_big_quiet_step (fail) | (refine wpQuiet_step (fun K hK => ?_); go_simp; split <;> first | (exfalso; omega) | (refine hK _ ?_; clear hK K)))
         refine wpQuiet_nil ?_
         intro _ hw'
         obtain ⟨⟨nq, osq⟩, hw''⟩ := hw'
         subst hw''
         have hBq := hBm.trans ((gx_below X1 nq osq).mono hBm.size)
         go_wp2_with fail
         go_roundw
         case rel =>
          refine ⟨m + 1, by go_num, by omega, fun j hj hjm => ?_, hBq⟩
          by_cases e : j = m
          · subst e; exact hl2
          · exact HBe.out j hj (by omega)
         case measure => simp [RowKit.intOf]; omega
       · go_upto_region 6 with fail
         refine wp_region_quiet_gx (by kernel_rfl) (by kernel_rfl) ?_
         repeat (first | go_big_quiet_step (fail) | (refine wpQuiet_step (fun K hK => ?_); go_simp; split <;> first | (exfalso; omega) | (refine hK _ ?_; clear hK K)))
         refine wpQuiet_nil ?_
         intro _ hw'
         obtain ⟨⟨nq, osq⟩, hw''⟩ := hw'
         subst hw''
         have hBq := hBm.trans ((gx_below X1 nq osq).mono hBm.size)
         have hX : Hid (Below W2.heap.size W2 (gx X1 nq osq)) := hBq
         clear hBq pm
         generalize gx X1 nq osq = X at hX |-
         have hrX := row_same (w' := X) HRow.out (fun j hj => hX.out.block j (HRow.out.lt j hj).2)
         have hzX := hX.out.size
         have hBX := HB2.out.trans (hX.out.mono HB2.out.size)
         have hidX : X.cell? ⟨wo.heap.size, 0, none⟩ = some (.int .i64 id) := (hX.out.cell (p := ⟨wo.heap.size, 0, none⟩) (by show wo.heap.size < _; omega)).trans HD0.out
         have hgw := (HRow.out.lt ga rfl).1
         obtain ⟨X2, hX2⟩ : ∃ X2, X.alloc (.cells #[] 3) = X2 := ⟨_, rfl⟩
         have b2 : Below X.heap.size X X2 := by rw [<- hX2]; exact (Below.refl _ _).alloc (Nat.le_refl _) _
         have z2 : X2.heap.size = X.heap.size + 1 := by rw [<- hX2]; simp
         have wz : w.heap.size <= X.heap.size := hBX.size
         have rowE : X2.ownsRow w.heap.size 3 1 (.slice (some ⟨X.heap.size, 0, none⟩) 0 0) ([] : List Int).length (ivs []) := by rw [<- hX2]; exact World.ownsRow_lit (base := w.heap.size) (e := 3) (size := 1) X #[] 0 wz (by decide) rfl
         have rowO2 := row_same (w' := X2) hrX (fun j hj => b2.block j (hrX.lt j hj).2)
         have hBX2 := hBX.trans (b2.mono hBX.size)
         have hid2 := (b2.cell (p := ⟨wo.heap.size, 0, none⟩) (by show wo.heap.size < _; omega)).trans hidX
         have HE := Lib.hid rowE
         have HO2 := Lib.hid rowO2
         have HBX2 := Lib.hid hBX2
         have HI2' := Lib.hid hid2
         have hcm : ¬ ca < m := by omega
         have hcm2 : m <= ca := by omega
         have hltm : (l.take m).length = m := by simp; omega
         have wz2 : w.heap.size <= X2.heap.size := by omega
         clear hrX b2 rowE rowO2 hBX2 hid2 hidX hBX
         go_wp2_with (at_builtin; refine Hid.out ?_)
         refine Lib.hid ?_
         refine wpList_appI rfl _ _ rfl w.heap.size (.slice (some ⟨X.heap.size, 0, none⟩) 0 0) [] (l.take m) (some ⟨ga, 0, none⟩) ca rfl HE.out (by rw [hltm]; rfl) (src_take HO2.out m) (by simp; omega) wz2 ?_
         intro v3 w3 hr3 hg3 hat3
         rw [List.nil_append] at hr3
         obtain ⟨sp3, cp3, rfl⟩ := row_form hr3
         have hn3 : (Value.slice sp3 (l.take m).length cp3).ownBlock ≠ some ga := fun e => by
          rcases hat3 with e2 | e2
          · rw [e2] at e; simp [Value.ownBlock] at e; omega
          · rw [e2] at e; simp at e; omega
         have same3 : ∀ j, j < X2.heap.size -> j ≠ X.heap.size -> w3.heap[j]? = X2.heap[j]? := fun j hj hn => hg3.block j hj (fun e => by simp [Value.ownBlock] at e; exact hn e)
         have hB3 : Below w.heap.size w w3 := Below.grown HBX2.out hg3 wz2 (fun j hj => (HE.out.lt j hj).1)
         have z3 := hg3.size
         have hgaX : ga < X.heap.size := by omega
         have rowO3 := row_same (w' := w3) HO2.out (fun j hj => by simp [Value.ownBlock] at hj; subst hj; exact same3 ga (by omega) (by omega))
         have id3 : w3.cell? ⟨wo.heap.size, 0, none⟩ = some (.int .i64 id) := (World.cell?_of_block (a := ⟨wo.heap.size, 0, none⟩) (same3 wo.heap.size (by omega) (by omega))).trans HI2'.out
         obtain ⟨W4, hW4⟩ : ∃ W4, w3.alloc (.cells #[.int .i64 id] 3) = W4 := ⟨_, rfl⟩
         have b4 : Below w3.heap.size w3 W4 := by rw [<- hW4]; exact (Below.refl _ _).alloc (Nat.le_refl _) _
         have z4 : W4.heap.size = w3.heap.size + 1 := by rw [<- hW4]; simp
         have hone : One1 w3.heap.size id (.slice (some ⟨w3.heap.size, 0, none⟩) 1 1) W4 := ⟨w3.heap.size, rfl, Nat.le_refl _, by rw [<- hW4]; exact heap_new _ _⟩
         have row4 := row_same (w' := W4) hr3 (fun j hj => b4.block j (hr3.lt j hj).2)
         have rowO4 := row_same (w' := W4) rowO3 (fun j hj => b4.block j (rowO3.lt j hj).2)
         have hB4 := hB3.trans (b4.mono hB3.size)
         have HR4 := Lib.hid row4
         have HO4 := Lib.hid rowO4
         have HN4 := Lib.hid hone
         have HB4 := Lib.hid hB4
         have HNE3 := Lib.hid hn3
         have wz4 : w.heap.size <= W4.heap.size := by omega
         clear hr3 hg3 hat3 hn3 same3 hB3 rowO3 b4 hone row4 rowO4 hB4 HE HO2 HBX2 HI2'
         go_wp2_with (at_builtin; refine Hid.out ?_)
         refine Lib.hid ?_
         obtain ⟨q, hq, hsq⟩ := HN4.out.src
         refine wpList_appI rfl _ _ rfl w.heap.size (.slice sp3 (l.take m).length cp3) (l.take m) [id] q 1 (by first | rfl | (rw [hltm]; rfl)) HR4.out hq hsq (by simp; omega) wz4 ?_
         intro v5 w5 hr5 hg5 hat5
         obtain ⟨sp5, cp5, rfl⟩ := row_form hr5
         have hn5 : (Value.slice sp5 (l.take m ++ [id]).length cp5).ownBlock ≠ some ga := fun e => by
          rcases hat5 with e2 | e2
          · rw [e2] at e; exact HNE3.out e
          · rw [e2] at e; simp at e; omega
         have rowO5 := row_same (w' := w5) HO4.out (fun j hj => by simp [Value.ownBlock] at hj; subst hj; exact hg5.block ga (by omega) (fun e => HNE3.out e.symm))
         have hB5 : Below w.heap.size w w5 := Below.grown HB4.out hg5 wz4 (fun j hj => (HR4.out.lt j hj).1)
         have wz5 : w.heap.size <= w5.heap.size := hB5.size
         have HR5 := Lib.hid hr5
         have HO5 := Lib.hid rowO5
         have HB5 := Lib.hid hB5
         clear hr5 hg5 hat5 hn5 rowO5 hB5 hq hsq HR4 HO4 HN4 HB4 id3
         have hldm : (l.drop m).length = l.length - m := by simp
         have hlt1 : (l.take m ++ [id]).length = m + 1 := by rw [List.length_append, hltm]; rfl
         have hmi : (0 : Int) <= (m : Int) := by omega
         have hmi2 : (m : Int) <= (l.length : Int) := by omega
         have hcam : ¬ ca = m := by omega
         go_wp2_with (at_builtin; refine Hid.out ?_)
         refine Lib.hid ?_
         refine wpList_appI rfl _ _ rfl w.heap.size (.slice sp5 (l.take m ++ [id]).length cp5) (l.take m ++ [id]) (l.drop m) (if ca = m then some ⟨ga, 0, none⟩ else some ⟨ga, m, none⟩) (ca - m) (by first | rfl | (rw [hlt1]; rfl)) HR5.out (by first | (rw [hldm]; rfl) | (rw [hldm, if_neg (by omega)]; rfl) | (rw [hldm, if_pos hcam, hcam, Nat.sub_self]; rfl)) (src_drop HO5.out m) (by simp; omega) wz5 ?_
         intro v7 w7 hr7 hg7 hat7
         have hB7 : Below w.heap.size w w7 := Below.grown HB5.out hg7 wz5 (fun j hj => (HR5.out.lt j hj).1)
         have HR7 := Lib.hid hr7
         have HB7 := Lib.hid hB7
         clear hr7 hg7 hat7 hB7 HO5 HR5 HB5
         go_wp2_with fail
         go_roundw
         case rel =>
          obtain ⟨hsrt, hmem⟩ := HIds.out
          have hnot : id ∉ l := fun e => by
           have := (hmem id).1 e
           obtain ⟨t, ht, et⟩ := List.mem_map.1 this
           obtain ⟨j, hj, rfl⟩ := List.getElem_of_mem ht
           have hj' : j < k := by simp at hj; omega
           rw [List.getElem_take] at et
           have := id_inj HND.out (by omega : j < L.length) hlt (et.trans HId.out.symm)
           omega
          have hs2 := ins_sorted (x := id) hsrt hm HBe.out (fun hj => by
           have h1 : ¬ l[m] < id := by omega
           have h2 : l[m] ≠ id := fun e => hnot (e ▸ List.getElem_mem hj)
           omega)
          obtain ⟨g8, c8, e8⟩ : ∃ g8 c8, v7 = .slice (some ⟨g8, 0, none⟩) (l.take m ++ [id] ++ l.drop m).length c8 := by
           rcases HR7.out.2 with ⟨_, e⟩ | ⟨g3, c3, cur, e, _⟩
           · simp at e
           · exact ⟨g3, c3, e⟩
          refine ⟨k + 1, _, g8, c8, by go_num, by omega, e8, HR7.out, HB7.out, ?_, hs2, fun x => ?_⟩
          · have := HLen.out; simp; omega
          · have e1 := hmem x
            have hx : x ∈ l ↔ x ∈ l.take m ∨ x ∈ l.drop m := by rw [<- List.mem_append, List.take_append_drop]
            rw [List.take_succ_eq_append_getElem hlt, List.map_append]
            simp only [List.mem_append, <- e1, hx, List.map_cons, List.map_nil, HId.out, List.mem_singleton]
            constructor
            · rintro ((h | h) | h) <;> simp [h]
            · rintro ((h | h) | h) <;> simp [h]
         case measure => simp [RowKit.intOf]; omega
     · have hci : ¬ (m : Int) < (l.length : Int) := by omega
       have pm : True := trivial
       go_upto_region 6 with fail
       refine wp_region_quiet_gx (by kernel_rfl) (by kernel_rfl) ?_
       repeat (first | go_big_quiet_step (fail) | (refine wpQuiet_step (fun K hK => ?_); go_simp; split <;> first | (exfalso; omega) | (refine hK _ ?_; clear hK K)))
       refine wpQuiet_nil ?_
       intro _ hw'
       obtain ⟨⟨nq, osq⟩, hw''⟩ := hw'
       subst hw''
       have hBq := hBm.trans ((gx_below X1 nq osq).mono hBm.size)
       have hX : Hid (Below W2.heap.size W2 (gx X1 nq osq)) := hBq
       clear hBq pm
       generalize gx X1 nq osq = X at hX |-
       have hrX := row_same (w' := X) HRow.out (fun j hj => hX.out.block j (HRow.out.lt j hj).2)
       have hzX := hX.out.size
       have hBX := HB2.out.trans (hX.out.mono HB2.out.size)
       have hidX : X.cell? ⟨wo.heap.size, 0, none⟩ = some (.int .i64 id) := (hX.out.cell (p := ⟨wo.heap.size, 0, none⟩) (by show wo.heap.size < _; omega)).trans HD0.out
       have hgw := (HRow.out.lt ga rfl).1
       obtain ⟨X2, hX2⟩ : ∃ X2, X.alloc (.cells #[] 3) = X2 := ⟨_, rfl⟩
       have b2 : Below X.heap.size X X2 := by rw [<- hX2]; exact (Below.refl _ _).alloc (Nat.le_refl _) _
       have z2 : X2.heap.size = X.heap.size + 1 := by rw [<- hX2]; simp
       have wz : w.heap.size <= X.heap.size := hBX.size
       have rowE : X2.ownsRow w.heap.size 3 1 (.slice (some ⟨X.heap.size, 0, none⟩) 0 0) ([] : List Int).length (ivs []) := by rw [<- hX2]; exact World.ownsRow_lit (base := w.heap.size) (e := 3) (size := 1) X #[] 0 wz (by decide) rfl
       have rowO2 := row_same (w' := X2) hrX (fun j hj => b2.block j (hrX.lt j hj).2)
       have hBX2 := hBX.trans (b2.mono hBX.size)
       have hid2 := (b2.cell (p := ⟨wo.heap.size, 0, none⟩) (by show wo.heap.size < _; omega)).trans hidX
       have HE := Lib.hid rowE
       have HO2 := Lib.hid rowO2
       have HBX2 := Lib.hid hBX2
       have HI2' := Lib.hid hid2
       have hcm : ¬ ca < m := by omega
       have hcm2 : m <= ca := by omega
       have hltm : (l.take m).length = m := by simp; omega
       have wz2 : w.heap.size <= X2.heap.size := by omega
       clear hrX b2 rowE rowO2 hBX2 hid2 hidX hBX
       go_wp2_with (at_builtin; refine Hid.out ?_)
       refine Lib.hid ?_
       refine wpList_appI rfl _ _ rfl w.heap.size (.slice (some ⟨X.heap.size, 0, none⟩) 0 0) [] (l.take m) (some ⟨ga, 0, none⟩) ca rfl HE.out (by rw [hltm]; rfl) (src_take HO2.out m) (by simp; omega) wz2 ?_
       intro v3 w3 hr3 hg3 hat3
       rw [List.nil_append] at hr3
       obtain ⟨sp3, cp3, rfl⟩ := row_form hr3
       have hn3 : (Value.slice sp3 (l.take m).length cp3).ownBlock ≠ some ga := fun e => by
        rcases hat3 with e2 | e2
        · rw [e2] at e; simp [Value.ownBlock] at e; omega
        · rw [e2] at e; simp at e; omega
       have same3 : ∀ j, j < X2.heap.size -> j ≠ X.heap.size -> w3.heap[j]? = X2.heap[j]? := fun j hj hn => hg3.block j hj (fun e => by simp [Value.ownBlock] at e; exact hn e)
       have hB3 : Below w.heap.size w w3 := Below.grown HBX2.out hg3 wz2 (fun j hj => (HE.out.lt j hj).1)
       have z3 := hg3.size
       have hgaX : ga < X.heap.size := by omega
       have rowO3 := row_same (w' := w3) HO2.out (fun j hj => by simp [Value.ownBlock] at hj; subst hj; exact same3 ga (by omega) (by omega))
       have id3 : w3.cell? ⟨wo.heap.size, 0, none⟩ = some (.int .i64 id) := (World.cell?_of_block (a := ⟨wo.heap.size, 0, none⟩) (same3 wo.heap.size (by omega) (by omega))).trans HI2'.out
       obtain ⟨W4, hW4⟩ : ∃ W4, w3.alloc (.cells #[.int .i64 id] 3) = W4 := ⟨_, rfl⟩
       have b4 : Below w3.heap.size w3 W4 := by rw [<- hW4]; exact (Below.refl _ _).alloc (Nat.le_refl _) _
       have z4 : W4.heap.size = w3.heap.size + 1 := by rw [<- hW4]; simp
       have hone : One1 w3.heap.size id (.slice (some ⟨w3.heap.size, 0, none⟩) 1 1) W4 := ⟨w3.heap.size, rfl, Nat.le_refl _, by rw [<- hW4]; exact heap_new _ _⟩
       have row4 := row_same (w' := W4) hr3 (fun j hj => b4.block j (hr3.lt j hj).2)
       have rowO4 := row_same (w' := W4) rowO3 (fun j hj => b4.block j (rowO3.lt j hj).2)
       have hB4 := hB3.trans (b4.mono hB3.size)
       have HR4 := Lib.hid row4
       have HO4 := Lib.hid rowO4
       have HN4 := Lib.hid hone
       have HB4 := Lib.hid hB4
       have HNE3 := Lib.hid hn3
       have wz4 : w.heap.size <= W4.heap.size := by omega
       clear hr3 hg3 hat3 hn3 same3 hB3 rowO3 b4 hone row4 rowO4 hB4 HE HO2 HBX2 HI2'
       go_wp2_with (at_builtin; refine Hid.out ?_)
       refine Lib.hid ?_
       obtain ⟨q, hq, hsq⟩ := HN4.out.src
       refine wpList_appI rfl _ _ rfl w.heap.size (.slice sp3 (l.take m).length cp3) (l.take m) [id] q 1 (by first | rfl | (rw [hltm]; rfl)) HR4.out hq hsq (by simp; omega) wz4 ?_
       intro v5 w5 hr5 hg5 hat5
       obtain ⟨sp5, cp5, rfl⟩ := row_form hr5
       have hn5 : (Value.slice sp5 (l.take m ++ [id]).length cp5).ownBlock ≠ some ga := fun e => by
        rcases hat5 with e2 | e2
        · rw [e2] at e; exact HNE3.out e
        · rw [e2] at e; simp at e; omega
       have rowO5 := row_same (w' := w5) HO4.out (fun j hj => by simp [Value.ownBlock] at hj; subst hj; exact hg5.block ga (by omega) (fun e => HNE3.out e.symm))
       have hB5 : Below w.heap.size w w5 := Below.grown HB4.out hg5 wz4 (fun j hj => (HR4.out.lt j hj).1)
       have wz5 : w.heap.size <= w5.heap.size := hB5.size
       have HR5 := Lib.hid hr5
       have HO5 := Lib.hid rowO5
       have HB5 := Lib.hid hB5
       clear hr5 hg5 hat5 hn5 rowO5 hB5 hq hsq HR4 HO4 HN4 HB4 id3
       have hldm : (l.drop m).length = l.length - m := by simp
       have hlt1 : (l.take m ++ [id]).length = m + 1 := by rw [List.length_append, hltm]; rfl
       have hmi : (0 : Int) <= (m : Int) := by omega
       have hmi2 : (m : Int) <= (l.length : Int) := by omega
       by_cases hcam : ca = m
       · go_wp2_with (at_builtin; refine Hid.out ?_)
         refine Lib.hid ?_
         refine wpList_appI rfl _ _ rfl w.heap.size (.slice sp5 (l.take m ++ [id]).length cp5) (l.take m ++ [id]) (l.drop m) (if ca = m then some ⟨ga, 0, none⟩ else some ⟨ga, m, none⟩) (ca - m) (by first | rfl | (rw [hlt1]; rfl)) HR5.out (by first | (rw [hldm]; rfl) | (rw [hldm, if_neg (by omega)]; rfl) | (rw [hldm, if_pos hcam, hcam, Nat.sub_self]; rfl)) (src_drop HO5.out m) (by simp; omega) wz5 ?_
         intro v7 w7 hr7 hg7 hat7
         have hB7 : Below w.heap.size w w7 := Below.grown HB5.out hg7 wz5 (fun j hj => (HR5.out.lt j hj).1)
         have HR7 := Lib.hid hr7
         have HB7 := Lib.hid hB7
         clear hr7 hg7 hat7 hB7 HO5 HR5 HB5
         go_wp2_with fail
         go_roundw
         case rel =>
          obtain ⟨hsrt, hmem⟩ := HIds.out
          have hnot : id ∉ l := fun e => by
           have := (hmem id).1 e
           obtain ⟨t, ht, et⟩ := List.mem_map.1 this
           obtain ⟨j, hj, rfl⟩ := List.getElem_of_mem ht
           have hj' : j < k := by simp at hj; omega
           rw [List.getElem_take] at et
           have := id_inj HND.out (by omega : j < L.length) hlt (et.trans HId.out.symm)
           omega
          have hs2 := ins_sorted (x := id) hsrt hm HBe.out (fun hj => by
           have h1 : ¬ l[m] < id := absurd hj (by omega)
           have h2 : l[m] ≠ id := fun e => hnot (e ▸ List.getElem_mem hj)
           omega)
          obtain ⟨g8, c8, e8⟩ : ∃ g8 c8, v7 = .slice (some ⟨g8, 0, none⟩) (l.take m ++ [id] ++ l.drop m).length c8 := by
           rcases HR7.out.2 with ⟨_, e⟩ | ⟨g3, c3, cur, e, _⟩
           · simp at e
           · exact ⟨g3, c3, e⟩
          refine ⟨k + 1, _, g8, c8, by go_num, by omega, e8, HR7.out, HB7.out, ?_, hs2, fun x => ?_⟩
          · have := HLen.out; simp; omega
          · have e1 := hmem x
            have hx : x ∈ l ↔ x ∈ l.take m ∨ x ∈ l.drop m := by rw [<- List.mem_append, List.take_append_drop]
            rw [List.take_succ_eq_append_getElem hlt, List.map_append]
            simp only [List.mem_append, <- e1, hx, List.map_cons, List.map_nil, HId.out, List.mem_singleton]
            constructor
            · rintro ((h | h) | h) <;> simp [h]
            · rintro ((h | h) | h) <;> simp [h]
         case measure => simp [RowKit.intOf]; omega
       · go_wp2_with (at_builtin; refine Hid.out ?_)
         refine Lib.hid ?_
         refine wpList_appI rfl _ _ rfl w.heap.size (.slice sp5 (l.take m ++ [id]).length cp5) (l.take m ++ [id]) (l.drop m) (if ca = m then some ⟨ga, 0, none⟩ else some ⟨ga, m, none⟩) (ca - m) (by first | rfl | (rw [hlt1]; rfl)) HR5.out (by first | (rw [hldm]; rfl) | (rw [hldm, if_neg (by omega)]; rfl) | (rw [hldm, if_pos hcam, hcam, Nat.sub_self]; rfl)) (src_drop HO5.out m) (by simp; omega) wz5 ?_
         intro v7 w7 hr7 hg7 hat7
         have hB7 : Below w.heap.size w w7 := Below.grown HB5.out hg7 wz5 (fun j hj => (HR5.out.lt j hj).1)
         have HR7 := Lib.hid hr7
         have HB7 := Lib.hid hB7
         clear hr7 hg7 hat7 hB7 HO5 HR5 HB5
         go_wp2_with fail
         go_roundw
         case rel =>
          obtain ⟨hsrt, hmem⟩ := HIds.out
          have hnot : id ∉ l := fun e => by
           have := (hmem id).1 e
           obtain ⟨t, ht, et⟩ := List.mem_map.1 this
           obtain ⟨j, hj, rfl⟩ := List.getElem_of_mem ht
           have hj' : j < k := by simp at hj; omega
           rw [List.getElem_take] at et
           have := id_inj HND.out (by omega : j < L.length) hlt (et.trans HId.out.symm)
           omega
          have hs2 := ins_sorted (x := id) hsrt hm HBe.out (fun hj => by
           have h1 : ¬ l[m] < id := absurd hj (by omega)
           have h2 : l[m] ≠ id := fun e => hnot (e ▸ List.getElem_mem hj)
           omega)
          obtain ⟨g8, c8, e8⟩ : ∃ g8 c8, v7 = .slice (some ⟨g8, 0, none⟩) (l.take m ++ [id] ++ l.drop m).length c8 := by
           rcases HR7.out.2 with ⟨_, e⟩ | ⟨g3, c3, cur, e, _⟩
           · simp at e
           · exact ⟨g3, c3, e⟩
          refine ⟨k + 1, _, g8, c8, by go_num, by omega, e8, HR7.out, HB7.out, ?_, hs2, fun x => ?_⟩
          · have := HLen.out; simp; omega
          · have e1 := hmem x
            have hx : x ∈ l ↔ x ∈ l.take m ∨ x ∈ l.drop m := by rw [<- List.mem_append, List.take_append_drop]
            rw [List.take_succ_eq_append_getElem hlt, List.map_append]
            simp only [List.mem_append, <- e1, hx, List.map_cons, List.map_nil, HId.out, List.mem_singleton]
            constructor
            · rintro ((h | h) | h) <;> simp [h]
            · rintro ((h | h) | h) <;> simp [h]
         case measure => simp [RowKit.intOf]; omega
  · have hkk : ¬ (k : Int) < (L.length : Int) := by omega
    obtain rfl : k = L.length := by omega
    have HRow := Lib.hid hrow
    clear hrow
    go_wp2_with fail
    go_ret
    have := HIds.out
    rw [List.take_length] at this
    exact ⟨some ⟨ga, 0, none⟩, ca, l, rfl, row_ints HRow.out, hB, this⟩
end
end Go.Proofs.YtmgfakfiiaeofaaGreat.Ho

/- What Make of the reference does where nothing is against it. -/
import Derived.Test.YtmgfakfiiaeofaaGreatHoRefL
import Derived.Test.YtmgfakfiiaeofaaGreatHoMonoT
/- What fits is plain, or free. -/
namespace Go.Proofs.YtmgfakfiiaeofaaGreat.Ho
open Go.RowKit Go.Sort
theorem hasS_no {d l : Int} {xs : List (Int × Int)} : hasS d xs l = false ↔ d ≠ l /\ ∀ x ∈ xs, x.2 ≠ l := by
 unfold hasS
 simp [List.any_eq_false]
 exact And.comm
theorem canL_iff {f n : Int} (hf : f = 0 ∨ f = 1) : canL f n = true ↔ lev n = true /\ n ≠ 5 /\ (f = 1 -> n ≠ 0) := by
 unfold canL lev
 simp only [Bool.and_eq_true, decide_eq_true_eq]
 rcases hf with rfl | rfl <;> simp <;> omega
theorem fOk_iff (d f : Int) (hf : f = 0 ∨ f = 1) : ∀ (xs : List (Int × Int)) (last : Int), fOk d f last xs = true ↔ rOk d last xs = true /\ ∀ x ∈ xs, x.2 ≠ 5 /\ (f = 1 -> x.2 ≠ 0)
 | [], last => by simp [fOk, rOk]
 | x :: xs, last => by
  have ih := fOk_iff d f hf xs x.1
  have hc := canL_iff (n := x.2) hf
  simp only [fOk, rOk, can, Bool.and_eq_true, ih, hc, List.mem_cons, forall_eq_or_imp]
  constructor
  · rintro ⟨⟨⟨⟨h1, h2⟩, h3⟩, h4, h5, h6⟩, h7, h8⟩
    exact ⟨⟨⟨⟨⟨h2, h4⟩, h3⟩, h1⟩, h7⟩, ⟨h5, h6⟩, h8⟩
  · rintro ⟨⟨⟨⟨⟨h2, h4⟩, h3⟩, h1⟩, h7⟩, ⟨h5, h6⟩, h8⟩
    exact ⟨⟨⟨⟨h1, h2⟩, h3⟩, h4, h5, h6⟩, h7, h8⟩
theorem fits_iff (d f : Int) (hf : f = 0 ∨ f = 1) (xs : List (Int × Int)) : fitsS d f xs = true ↔ plainS d xs = true /\ (f = 1 -> hasS d xs 0 = false) := by
 unfold fitsS plainS rightS
 simp only [Bool.and_eq_true, canL_iff hf, fOk_iff d f hf, Bool.not_eq_true', hasS_no]
 constructor
 · rintro ⟨⟨⟨h1, h2, h3⟩, h4⟩, h5, h6⟩
   exact ⟨⟨⟨⟨h1, h4⟩, h5⟩, h2, fun x hx => (h6 x hx).1⟩, fun e => ⟨h3 e, fun x hx => (h6 x hx).2 e⟩⟩
 · rintro ⟨⟨⟨⟨h1, h4⟩, h5⟩, h2, h6⟩, h7⟩
   exact ⟨⟨⟨h1, h2, fun e => (h7 e).1⟩, h4⟩, h5, fun x hx => ⟨h6 x hx, fun e => (h7 e).2 x hx⟩⟩
theorem fits_plain (d : Int) (xs : List (Int × Int)) : fitsS d 0 xs = plainS d xs := by
 rw [Bool.eq_iff_iff, fits_iff d 0 (.inl rfl)]
 simp
theorem fits_free (d : Int) (xs : List (Int × Int)) : fitsS d 1 xs = freeS d xs := by
 rw [Bool.eq_iff_iff, fits_iff d 1 (.inr rfl)]
 unfold freeS
 simp
section
variable {w : World} {rb g cap : Nat} {cs : Array Value} {root : Int} {L : List Th} {F : Nat -> Prop} {S : Abs} {K : List Int} {rt : Int}
def makeS (S : Abs) (n : Nat) (i id kind quota d : Int) (xs : List (Int × Int)) : Int :=
 if contS S i ≠ 0 then contS S i else if kind < 1 ∨ 6 < kind then 5 else if quota < 1 ∨ 1099511627776 < quota ∨ fitsS d (low kind) xs = false then 1
 else if isCt id = false ∨ (S id).isSome = true then 8 else if 4096 <= n then 7 else match S i with
 | some o => if o.quota - o.used < quota then 6 else 0
 | none => 4
def makeT (S : Abs) (n : Nat) (i id kind quota d : Int) (xs : List (Int × Int)) : Abs := if makeS S n i id kind quota d xs = 0 then (match S i with
 | some o => updS (updS S i { o with used := o.used + quota, ents := o.ents ++ [id] }) id (newOb id kind quota d xs)
 | none => S) else S
end
section
variable {P : Program} {ops : Array Oper}
theorem wp_region_monoD {l : List Oper} {id : Nat} {Q : Exit -> Act -> World -> Prop} {a : Act} {w : World} (f0 n c : Nat) (R : Bool -> World -> Prop) (G : Bool -> Nat -> Value -> World -> Prop)
 (hm : P.follows .mixedOrders = true) (hback : backB l.toArray = true) (hdst : dstB (l.take n).toArray a.tmps.size = true) (htail : tailT l.toArray f0 n = true) (hn : n <= l.length)
 (hseq : Region.seqB .any l.toArray (l.length - n) n (List.replicate n true ++ List.replicate (l.length - n) false).toArray = true)
 (hcn : c < n) (hRb : ∀ b A B, R b A -> Below A.heap.size A B -> R b B) (hR0 : R false { w with drawn := w.drawn + 1 })
 (hmono : ∀ b k v W W', G b k v W -> Below W.heap.size W W' -> G b k v W')
 (hstep : ∀ (a' : Act) (W : World) (b : Bool), R b W -> a'.tmps.size = a.tmps.size -> (∀ k, (dsts (l.take n).toArray).contains k = false -> a'.eval (.tmp k) = a.eval (.tmp k)) ->
  ∀ (i : Nat) (o : Oper) (d : Nat), (l.take n)[i]? = some o -> o.dst = some d -> (i = c ∨ needB l.toArray f0 c i = true -> b = false) ->
  (∀ e ∈ o.after, Region.binds .any e = true -> ∀ d', (l[e.on]?).bind (·.dst) = some d' -> G b d' (a'.eval (.tmp d')) W) ->
  (Region.wanted o (yielded l.toArray a'.tmps) = false /\ i ≠ c /\ G b d undef W) ∨
  (Region.wanted o (yielded l.toArray a'.tmps) = true /\ ((∃ v W', (execOp a'.eval o).run P W = .ok (.value v) W' /\ ((i ≠ c /\ Below W.heap.size W W' /\ G b d v W') ∨ (i = c /\ R true W' /\ G true d v W' /\ ∀ k u, k ≠ d -> G false k u W -> G true k u W'))) ∨
   (∃ f args, (execOp a'.eval o).run P W = .ok (.enter f args) W /\ Calls P f args W fun e W' => ∃ v, e = .returned v /\ i ≠ c /\ Below W.heap.size W W' /\ G b d v W'))))
 (hend : ∀ a' W, R true W -> a'.tmps.size = a.tmps.size -> a'.defers = a.defers -> (∀ k, (dsts (l.take n).toArray).contains k = false -> a'.eval (.tmp k) = a.eval (.tmp k)) ->
  (∀ (i d : Nat), i < n -> (l[i]?).bind (·.dst) = some d -> G true d (a'.eval (.tmp d)) W) -> wpList P l.toArray Q (l.drop n) a' W) : (Code.region id l.toArray true).wp P Q a w := by
 refine wp_region_any hm ?_
 have main : ∀ (f : Nat) (li : Array Bool) (a' : Act) (W : World), ClB l.toArray li -> (li.toList.take n).count false = f -> li.size = l.length -> li.toList.drop n = List.replicate (l.length - n) false -> R (li.getD c false) W -> a'.tmps.size = a.tmps.size -> a'.defers = a.defers -> (∀ k, (dsts (l.take n).toArray).contains k = false -> a'.eval (.tmp k) = a.eval (.tmp k)) ->
  (∀ (i d : Nat), i < n -> li.getD i false = true -> (l[i]?).bind (·.dst) = some d -> G (li.getD c false) d (a'.eval (.tmp d)) W) -> wpAny P .any l.toArray Q (f + (l.length - n)) li a' W := by
  intro f
  induction f with
  | zero =>
   intro li a' W hcl hc hsz ht hB hs hdf hk hG
   have hall : ∀ i, i < n -> li.getD i false = true := fun i hi => by
    have hlt : i < li.toList.length := by simp; omega
    have h1 : ¬ false ∈ li.toList.take n := by rw [<- List.count_pos_iff]; omega
    have h2 : li.toList[i] ∈ li.toList.take n := List.mem_take_iff_getElem.2 ⟨i, by omega, rfl⟩
    have h3 : li.toList[i] = true := by
     cases hx : li.toList[i] with
     | true => rfl
     | false => rw [hx] at h2; exact absurd h2 h1
    rw [Array.getD_eq_getD_getElem?, <- Array.getElem?_toList, List.getElem?_eq_getElem hlt, h3]; rfl
   have hli : li = (List.replicate n true ++ List.replicate (l.length - n) false).toArray := by
    apply Array.toList_inj.1
    rw [<- List.take_append_drop n li.toList, ht]
    congr 1
    apply List.ext_getElem (by simp; omega)
    intro i h1 h2
    simp only [List.getElem_take, List.getElem_replicate]
    have hi : i < n := by simp at h2; exact h2
    have := hall i hi
    have hlt : i < li.size := by omega
    rw [Array.getD_eq_getD_getElem?, Array.getElem?_eq_getElem hlt] at this
    simpa using this
   have hcc := hall c hcn
   rw [hcc] at hG hB
   have hw := hend a' W hB hs hdf hk fun i d hi hd => hG i d hi (hall i hi) hd
   have := wpAny_of_seq (P := P) (ops := l.toArray) (md := .any) (Q' := Q) (l.drop n) n li a' W (fun j => by simp [List.getElem?_drop]) (by rw [hli, List.length_drop]; exact hseq) hw
   rw [List.length_drop] at this
   rw [Nat.zero_add]
   exact this
  | succ f ih =>
   intro li a' W hcl hc hsz ht hB hs hdf hk hG
   rw [Nat.succ_add]
   have hnot : ¬ ∀ j, j < n -> li.getD j false = true := by
    intro hall
    have hp : 0 < (li.toList.take n).count false := by omega
    have h2 := List.count_pos_iff.1 hp
    obtain ⟨i, hi, he⟩ := List.mem_take_iff_getElem.1 h2
    have hin : i < n := by omega
    have hil : i < li.toList.length := by omega
    have := hall i hin
    rw [Array.getD_eq_getD_getElem?, <- Array.getElem?_toList, List.getElem?_eq_getElem hil, he] at this
    cases this
   refine ⟨fun he => ?_, fun i hi => ?_⟩
   · exact absurd (fun j hj => ready_nil_all hback (by simpa using hsz) he j j (Nat.le_refl _) (by simp; omega)) hnot
   · obtain ⟨hu, o, ho, hd⟩ := mem_ready.1 hi
     have hin : i < n := Nat.lt_of_not_le fun h => hnot (tail_allT htail ho h hcl hd)
     have ho' : (l.take n)[i]? = some o := by rw [List.getElem?_take_of_lt hin]; simpa using ho
     have hoa : (l.take n).toArray[i]? = some o := by simpa using ho'
     obtain ⟨d, hdo, hdn⟩ := dst_of hdst hoa
     have hl : li.toList[i]? = some false := by
      rw [Array.getD_eq_getD_getElem?] at hu
      rw [Array.getElem?_toList]
      cases hx : li[i]? with
      | none => rw [hx] at hu; cases hu
      | some b => rw [hx] at hu; simpa using hu
     have hci : i = c -> li.getD c false = false := fun e => by
      subst e
      rw [Array.getD_eq_getD_getElem?, <- Array.getElem?_toList, hl]; rfl
     have hcj : i = c ∨ needB l.toArray f0 c i = true -> li.getD c false = false := fun e => by
      rcases e with e | e
      · exact hci e
      · cases hx : li.getD c false with
        | false => rfl
        | true =>
         have hoc : ∃ oc, l.toArray[c]? = some oc := ⟨l[c]'(by omega), by simp⟩
         obtain ⟨oc, hoc⟩ := hoc
         have := need_done hcl f0 c i oc hoc (hcl c oc hoc hx) e
         rw [Array.getD_eq_getD_getElem?, <- Array.getElem?_toList, hl] at this
         cases this
     have next : ∀ (v : Value) (W' : World) (b' : Bool), (li.setIfInBounds i true).getD c false = b' -> R b' W' -> (∀ k u, k ≠ d -> G (li.getD c false) k u W -> G b' k u W') -> G b' d v W' -> wpAny P .any l.toArray Q (f + (l.length - n)) (li.setIfInBounds i true) (a'.put o.dst v) W' := by
      intro v W' b' hb' hRW hcv hv
      rw [hdo]
      refine ih _ _ _ (hcl.set ho hd) ?_ (by rw [Array.size_setIfInBounds]; exact hsz) ?_ (by rw [hb']; exact hRW) (by simp only [Act.put]; rw [Array.size_setIfInBounds]; exact hs) (by simp only [Act.put]; exact hdf) ?_ ?_
      · have := cnt_take li.toList n i hin hl
        rw [Array.toList_setIfInBounds]; omega
      · rw [Array.toList_setIfInBounds, List.drop_set_of_lt hin]; exact ht
      · intro k hkn
        rw [put_ne a' v (fun e => by rw [e, List.contains_iff_mem.2 (mem_dsts hoa hdo)] at hkn; cases hkn)]
        exact hk k hkn
      · intro j dj hjn hj hdj
        rw [hb']
        by_cases hij : j = i
        · subst hij
          rw [show l[j]? = some o from by simpa using ho] at hdj
          have : d = dj := Option.some.inj (hdo.symm.trans hdj)
          subst this
          rw [put_eq a' v (by rw [hs]; exact hdn)]
          exact hv
        · have hj' : li.getD j false = true := by
           rw [Array.getD_eq_getD_getElem?, Array.getElem?_setIfInBounds_ne (Ne.symm hij)] at hj
           rw [Array.getD_eq_getD_getElem?]; exact hj
          have hne : dj ≠ d := by
           intro e
           subst e
           cases hoj : l[j]? with
           | none => rw [hoj] at hdj; cases hdj
           | some o' =>
            rw [hoj] at hdj
            exact hij (dst_inj hdst (show (l.take n).toArray[j]? = some o' from by simp [List.getElem?_take_of_lt hjn, hoj]) hoa hdj hdo)
          rw [put_ne a' v hne]
          exact hcv _ _ hne (hG j dj hjn hj' hdj)
     have keepB : i ≠ c -> (li.setIfInBounds i true).getD c false = li.getD c false := fun hne => by
      rw [Array.getD_eq_getD_getElem?, Array.getElem?_setIfInBounds_ne hne, <- Array.getD_eq_getD_getElem?]
     have setB : i = c -> (li.setIfInBounds i true).getD c false = true := fun e => by
      subst e
      have hlt : i < li.size := by have := (Array.getElem?_eq_some_iff.1 ho).1; simp at this; omega
      rw [Array.getD_eq_getD_getElem?, Array.getElem?_setIfInBounds_self_of_lt hlt]; rfl
     unfold wpOp
     rw [ho]
     simp only
     have hdeps : ∀ e ∈ o.after, Region.binds .any e = true -> ∀ d', (l[e.on]?).bind (·.dst) = some d' -> G (li.getD c false) d' (a'.eval (.tmp d')) W := by
      intro e he hbd d' hd'
      have hlt : e.on < i := by
       have h1 := List.all_eq_true.1 hback i (List.mem_range.2 (Array.getElem?_eq_some_iff.1 ho).1)
       rw [ho] at h1
       have := Array.all_eq_true_iff_forall_mem.1 h1 e he
       simpa using this
      exact hG e.on d' (by omega) (hd e he hbd) hd'
     rcases hstep a' W _ hB hs hk i o d ho' hdo hcj hdeps with ⟨hw, hne, hg⟩ | ⟨hw, h2⟩
     · simp only [hw, Bool.false_eq_true, if_false]
       exact next undef W _ (keepB hne) hB (fun _ _ _ h => h) hg
     · simp only [hw, if_true]
       refine .inl ?_
       unfold Oper.wp
       rcases h2 with ⟨v, w', hr, hb⟩ | ⟨f', args, hr, hc'⟩
       · rw [hr]
         rcases hb with ⟨hne, hb, hI⟩ | ⟨he, hRW, hI, hcv⟩
         · exact next v w' _ (keepB hne) (hRb _ _ _ hB hb) (fun k u _ h => hmono _ k u _ _ h hb) hI
         · exact next v w' true (setB he) hRW (fun k u hne h => hcv k u hne (by rw [hci he] at h; exact h)) hI
       · rw [hr]
         exact hc'.mono fun e w'' ⟨v, he, hne, hb, hI⟩ => by subst he; exact next v w'' _ (keepB hne) (hRb _ _ _ hB hb) (fun k u _ h => hmono _ k u _ _ h hb) hI
 have h0 : ((Array.replicate l.toArray.size false).toList.take n).count false = n := by simp [List.take_replicate]; omega
 have := main n (Array.replicate l.toArray.size false) a { w with drawn := w.drawn + 1 } (fun i o _ hi => by rw [Array.getD_eq_getD_getElem?, Array.getElem?_replicate] at hi; split at hi <;> simp at hi) h0 (by simp) (by simp) (by rw [show (Array.replicate l.toArray.size false).getD c false = false from by rw [Array.getD_eq_getD_getElem?, Array.getElem?_replicate]; split <;> rfl]; exact hR0) rfl rfl (fun _ _ => rfl) (by
  intro i d _ hi
  rw [Array.getD_eq_getD_getElem?, Array.getElem?_replicate] at hi
  split at hi <;> simp at hi)
 rw [show n + (l.length - n) = l.toArray.size from by simp; omega] at this
 exact this
end
section
variable {w : World} {rb g cap : Nat} {cs : Array Value} {root : Int} {L : List Th} {F : Nat -> Prop} {S : Abs} {K : List Int} {rt : Int}
def RB (w : World) (g : Nat) (b : Bool) (X : World) : Prop := X.os = w.os /\ X.tape = w.tape /\ X.output = w.output /\ w.heap.size <= X.heap.size /\ ∀ k, k < w.heap.size -> (k ≠ g ∨ b = false) -> X.heap[k]? = w.heap[k]?
theorem RB.below {w X Y : World} {g : Nat} {b : Bool} (h : RB w g b X) (hb : Below X.heap.size X Y) : RB w g b Y :=
 ⟨hb.os.trans h.1, hb.tape.trans h.2.1, hb.output.trans h.2.2.1, Nat.le_trans h.2.2.2.1 hb.size, fun k hk hn => (hb.block k (Nat.lt_of_lt_of_le hk h.2.2.2.1)).trans (h.2.2.2.2 k hk hn)⟩
def nTh (id kind quota d : Int) (p : Option Addr) (cc : Nat) (xs : List (Int × Int)) : Th := ⟨id, kind, quota, d, p, cc, xs, none, 0, []⟩
def OneT (w : World) (t : Th) (v : Value) (X : World) : Prop := ∃ b, v = .slice (some ⟨b, 0, none⟩) 1 1 /\ w.heap.size <= b /\ X.heap[b]? = some (.cells (thC t).toArray 130 (0, 0))
theorem OneT.below {w : World} {t : Th} {v : Value} {X X' : World} (h : OneT w t v X) (hb : Below X.heap.size X X') : OneT w t v X' := by
 obtain ⟨b, h1, h2, h3⟩ := h
 exact ⟨b, h1, h2, (hb.block b (heap_lt h3)).trans h3⟩
theorem OneT.src {w : World} {t : Th} {v : Value} {X : World} (h : OneT w t v X) : ∃ q, v = .slice q [t].length 1 /\ SrcT X q [t] := by
 obtain ⟨b, h1, h2, h3⟩ := h
 refine ⟨_, h1, .inr ⟨_, rfl, fun j u hu => ?_⟩⟩
 rw [thsC_one] at hu
 have : (⟨b, 0, none⟩ : Addr).add j = ⟨b, j, none⟩ := by rw [addr_plus]; simp
 rw [this]
 simp only [World.cell?, h3]
 simpa using hu
def AllT (w : World) (g : Nat) (l : List Th) (v : Value) (X : World) : Prop := ∃ g' c', v = .slice (some ⟨g', 0, none⟩) l.length c' /\ (g' = g ∨ w.heap.size <= g') /\ X.ownsRow 0 130 6 v l.length (thsC l)
theorem AllT.below {w : World} {g : Nat} {l : List Th} {v : Value} {X X' : World} (h : AllT w g l v X) (hb : Below X.heap.size X X') : AllT w g l v X' := by
 obtain ⟨g', c', h1, h2, h3⟩ := h
 exact ⟨g', c', h1, h2, row_same h3 (fun k hk => hb.block k (h3.lt k hk).2)⟩
theorem appT_at {X : World} {v : Value} {l l' : List Th} {q : Option Addr} {c : Nat} (hown : X.ownsRow 0 130 6 v l.length (thsC l)) (hs : SrcT X q l') (hl : l.length + l'.length < 1000000) (ty : TypeId) :
 ∃ v' X', (Builtin.append_ #[131, 131] ty #[v, .slice q l'.length c]).run Tryz.prog X = .ok v' X' /\ X'.ownsRow 0 130 6 v' (l ++ l').length (thsC (l ++ l')) /\ X.grownBy X' v.ownBlock /\ (v'.ownBlock = v.ownBlock ∨ v'.ownBlock = some X.heap.size) := by
 obtain ⟨i0, hi, hz0, hz1, hz2⟩ := info_parts thInfo
 have hT : Tryz.prog.underlying 131 = some (.slice 130) := by kernel_rfl
 rcases hs with ⟨rfl, rfl⟩ | ⟨a, rfl, hc⟩
 · rw [List.append_nil]
   exact ⟨_, X, run_append_owned_none (P := Tryz.prog) X 0 131 ty 130 i0 6 hT hi _ _ _ hown, hown, ⟨rfl, rfl, rfl, Nat.le_refl _, fun _ _ _ => rfl⟩, .inl rfl⟩
 · obtain ⟨v', w', hr, ho', hgw, _, hat⟩ := run_append_own_at (P := Tryz.prog) X 0 131 ty 130 i0 (.agg #[.int .i64 0, .int .i64 0, .int .i64 0, .int .i64 0, .slice none 0 0, .slice none 0 0]) 6 80 hT hi hz0 hz1 hz2 rfl (by decide) v l.length (thsC l) hown a l'.length c (thsC l') (thsC_len _) hc (thsC_cell _) (by unfold maxLen; omega) (by omega) (Nat.zero_le _)
   exact ⟨v', w', hr, by rw [List.length_append, thsC_app]; exact ho', hgw, hat⟩
theorem RS.grow {W X : World} {rb g cap : Nat} {cs : Array Value} {root : Int} {L : List Th} {F : Nat -> Prop} (h : RS W rb g cap cs root L F) {t : Th} {g' c' : Nat} (hX : RB W g true X) (hA : X.ownsRow 0 130 6 (.slice (some ⟨g', 0, none⟩) (L.length + 1) c') (L.length + 1) (thsC (L ++ [t]))) (hg' : g' = g ∨ W.heap.size <= g')
 (hno : ∀ u ∈ L, u.id ≠ t.id) (hl : L.length < 4096) (hc : CatsAt W t.cp t.cats) (ho : Off (fun b => b = rb ∨ b = g ∨ F b) t.cp t.cats.length) (hlc : t.cats.length < 1000000) (hle : t.ents = []) :
 ∃ cs', RS (X.setCell ⟨rb, 1, none⟩ (.slice (some ⟨g', 0, none⟩) (L.length + 1) c')) rb g' c' cs' root (L ++ [t]) F /\ Fm W (X.setCell ⟨rb, 1, none⟩ (.slice (some ⟨g', 0, none⟩) (L.length + 1) c')) (fun k => k = rb ∨ k = g) (fun k => k = rb ∨ k = g') := by
 have hr := h.rl
 have hne := h.ne
 have hXrb : X.heap[rb]? = some (.cells #[.int .i64 root, .slice (some ⟨g, 0, none⟩) L.length cap] 133 (0, 0)) := (hX.2.2.2.2 rb hr.1 (.inl hne)).trans h.tab
 rcases hA.2 with ⟨e, _⟩ | ⟨g2, c2, cur, e, _, hb, h2, h3, h4, h5⟩
 · cases e
 · simp only [Value.slice.injEq, Option.some.injEq, Addr.mk.injEq, and_true, true_and] at e
   obtain ⟨rfl, rfl⟩ := e
   have hneg : rb ≠ g' := fun e => by rw [e, hb] at hXrb; simp at hXrb
   refine ⟨cur, h.put (W := W) (Below.refl _ _) (W' := X.setCell ⟨rb, 1, none⟩ (.slice (some ⟨g', 0, none⟩) (L.length + 1) c')) (L' := L ++ [t]) ?_ ?_ h4 (by simpa using h2) (fun j u hu => ?_) ?_ ⟨by simp; omega, fun u hu => ?_⟩ h3 ⟨hX.1, hX.2.1, hX.2.2.1⟩ (by simpa using hX.2.2.2.1) (fun k hk h1 h6 h7 => ?_) hg' (fun u hu => ?_)⟩
   · rw [heap_setCell_same X rb 1 _ _ _ hXrb]; simp
   · rw [heap_ne _ _ _ (fun e => hneg e.symm)]; exact hb
   · have hj : j < (L.length + 1) * 6 := by have := (List.getElem?_eq_some_iff.1 hu).1; rw [thsC_len] at this; simpa using this
     rw [<- h5, List.getElem?_take_of_lt hj, Array.getElem?_toList] at hu
     exact hu
   · rw [List.map_append, List.nodup_append]
     exact ⟨h.nd, by simp, fun a ha b hb' e => by simp at hb'; obtain ⟨u, hu, rfl⟩ := List.mem_map.1 ha; exact hno u hu (e.trans hb')⟩
   · rcases List.mem_append.1 hu with hu | hu
     · exact h.lim.2 u hu
     · simp at hu; subst hu; exact ⟨hlc, by rw [hle]; decide⟩
   · rw [heap_ne _ _ _ h1]; exact hX.2.2.2.2 k hk (.inl h6)
   · rcases List.mem_append.1 hu with hu | hu
     · exact h.old (Below.refl _ _) hg' hu
     · simp at hu; subst hu
       refine ⟨hc, (fun j hj => by rw [hle] at hj; simp at hj), fun hn a ha hx => ?_, fun hn => by rw [hle] at hn; simp at hn⟩
       rcases hx with e | e | e | e
       · exact ho hn a ha (.inl e)
       · exact ho hn a ha (.inr (.inl e))
       · rcases hg' with e2 | e2
         · exact ho hn a ha (.inr (.inl (e.trans e2)))
         · obtain ⟨b, off, hp, hbl, _⟩ := hc 0 hn
           rw [ha] at hp; cases hp; simp at e; omega
       · exact ho hn a ha (.inr (.inr e))
end
end Go.Proofs.YtmgfakfiiaeofaaGreat.Ho

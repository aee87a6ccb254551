import PyProof.Rows.All
import Wide.All
import OpenK.AllK
import Wide.FinOn
import HandS.ForMost
import HandS.ForExc
import HandS.TupAny
import HandS.TupMul
import HandS.Conv
import HandS.Deep
import HandS.SetFor
import PyProof.SeqIndex
import HandS.Walk
import HandS.IsInst
import HandS.CallSlots
import HandS.Text
import HandS.Style
import HandS.Flow
import HandS.Zip
import HandS.StrMore
import HandS.Star
import HandS.RaiseMore
import HandS.Property
import HandS.MakeKwOnly
import HandS.ExcInit
import HandS.ExcField
import KE.GoesEnumKw
import HandS.ExcIs
import KE.KExcIs
import HandS.Small
import HandS.TryMany
import PySem.Challenge.RW_homefrees_k12_machines_refused
set_option Elab.async false
set_option linter.all false
set_option maxRecDepth 100000
set_option maxHeartbeats 2000000
namespace Dn
open PySem PySem.Spec PyProof.Rows L2
/-! Tuples that are known to their object: what makes a tuple, told so. -/
/-- a tuple, its object without a dict -/
def TupN (K : PySem.W.Frag) (H : Hp) (a : Addr) (vs : List V) : Prop :=
  (∃ o, H a = some (.frz o (.tup vs)) ∧ o.cls = .type "tuple" ∧ o.dict = none) ∨ ∃ o its n, K.lookup a = some o ∧ o.cls = .type "tuple" ∧ o.data = .seq its n ∧ its.size ≤ sizeLine ∧ Vals vs its.toList ∧ o.dict = none
theorem TupN.sq {K : PySem.W.Frag} {H : Hp} {a : Addr} {vs : List V} (h : TupN K H a vs) : SqT K H a vs := by
  rcases h with ⟨o, h, _⟩ | ⟨o, its, n, h1, h2, h3, h4, h5, _⟩
  · exact .inl (.inr ⟨o, h⟩)
  · exact .inr ⟨o, its, n, h1, h2, h3, h4, h5⟩
/-- what is wanted of a new tuple -/
def NewT (H : Hp) (xs : List V) (Q : VK) : Prop := ∀ p o, H p = none → o.cls = .type "tuple" → o.dict = none → Q (.ref p) (upd H p (.frz o (.tup xs)))
section
variable {X : Cx} {pins : List (Addr × Obj)} {σ : L2.St} {H : Hp} {s : Shared} {Q : VK} {xs : List V} {us : List Value}
/-- a tuple object is laid -/
theorem laidT {h' : Heap} {a : Addr} {c : Nat} (I : Inv X pins σ H s) (kp : ∀ b o, s.heap.get? b = some o → h'.get? b = some o) (ha : s.heap.objs.size ≤ a) (e : h'.get? a = some { cls := .type "tuple", data := .seq us.toArray c }) (r : Vals xs us) (hz : xs.length ≤ sizeLine) (q : NewT H xs Q) :
    EP X pins σ Q (.ref a) { s with heap := h' } := by
  refine ⟨.ref a, _, I.laid (t' := s.toks) (o := .frz { cls := .type "tuple", data := .seq us.toArray c } (.tup xs)) kp ha ⟨e, hz, us, r, _, e, rfl, _, rfl⟩, rfl, q a _ (I.hok.fresh ha) rfl rfl⟩
def tTupF (t : TA) : TE := fun σ H Q => t σ H fun xs H1 => xs.length ≤ sizeLine ∧ NewT H1 xs Q
theorem pe_tupF {es : List Expr} {t : TA} {pos : Pos} {x1} (h : PA X es t) : PE X (.Tuple es x1 pos) (tTupF t) := ⟨fun pins s σ H Q I hq => by
  refine wpAny_Tuple_spliced (thn (h.run pos pins s σ H _ I hq) fun us s1 ⟨xs, H1, I1, r, z, q⟩ => And.intro (by rw [← r.length]; exact z) ?_)
  exact laidT I1 (fun b u e => Heap.get?_push_of_some _ e) (Nat.le_refl _) (Heap.get?_push_size _ rfl) r z q⟩
def rCatF (K : PySem.W.Frag) : R2 := fun x y H Q => ∃ a b xs ys, x = .ref a ∧ y = .ref b ∧ SqT K H a xs ∧ SqT K H b ys ∧ xs.length + ys.length ≤ sizeLine ∧ (xs = [] → Q (.ref b) H) ∧ (xs ≠ [] → ys = [] → Q (.ref a) H) ∧ (xs ≠ [] → ys ≠ [] → NewT H (xs ++ ys) Q)
theorem op_catF : OpR X (binaryOp .Add) (rCatF X.K) := fun pins s σ H x y v u Q I rx ry h => by
  obtain ⟨a, b, xs, ys, rfl, rfl, ha, hb, hz, q0, q1, q2⟩ := h
  cases rx
  cases ry
  obtain ⟨i1, r1, p1, _⟩ := I.tuple ha
  obtain ⟨i2, r2, p2, _⟩ := I.tuple hb
  by_cases hx : xs = []
  · subst hx
    cases r1
    exact cat_tup0 p1 p2 ⟨.ref b, H, I, rfl, q0 rfl⟩
  · exact HT.cat_tup p1 p2 (fun z => hx (r1.nil_iff.mp z)) (fun z => ⟨.ref a, H, I, rfl, q1 hx (r2.nil_iff.mp z)⟩) (fun z => laidT I (fun b ob q => Heap.get?_push_of_some _ q) (Nat.le_refl _) (Heap.get?_push_size _ rfl) (r1.append r2) (by rw [List.length_append]; exact hz) (q2 hx fun w => z (r2.nil_iff.mpr w))) (by rw [← r1.length, ← r2.length]; exact hz)
def rSlF (K : PySem.W.Frag) : V → Option Int → Option Int → Hp → VK → Prop := fun x lo hi H Q => ∃ a xs, x = .ref a ∧ SqT K H a xs ∧
  (HT.sIx xs.length 0 lo = 0 ∧ HT.sIx xs.length xs.length hi = xs.length → Q (.ref a) H) ∧ (¬ (HT.sIx xs.length 0 lo = 0 ∧ HT.sIx xs.length xs.length hi = xs.length) → NewT H (cutV xs lo hi) Q)
theorem sl_tupF : SlR X (rSlF X.K) := fun pins s σ H x v vl vu lo hi sl Q I rx hs pl pu h => by
  obtain ⟨a, xs, rfl, hx, q1, q2⟩ := h
  cases rx
  obtain ⟨its, r, ht, hz⟩ := I.tuple hx
  have hl : its.toArray.size = xs.length := by rw [List.size_toArray]; exact r.length.symm
  refine ⟨"tuple", _, PyProof.Rows.slot_tuple_getitem.lookup, ht.typeIs, ?_⟩
  by_cases hw : HT.sIx xs.length 0 lo = 0 ∧ HT.sIx xs.length xs.length hi = xs.length
  · exact getItem_tuple_whole ht hs pl pu (by rw [hl]; exact hw) ⟨.ref a, H, I, rfl, q1 hw⟩
  · refine HT.getItem_tuple_cut ht hs pl pu (by rw [hl]; exact hw) ?_ (by rw [hl]; exact hz)
    rw [hl]
    exact laidT I (fun b ob q => Heap.get?_push_of_some _ q) (Nat.le_refl _) (Heap.get?_push_size _ rfl) ((r.drop (HT.sIx xs.length 0 lo)).take (HT.sIx xs.length xs.length hi - HT.sIx xs.length 0 lo)) (Nat.le_trans (cutV_length xs lo hi) hz) (q2 hw)
/-- tuple(l), tuple(t) -/
theorem call_tupleF : CallR X (.type "tuple") (fun xs H Q => ∃ p ys, xs = [.ref p] ∧ ((SqL X.K H p ys ∧ NewT H ys Q) ∨ (SqT X.K H p ys ∧ Q (.ref p) H))) := fun pins s σ H xs us Q I r h => by
  obtain ⟨p, ys, rfl, h⟩ := h
  obtain ⟨u, rfl, rx⟩ := vals1 r
  cases rx
  rcases h with ⟨hq, q⟩ | ⟨hq, q⟩
  · obtain ⟨its, r1, pl, hz⟩ := I.list hq
    have hl := r1.length
    refine call_tuple_list pl.isList (fun h' kp => ?_) (by simp only [List.size_toArray] <;> omega)
    exact laidT (s := { s with heap := h' }) (I.kept (h' := h') (t' := s.toks) kp) (fun b o e => Heap.get?_push_of_some _ e) (Nat.le_refl _) (Heap.get?_push_size _ rfl) r1 hz q
  · obtain ⟨its, r1, pl, _⟩ := I.tuple hq
    exact call_tuple_same pl ⟨.ref p, H, I, rfl, q⟩
end
end Dn

set_option Elab.async false
set_option linter.all false
set_option maxRecDepth 100000
set_option maxHeartbeats 2000000
namespace Dn
open PySem PySem.Spec PyProof.Rows L2
/-! ## in, count, index, extend over tuples and lists of data -/
section
variable {X : Cx}
def rInTD (neg : Bool) (K : PySem.W.Frag) : R2 := fun x y H Q => ∃ d ds, Dp K H x d ∧ Dp K H y (.tuple ds) ∧ SeqAt.shaped d = true ∧ SeqAt.shaped (.list ds) = true ∧ Q (.bl (if neg then !ds.any fun z => PyData.eqv z d else ds.any fun z => PyData.eqv z d)) H
theorem op_inTD (hu : X.A.units + 65 < cLine) : OpR X (compareOp .In) (rInTD false X.K) := fun pins s σ H x y v u Q I rx ry h => by
  obtain ⟨d, ds, hd, he, sd, se, q⟩ := h
  obtain ⟨as, r1⟩ := Dp.reads I d x v hd rx
  obtain ⟨bs, r2⟩ := Dp.reads I (.tuple ds) y u he ry
  exact SeqAt.in_tuple_reads r2 r1 (SeqAt.canLay_of_shaped se) (SeqAt.canLay_of_shaped sd) (room_in_shaped sd hu) ⟨.bl _, H, I, rfl, q⟩
theorem op_notInTD (hu : X.A.units + 65 < cLine) : OpR X (compareOp .NotIn) (rInTD true X.K) := fun pins s σ H x y v u Q I rx ry h => by
  obtain ⟨d, ds, hd, he, sd, se, q⟩ := h
  obtain ⟨as, r1⟩ := Dp.reads I d x v hd rx
  obtain ⟨bs, r2⟩ := Dp.reads I (.tuple ds) y u he ry
  exact SeqAt.notIn_tuple_reads r2 r1 (SeqAt.canLay_of_shaped se) (SeqAt.canLay_of_shaped sd) (room_in_shaped sd hu) ⟨.bl _, H, I, rfl, q⟩
/-- the items of data at an address, list or tuple -/
def SeqD (K : PySem.W.Frag) (H : Hp) (tp : Bool) (a : Addr) (ds : List PyData) : Prop := if tp then Dp K H (.ref a) (.tuple ds) else Dp K H (.ref a) (.list ds)
def rCntD (tp : Bool) (K : PySem.W.Frag) : V → List V → Hp → VK → Prop := fun x xs H Q => ∃ (a : Addr) (y : V) (d : PyData) (ds : List PyData), x = V.ref a ∧ xs = [y] ∧ SeqD K H tp a ds ∧ Dp K H y d ∧ SeqAt.shaped (.list ds) = true ∧ SeqAt.shaped d = true ∧
  Q (.int (ds.countP fun z => PyData.eqv z d : Nat)) H
theorem count_reads {h : Heap} {its : List Value} {ds : List PyData} {as : List Addr} {d : PyData} (hc : PyData.canLayAll0 ds = true) (r : ReadsAll h its ds as) : its.countP (fun u => PyData.eqv (SeqAt.readOf h u) d) = ds.countP fun z => PyData.eqv z d := by
  have hm := SeqAt.readsAll_map ds its as hc r
  rw [← hm, List.countP_map]; rfl
theorem mt_tcountD (hu : X.A.units + 65 < cLine) : MtR X "tuple.count" (rCntD true X.K) := fun pins s σ H x xs v us Q I rx rxs h => by
  obtain ⟨a, y, d, ds, rfl, rfl, hl, hy, sl, sd, q⟩ := h
  cases rx
  cases rxs with
  | @cons _ uy _ _ ry rt =>
    cases rt
    obtain ⟨bs, r1⟩ := Dp.reads I d y uy hy ry
    have hxs : PyData.canLayAll0 ds = true := SeqAt.canLay_of_shaped sl
    cases (show Dp X.K H (.ref a) (.tuple ds) from hl) with
    | tup hs ha =>
      obtain ⟨its, rv, ⟨⟨cls, dd, data, sls⟩, ho, hc, n, hdt⟩, _⟩ := I.tuple hs
      simp only at hc hdt
      subst hc hdt
      obtain ⟨as, h4⟩ := Dp.readsAll I ds _ its ha rv
      refine call_meets PySem.F.slot_tuple_count ⟨_, ho, rfl⟩ PySem.F.entry_tuple_count (PySem.F.args_tuple_count_2 _ _) (SeqAt.tuple_countAt a its.toArray n dd sls uy (fun u => PyData.eqv (SeqAt.readOf s.heap u) d))
        ⟨ho, SeqAt.items_eqAt (vs := its.toArray) (show ReadsAll s.heap its.toArray.toList ds as from h4) r1 hxs (SeqAt.canLay_of_shaped sd) (room_in_shaped sd hu), ?_⟩
      refine ⟨.int _, H, I.tok _, ⟨_, rfl⟩, ?_⟩
      rw [← count_reads (d := d) hxs h4] at q
      exact q
theorem mt_lcountD (hu : X.A.units + 65 < cLine) : MtR X "list.count" (rCntD false X.K) := fun pins s σ H x xs v us Q I rx rxs h => by
  obtain ⟨a, y, d, ds, rfl, rfl, hl, hy, sl, sd, q⟩ := h
  cases rx
  cases rxs with
  | @cons _ uy _ _ ry rt =>
    cases rt
    obtain ⟨bs, r1⟩ := Dp.reads I d y uy hy ry
    have hxs : PyData.canLayAll0 ds = true := SeqAt.canLay_of_shaped sl
    cases (show Dp X.K H (.ref a) (.list ds) from hl) with
    | lst hs ha =>
      obtain ⟨its, rv, ⟨⟨cls, dd, data, sls⟩, n, ho, hc, hdn, hdt⟩, _⟩ := I.list hs
      simp only at hc hdt
      subst hc hdt
      obtain ⟨as, h4⟩ := Dp.readsAll I ds _ its ha rv
      refine call_meets PySem.F.slot_list_count ⟨_, ho, rfl⟩ PySem.F.entry_list_count (PySem.F.args_list_count_2 _ _) (SeqAt.list_countAt a its.toArray n dd sls uy (fun u => PyData.eqv (SeqAt.readOf s.heap u) d))
        ⟨ho, SeqAt.items_eqAt (vs := its.toArray) (show ReadsAll s.heap its.toArray.toList ds as from h4) r1 hxs (SeqAt.canLay_of_shaped sd) (room_in_shaped sd hu), ?_⟩
      refine ⟨.int _, H, I.tok _, ⟨_, rfl⟩, ?_⟩
      rw [← count_reads (d := d) hxs h4] at q
      exact q
def rIdxD (K : PySem.W.Frag) : V → List V → Hp → VK → Prop := fun x xs H Q => ∃ (a : Addr) (y : V) (d : PyData) (ds : List PyData) (j : Nat), x = V.ref a ∧ xs = [y] ∧ SeqD K H true a ds ∧ Dp K H y d ∧ SeqAt.shaped (.list ds) = true ∧ SeqAt.shaped d = true ∧
  (ds.findIdx? fun z => PyData.eqv z d) = some j ∧ Q (.int (j : Nat)) H
theorem mt_tindexD (hu : X.A.units + 65 < cLine) : MtR X "tuple.index" (rIdxD X.K) := fun pins s σ H x xs v us Q I rx rxs h => by
  obtain ⟨a, y, d, ds, j, rfl, rfl, hl, hy, sl, sd, hj, q⟩ := h
  cases rx
  cases rxs with
  | @cons _ uy _ _ ry rt =>
    cases rt
    obtain ⟨bs, r1⟩ := Dp.reads I d y uy hy ry
    have hxs : PyData.canLayAll0 ds = true := SeqAt.canLay_of_shaped sl
    cases (show Dp X.K H (.ref a) (.tuple ds) from hl) with
    | tup hs ha =>
      obtain ⟨its, rv, ⟨⟨cls, dd, data, sls⟩, ho, hc, n, hdt⟩, _⟩ := I.tuple hs
      simp only at hc hdt
      subst hc hdt
      obtain ⟨as, h4⟩ := Dp.readsAll I ds _ its ha rv
      have hm := SeqAt.readsAll_map ds its as hxs h4
      have hl : its.length = ds.length := by rw [← hm, List.length_map]
      rw [List.findIdx?_eq_some_iff_getElem] at hj
      obtain ⟨hjl, hyes, hno⟩ := hj
      have at_ : ∀ (m : Nat) (hm1 : m < its.toArray.size) (hm2 : m < ds.length), SeqAt.readOf s.heap its.toArray[m] = ds[m] := fun m h1 h2 => by
        have e1 : (its.map (SeqAt.readOf s.heap))[m]? = ds[m]? := by rw [hm]
        have h3 : m < its.length := by simpa using h1
        rw [List.getElem?_map, List.getElem?_eq_getElem h3, List.getElem?_eq_getElem h2] at e1
        simpa using e1
      have hjs : j < its.toArray.size := by simpa [hl] using hjl
      have eqa := SeqAt.items_eqAt (vs := its.toArray) (show ReadsAll s.heap its.toArray.toList ds as from h4) r1 hxs (SeqAt.canLay_of_shaped sd) (room_in_shaped sd hu)
      refine call_meets PySem.F.slot_tuple_index ⟨_, ho, rfl⟩ PySem.F.entry_tuple_index (PySem.F.args_tuple_index_2 _ _) (SeqAt.tuple_index2_found a its.toArray n dd sls uy (fun m => PyData.eqv (ds.getD m .none) d) j hjs (Nat.zero_le _) hjs ?_ ?_) ⟨ho, ?_, ?_⟩
      · simpa [List.getD, List.getElem?_eq_getElem hjl] using hyes
      · intro m hm1 _ hmj
        have hm2 : m < ds.length := by omega
        have := hno m hmj
        simpa [List.getD, List.getElem?_eq_getElem hm2] using this
      · intro m hm1
        have hm2 : m < ds.length := by rw [← hl]; simpa using hm1
        have e2 := eqa its.toArray[m] (Array.getElem_mem hm1)
        rw [at_ m hm1 hm2] at e2
        simpa [List.getD, List.getElem?_eq_getElem hm2] using e2
      · exact ⟨.int _, H, I.tok _, ⟨_, rfl⟩, q⟩
theorem extend_tupG (l : Addr) (items : Array Value) (n : Nat) (b : Addr) (items2 : Array Value) (n2 : Nat) (dd : Option Addr) (sl : Array (Option Value)) (hs0 : ¬(!items.isEmpty && Builtin.List.listTooLong (items.size + items2.size)) = true) (hs1 : items.size ≤ sizeLine) (hs2 : items.size + items2.size ≤ sizeLine + 1) :
    Meets (Builtin.«list.extend» ⟨[.ref l, .ref b], []⟩) (fun _ R s => s.heap.get? l = some { cls := .type "list", dict := none, data := .seq items n, slots := #[] } ∧ s.heap.get? b = some { cls := .type "tuple", dict := dd, data := .seq items2 n2, slots := sl } ∧ R (.ok (.ret Value.none)) { s with heap := s.heap.update l (Obj.mapSeq fun x => x ++ items2), toks := s.toks }) := .of_wp fun prog w A R s h => by
  obtain ⟨hp, g, d, tk, os⟩ := s
  obtain ⟨hl, hb, h⟩ := h
  have f1 := AutoSeq1.idx_int
  have f2 := AutoSeq1.sub_tuple_tuple
  have f3 := AutoSeq1.sub_list_list
  have f4 := AutoSeq1.sub_tuple_list
  have f5 := AutoSeq1.sub_list_tuple
  have z1 : (items ++ items2).size ≤ sizeLine + 1 := by rw [Array.size_append]; exact hs2
  wp_walk using (wpAny_updateSeq hl rfl (hz := hs1) (_hz' := z1)), wpAny_loadPart' hl, wpAny_loadPart' hb
  exact ⟨_, rfl, h⟩
/-- l.extend(t) -/
def rExtT (K : PySem.W.Frag) : V → List V → Hp → VK → Prop := fun x vs H Q => ∃ l b xs zs, x = .ref l ∧ vs = [.ref b] ∧ H l = some (.lst xs) ∧ SqT K H b zs ∧ xs.length + zs.length ≤ sizeLine ∧ Q .non (upd H l (.lst (xs ++ zs)))
theorem mt_extT : MtR X "list.extend" (rExtT X.K) := fun pins s σ H x vs v us Q I rx rv h => by
  obtain ⟨l, b, xs, zs, rfl, rfl, hH, hB, hz, q⟩ := h
  cases rx
  obtain ⟨u, rfl, ru⟩ := rv.one
  cases ru
  obtain ⟨z, its, n, r, hl, e⟩ := I.lstM hH
  obtain ⟨its2, r2, ⟨⟨cls, dd, data, sls⟩, ho, hc, n2, hdt⟩, _⟩ := I.tuple hB
  simp only at hc hdt
  subst hc hdt
  have hsz : its.toArray.size + its2.toArray.size ≤ sizeLine := by
    have h1 := r.length; have h2 := r2.length
    rw [List.size_toArray, List.size_toArray]; omega
  have hlong : ¬ (!its.toArray.isEmpty && Builtin.List.listTooLong (its.toArray.size + its2.toArray.size)) = true := by
    rw [notLongL hsz, Bool.and_false]
    exact Bool.false_ne_true
  refine call_meets PySem.F.slot_list_extend ⟨_, e, rfl⟩ PySem.F.entry_list_extend (PySem.F.args_list_extend_2 _ _) (extend_tupG l its.toArray n b its2.toArray n2 dd sls hlong (by rw [List.size_toArray]; have := r.length; omega) (by omega)) ⟨e, ?_, ?_⟩
  · exact ho
  · refine ⟨.non, _, I.lset (its' := its ++ its2) hH e (by simp) (r.append r2) ?_, rfl, q⟩
    rw [List.length_append]
    omega
end
end Dn

set_option Elab.async false
set_option linter.all false
set_option maxRecDepth 100000
set_option maxHeartbeats 2000000
namespace Dn
open PySem PySem.Spec PyProof.Rows L2
/-! ## tuple * int -/
section
variable {X : Cx}
theorem tuple_mul1 (l : Addr) (items : Array Value) (n : Nat) (dd : Option Addr) (sl : Array (Option Value)) (u : Tok) :
    Meets (Builtin.«tuple.__mul__» ⟨[.ref l, .int 1 u], []⟩) (fun _ R s => s.heap.get? l = some { cls := .type "tuple", dict := dd, data := .seq items n, slots := sl } ∧ R (.ok (.ret (Value.ref l))) s) := .of_wp fun prog w A R s h => by
  obtain ⟨hp, g, d, tk, os⟩ := s
  obtain ⟨hl, h⟩ := h
  have f1 := AutoSeq1.idx_int
  have c1 : (items.isEmpty || (1 : Int) == 1) = true := by simp
  wp_walk using wpAny_loadPart' hl
  repeat (first
    | (refine wpAny_ite_true (decide_eq_true (by rw [c1])) ?_; wp_walk using wpAny_loadPart' hl)
    | (refine wpAny_ite_false (decide_eq_false (by decide)) ?_; wp_walk using wpAny_loadPart' hl))
  all_goals first | exact ⟨_, rfl, h⟩ | skip
def rRepF (K : PySem.W.Frag) : R2 := fun x y H Q => ∃ l k xs, x = .ref l ∧ y = .int k ∧ SqT K H l xs ∧ xs ≠ [] ∧ 1 ≤ k ∧ k ≤ 1000 ∧ xs.length ≤ 1000 ∧ (k = 1 → Q (.ref l) H) ∧ (k ≠ 1 → NewT H (List.replicate k.toNat xs).flatten Q)
theorem op_repF : OpR X (binaryOp .Mult) (rRepF X.K) := fun pins s σ H x y v u Q I rx ry h => by
  obtain ⟨l, k, xs, rfl, rfl, hT, hne, h1, h2, hz, q1, q2⟩ := h
  cases rx
  obtain ⟨t, rfl⟩ := ry
  obtain ⟨its, r, ⟨⟨cls, dd, data, sl⟩, ho, hc, n, hd⟩, hs⟩ := I.tuple hT
  simp only at hc hd
  subst hc hd
  have hle : its.length = xs.length := r.length.symm
  have hn : its ≠ [] := fun e => hne (by
    rw [e] at hle
    exact List.eq_nil_of_length_eq_zero hle.symm)
  have hi : its.toArray.isEmpty = false := by
    cases its with
    | nil => exact absurd rfl hn
    | cons a b => rfl
  have hsz0 : its.toArray.size = xs.length := by rw [List.size_toArray, hle]
  have hm : ((its.toArray.size : Nat) : Int) * k ≤ 1000000 := by
    rw [hsz0]
    have a1 : ((xs.length : Nat) : Int) * k ≤ 1000 * k := Int.mul_le_mul_of_nonneg_right (by omega) (by omega)
    omega
  have fl : (List.replicate k.toNat its).flatten.length ≤ sizeLine := by
    rw [PyProof.Rows.lm_len_rep_flat, hle, sizeLine_eq]
    have a1 : k.toNat * xs.length ≤ 1000 * 1000 := Nat.mul_le_mul (by omega) hz
    omega
  have goal : wpAny (model X.prog X.w) X.A (call (.builtin "tuple.__mul__") [.ref l, .int k t]) (EP X pins σ Q) X.xe s := by
    by_cases e1 : k = 1
    · subst e1
      exact call_meets F.slot_tuple_mul ⟨_, ho, rfl⟩ F.entry_tuple_mul (F.args_tuple_mul_2 _ _) (tuple_mul1 l its.toArray n dd sl t) ⟨ho, ⟨.ref l, H, I, rfl, q1 rfl⟩⟩
    · have c0 : (decide (k < -(2 ^ 63)) || decide (k ≥ 2 ^ 63)) = false := by
        rw [decide_eq_false (by omega), decide_eq_false (by omega)] <;> rfl
      have c1 : (its.toArray.isEmpty || k == 1) = false := by
        rw [hi, Bool.false_or]
        exact beq_eq_false_iff_ne.mpr e1
      have c2 : (decide (k ≤ 0) || its.toArray.isEmpty) = false := by
        rw [hi, Bool.or_false]
        exact decide_eq_false (by omega)
      have c4 : Builtin.Tuple.tupleTooMany (((its.toArray.size : Nat) : Int) * k) = false := by
        unfold Builtin.Tuple.tupleTooMany
        rw [sizeLine_eq]
        exact decide_eq_false (by omega)
      refine call_meets F.slot_tuple_mul ⟨_, ho, rfl⟩ F.entry_tuple_mul (F.args_tuple_mul_2 _ _) (tuple_mulW l its.toArray n dd sl k t c0 c1 c2 (by omega) c4 (by rw [size_rep, List.size_toArray]; exact fl)) ⟨ho, ?_⟩
      rw [size_rep]
      refine laidT I (fun b ob q => Heap.get?_push_of_some _ q) (Nat.le_refl _) (Heap.get?_push_size _ rfl) (r.rep k.toNat) ?_ (q2 e1)
      rw [PyProof.Rows.lm_len_rep_flat, sizeLine_eq]
      have a1 : k.toNat * xs.length ≤ 1000 * 1000 := Nat.mul_le_mul (by omega) hz
      omega
  exact wpAny_binaryOp_repeat_ref (T := "tuple") (U := "int") (by decide) ⟨_, ho, rfl⟩ (fun s' => typeIs_int s' k t) noFill_tuple_mul F.fills_int_mul F.slot_int_rmul repeat_tuple F.slot_int_index.lookup
    (call_meets F.slot_int_rmul (typeIs_int s k t) F.entry_int_rmul (F.args_int_rmul_2 _ _) (int_rmul_tuple k t l its.toArray n dd sl) ⟨ho, rfl, ⟨_, ho, rfl⟩, goal⟩)
end
end Dn

set_option Elab.async false
set_option linter.all false
set_option maxRecDepth 100000
set_option maxHeartbeats 2000000
namespace Dn
open PySem PySem.Spec PyProof.Rows L2
/-! Values as trees: tuples are data, what may change stands in a store. -/
inductive D where
  | non | bl (b : Bool) | int (i : Int) | str (x : Str) | tup (xs : List D) | twk (xs : List D) | rol (xs : List D) | obj (c : Nat) (ns : List Str) (ds : List D) | ref (i : Nat) | adr (i : Nat) | raw (a : Addr)
/-- what stands in the store -/
inductive Ob where
  | lst (xs : List D)
  | ins (c : Nat) (ns : List Str) (ds : List D)
  | dk (kvs : List (Key × D))
  | dt (kvs : List (List Key × D))
  | hid
abbrev Sto := List Ob
/-- an object that never changes -/
def Hard : HO → Prop
  | .tup _ => True
  | .frz _ _ => True
  | _ => False
/-- the written part, and its classes and defs by number -/
structure Kx where
  K : PySem.W.Frag
  c : List Addr
  nd : c.Nodup
/-- where the store's places are, and what else may change -/
structure Mp where
  m : List Addr
  z : Addr → Prop
/-- what nothing changes that is told of -/
def Mp.Off (μ : Mp) (a : Addr) : Prop := a ∉ μ.m ∧ ¬ μ.z a
def Mp.add (μ : Mp) (p : Addr) : Mp := ⟨μ.m ++ [p], μ.z⟩
/-- a list that nothing changes -/
def RoL (K : PySem.W.Frag) (μ : Mp) (H : Hp) (a : Addr) (vs : List V) : Prop := (∃ o, H a = some (.frz o (.lst vs))) ∨ (SqL K (fun _ => none) a vs) ∨ (H a = some (.lst vs) ∧ μ.Off a)
theorem RoL.sq {K : PySem.W.Frag} {μ : Mp} {H : Hp} {a : Addr} {vs : List V} (h : RoL K μ H a vs) : SqL K H a vs := by
  rcases h with ⟨o, h⟩ | h | h
  · exact .inl (.inr ⟨o, h⟩)
  · rcases h with (h | ⟨o, h⟩) | h
    · cases h
    · cases h
    · exact .inr h
  · exact SqL.of h.1
/-- hard objects stay -/
def Stay (H H' : Hp) : Prop := ∀ b o, H b = some o → Hard o → H' b = some o
theorem Stay.refl (H : Hp) : Stay H H := fun _ _ h _ => h
theorem Stay.trans {H H1 H2 : Hp} (a : Stay H H1) (b : Stay H1 H2) : Stay H H2 := fun c o h z => b c o (a c o h z) z
theorem Stay.sqT {K : PySem.W.Frag} {H H' : Hp} {a : Addr} {xs : List V} (e : Stay H H') (h : SqT K H a xs) : SqT K H' a xs := by
  rcases h with (h | ⟨o, h⟩) | h
  · exact .inl (.inl (e _ _ h trivial))
  · exact .inl (.inr ⟨o, e _ _ h trivial⟩)
  · exact .inr h
theorem Stay.tupN {K : PySem.W.Frag} {H H' : Hp} {a : Addr} {xs : List V} (e : Stay H H') (h : TupN K H a xs) : TupN K H' a xs := by
  rcases h with ⟨o, h, q⟩ | h
  · exact .inl ⟨o, e _ _ h trivial, q⟩
  · exact .inr h
/-- a later state -/
structure Nx (μ μ' : Mp) (H H' : Hp) : Prop where
  pre : μ.m <+: μ'.m
  zz : μ'.z = μ.z
  keep : ∀ b o, H b = some o → b ∉ μ.m → H' b = some o
  new : ∀ a ∈ μ'.m, a ∈ μ.m ∨ H a = none
  hard : Stay H H'
  dom : ∀ b, H' b = none → H b = none
theorem Nx.refl (μ : Mp) (H : Hp) : Nx μ μ H H := ⟨List.prefix_refl _, rfl, fun _ _ h _ => h, fun _ h => .inl h, .refl _, fun _ h => h⟩
theorem Nx.trans {μ μ1 μ2 : Mp} {H H1 H2 : Hp} (a : Nx μ μ1 H H1) (b : Nx μ1 μ2 H1 H2) : Nx μ μ2 H H2 where
  pre := a.pre.trans b.pre
  zz := b.zz.trans a.zz
  keep := fun c o h hc => b.keep c o (a.keep c o h hc) fun z => by
    rcases a.new c z with z | z
    · exact hc z
    · rw [h] at z; cases z
  new := fun c hc => by
    rcases b.new c hc with z | z
    · exact a.new c z
    · exact .inr (a.dom c z)
  hard := a.hard.trans b.hard
  dom := fun c h => a.dom c (b.dom c h)
theorem Nx.off {μ μ' : Mp} {H H' : Hp} {a : Addr} {o : HO} (n : Nx μ μ' H H') (h : H a = some o) (f : μ.Off a) : H' a = some o ∧ μ'.Off a :=
  And.intro (n.keep a o h f.1) (And.intro (fun z => by
    rcases n.new a z with z | z
    · exact f.1 z
    · rw [h] at z; cases z) (by rw [n.zz]; exact f.2))
theorem Nx.roL {K : PySem.W.Frag} {μ μ' : Mp} {H H' : Hp} {a : Addr} {vs : List V} (n : Nx μ μ' H H') (h : RoL K μ H a vs) : RoL K μ' H' a vs := by
  rcases h with ⟨o, h⟩ | h | h
  · exact .inl ⟨o, n.hard _ _ h trivial⟩
  · exact .inr (.inl h)
  · exact .inr (.inr (n.off h.1 h.2))
theorem Nx.at {μ μ' : Mp} {H H' : Hp} {i : Nat} {a : Addr} (n : Nx μ μ' H H') (h : μ.m[i]? = some a) : μ'.m[i]? = some a := by
  obtain ⟨t, e⟩ := n.pre
  rw [← e, List.getElem?_append_left (List.getElem?_eq_some_iff.mp h).1]; exact h
mutual
inductive RD (K : Kx) (μ : Mp) (H : Hp) : D → V → Prop where
  | non : RD K μ H .non .non
  | bl (b : Bool) : RD K μ H (.bl b) (.bl b)
  | int (i : Int) : RD K μ H (.int i) (.int i)
  | str (x : Str) : RD K μ H (.str x) (.str x)
  | tup {a : Addr} {vs : List V} {ds : List D} (h : TupN K.K H a vs) (r : RDs K μ H ds vs) : RD K μ H (.tup ds) (.ref a)
  | twk {a : Addr} {vs : List V} {ds : List D} (h : SqT K.K H a vs) (r : RDs K μ H ds vs) : RD K μ H (.twk ds) (.ref a)
  | rol {a : Addr} {vs : List V} {ds : List D} (h : RoL K.K μ H a vs) (r : RDs K μ H ds vs) : RD K μ H (.rol ds) (.ref a)
  | obj {c : Nat} {C a dx : Addr} {gs : List (Str × V)} {ns : List Str} {vs : List V} {ds : List D} (hc : K.c[c]? = some C) (h : H a = some (.ins C dx gs)) (f : μ.Off a) (hn : gs = ns.zip vs) (hl : ns.length = vs.length) (r : RDs K μ H ds vs) : RD K μ H (.obj c ns ds) (.ref a)
  | ref {i : Nat} {a : Addr} (h : μ.m[i]? = some a) : RD K μ H (.ref i) (.ref a)
  | adr {i : Nat} {a : Addr} (h : K.c[i]? = some a) : RD K μ H (.adr i) (.ref a)
  | raw (a : Addr) : RD K μ H (.raw a) (.ref a)
inductive RDs (K : Kx) (μ : Mp) (H : Hp) : List D → List V → Prop where
  | nil : RDs K μ H [] []
  | cons {d : D} {v : V} {ds : List D} {vs : List V} (h : RD K μ H d v) (t : RDs K μ H ds vs) : RDs K μ H (d :: ds) (v :: vs)
end
mutual
theorem RD.mono {K : Kx} {μ μ' : Mp} {H H' : Hp} (n : Nx μ μ' H H') : ∀ {d : D} {v : V}, RD K μ H d v → RD K μ' H' d v
  | _, _, .non => .non
  | _, _, .bl b => .bl b
  | _, _, .int i => .int i
  | _, _, .str x => .str x
  | _, _, .tup h r => .tup (n.hard.tupN h) (RDs.mono n r)
  | _, _, .twk h r => .twk (n.hard.sqT h) (RDs.mono n r)
  | _, _, .rol h r => .rol (n.roL h) (RDs.mono n r)
  | _, _, .obj hc h f hn hl r => .obj hc (n.off h f).1 (n.off h f).2 hn hl (RDs.mono n r)
  | _, _, .ref h => .ref (n.at h)
  | _, _, .adr h => .adr h
  | _, _, .raw a => .raw a
theorem RDs.mono {K : Kx} {μ μ' : Mp} {H H' : Hp} (n : Nx μ μ' H H') : ∀ {d : List D} {v : List V}, RDs K μ H d v → RDs K μ' H' d v
  | _, _, .nil => .nil
  | _, _, .cons h t => .cons (RD.mono n h) (RDs.mono n t)
end
theorem RDs.length {K : Kx} {μ : Mp} {H : Hp} : ∀ {d : List D} {v : List V}, RDs K μ H d v → d.length = v.length
  | _, _, .nil => rfl
  | _, _, .cons _ t => by simp [RDs.length t]
theorem RDs.get {K : Kx} {μ : Mp} {H : Hp} : ∀ {ds : List D} {vs : List V} {i : Nat} {d : D}, RDs K μ H ds vs → ds[i]? = some d → ∃ v, vs[i]? = some v ∧ RD K μ H d v
  | _, _, _, _, .nil, e => by simp at e
  | _, _, 0, _, .cons r _, e => by simp at e; subst e; exact ⟨_, rfl, r⟩
  | _, _, i + 1, d, .cons _ t, e => by
    obtain ⟨u, h1, h2⟩ := RDs.get (i := i) (d := d) t (by simpa using e)
    exact ⟨u, by simpa using h1, h2⟩
theorem RDs.append {K : Kx} {μ : Mp} {H : Hp} : ∀ {ds es : List D} {vs ws : List V}, RDs K μ H ds vs → RDs K μ H es ws → RDs K μ H (ds ++ es) (vs ++ ws)
  | _, _, _, _, .nil, s => s
  | _, _, _, _, .cons r t, s => .cons r (RDs.append t s)
theorem RDs.take {K : Kx} {μ : Mp} {H : Hp} : ∀ {ds : List D} {vs : List V} (n : Nat), RDs K μ H ds vs → RDs K μ H (ds.take n) (vs.take n)
  | _, _, 0, _ => .nil
  | _, _, _ + 1, .nil => .nil
  | _, _, n + 1, .cons r t => .cons r (RDs.take n t)
theorem RDs.drop {K : Kx} {μ : Mp} {H : Hp} : ∀ {ds : List D} {vs : List V} (n : Nat), RDs K μ H ds vs → RDs K μ H (ds.drop n) (vs.drop n)
  | _, _, 0, r => r
  | _, _, _ + 1, .nil => .nil
  | _, _, n + 1, .cons _ t => RDs.drop n t
theorem RDs.set {K : Kx} {μ : Mp} {H : Hp} {d : D} {v : V} (r : RD K μ H d v) : ∀ {ds : List D} {vs : List V} (i : Nat), RDs K μ H ds vs → RDs K μ H (ds.set i d) (vs.set i v)
  | _, _, _, .nil => .nil
  | _, _, 0, .cons _ t => .cons r t
  | _, _, i + 1, .cons q t => .cons q (RDs.set r i t)

/-- what the store tells of the heap -/
def ObR (K : Kx) (μ : Mp) (H : Hp) (a : Addr) : Ob → Prop
  | .lst ds => ∃ vs, H a = some (.lst vs) ∧ RDs K μ H ds vs
  | .ins c ns ds => ∃ C dx vs, K.c[c]? = some C ∧ H a = some (.ins C dx (ns.zip vs)) ∧ ns.length = vs.length ∧ RDs K μ H ds vs
  | .dk kvs => ∃ ws, H a = some (.dK ws) ∧ ws.map (·.1) = kvs.map (·.1) ∧ RDs K μ H (kvs.map (·.2)) (ws.map (·.2))
  | .dt kvs => ∃ ws, H a = some (.dT ws) ∧ ws.map (·.1) = kvs.map (·.1) ∧ RDs K μ H (kvs.map (·.2)) (ws.map (·.2))
  | .hid => ∃ o u, H a = some (.frz o u)
structure RS (K : Kx) (μ : Mp) (S : Sto) (H : Hp) : Prop where
  len : μ.m.length = S.length
  nd : μ.m.Nodup
  dz : ∀ a ∈ μ.m, ¬ μ.z a
  zt : ∀ a, μ.z a → ∃ u, H a = some u
  ob : ∀ (i : Nat) (a : Addr) (o : Ob), μ.m[i]? = some a → S[i]? = some o → ObR K μ H a o
/-- a new hard object -/
theorem Nx.hardNew {μ : Mp} {H : Hp} {p : Addr} {o : HO} (hp : H p = none) : Nx μ μ H (upd H p o) where
  pre := List.prefix_refl _
  zz := rfl
  keep := fun b u h _ => by rw [upd_ne (ne_of_none h hp)]; exact h
  new := fun _ h => .inl h
  hard := fun b u h _ => by rw [upd_ne (ne_of_none h hp)]; exact h
  dom := fun b h => by
    by_cases e : b = p
    · rw [e]; exact hp
    · rw [upd_ne e] at h; exact h
/-- a new object of the store -/
theorem Nx.new1 {μ : Mp} {H : Hp} {p : Addr} {o : HO} (hp : H p = none) : Nx μ (μ.add p) H (upd H p o) where
  pre := List.prefix_append _ _
  zz := rfl
  keep := fun b u h _ => by rw [upd_ne (ne_of_none h hp)]; exact h
  new := fun b h => by
    rcases List.mem_append.mp h with h | h
    · exact .inl h
    · rw [List.mem_singleton.mp h]; exact .inr hp
  hard := fun b u h _ => by rw [upd_ne (ne_of_none h hp)]; exact h
  dom := fun b h => by
    by_cases e : b = p
    · rw [e]; exact hp
    · rw [upd_ne e] at h; exact h
/-- an object of the store is changed -/
theorem Nx.put {μ : Mp} {H : Hp} {p : Addr} {o u : HO} (hm : p ∈ μ.m) (hp : H p = some u) (hu : ¬ Hard u) : Nx μ μ H (upd H p o) where
  pre := List.prefix_refl _
  zz := rfl
  keep := fun b w h hb => by rw [upd_ne (fun e => hb (by rw [e]; exact hm))]; exact h
  new := fun _ h => .inl h
  hard := fun b w h hw => by
    by_cases e : b = p
    · subst e; rw [hp] at h; cases h; exact absurd hw hu
    · rw [upd_ne e]; exact h
  dom := fun b h => by
    by_cases e : b = p
    · rw [e, upd_same] at h; cases h
    · rw [upd_ne e] at h; exact h
theorem ObR.mono {K : Kx} {μ μ' : Mp} {H H' : Hp} {a : Addr} (n : Nx μ μ' H H') (k : ∀ o, H a = some o → H' a = some o) : ∀ {o : Ob}, ObR K μ H a o → ObR K μ' H' a o
  | .lst _, ⟨vs, h, r⟩ => ⟨vs, k _ h, r.mono n⟩
  | .ins _ _ _, ⟨C, dx, gs, hc, h, e, r⟩ => ⟨C, dx, gs, hc, k _ h, e, r.mono n⟩
  | .dk _, ⟨gs, h, e, r⟩ => ⟨gs, k _ h, e, r.mono n⟩
  | .dt _, ⟨gs, h, e, r⟩ => ⟨gs, k _ h, e, r.mono n⟩
  | .hid, ⟨o, u, h⟩ => ⟨o, u, k _ h⟩
theorem RS.at {K : Kx} {μ : Mp} {S : Sto} {H : Hp} (r : RS K μ S H) {i : Nat} {o : Ob} (e : S[i]? = some o) : ∃ a, μ.m[i]? = some a ∧ ObR K μ H a o := by
  have hi : i < μ.m.length := by rw [r.len]; exact (List.getElem?_eq_some_iff.mp e).1
  exact ⟨μ.m[i], List.getElem?_eq_getElem hi, r.ob i _ o (List.getElem?_eq_getElem hi) e⟩
theorem RS.atA {K : Kx} {μ : Mp} {S : Sto} {H : Hp} (r : RS K μ S H) {i : Nat} {a : Addr} (e : μ.m[i]? = some a) : ∃ o, S[i]? = some o ∧ ObR K μ H a o := by
  have hi : i < S.length := by rw [← r.len]; exact (List.getElem?_eq_some_iff.mp e).1
  exact ⟨S[i], List.getElem?_eq_getElem hi, r.ob i a _ e (List.getElem?_eq_getElem hi)⟩
theorem ObR.some {K : Kx} {μ : Mp} {H : Hp} {a : Addr} : ∀ {o : Ob}, ObR K μ H a o → ∃ u, H a = some u ∧ True
  | .lst _, ⟨vs, h, _⟩ => ⟨_, h, trivial⟩
  | .ins _ _ _, ⟨C, dx, gs, _, h, _⟩ => ⟨_, h, trivial⟩
  | .dk _, ⟨gs, h, _⟩ => ⟨_, h, trivial⟩
  | .dt _, ⟨gs, h, _⟩ => ⟨_, h, trivial⟩
  | .hid, ⟨_, _, h⟩ => ⟨_, h, trivial⟩
/-- the store's addresses are taken -/
theorem RS.taken {K : Kx} {μ : Mp} {S : Sto} {H : Hp} (r : RS K μ S H) {a : Addr} (h : a ∈ μ.m) : ∃ u, H a = some u ∧ True := by
  obtain ⟨i, hi⟩ := List.getElem?_of_mem h
  obtain ⟨o, _, q⟩ := r.atA hi
  exact q.some
theorem zt_upd {μ : Mp} {H : Hp} {p : Addr} {o : HO} (z : ∀ a, μ.z a → ∃ u, H a = some u) : ∀ a, μ.z a → ∃ u, upd H p o a = some u := fun a ha => by
  by_cases e : a = p
  · rw [e]; exact ⟨_, upd_same⟩
  · rw [upd_ne e]; exact z a ha
theorem RS.hardNew {K : Kx} {μ : Mp} {S : Sto} {H : Hp} {p : Addr} {o : HO} (r : RS K μ S H) (hp : H p = none) : RS K μ S (upd H p o) where
  len := r.len
  nd := r.nd
  dz := r.dz
  zt := zt_upd r.zt
  ob := fun i a u h1 h2 => (r.ob i a u h1 h2).mono (Nx.hardNew hp) fun w h => by rw [upd_ne (ne_of_none h hp)]; exact h
theorem RS.new1 {K : Kx} {μ : Mp} {S : Sto} {H : Hp} {p : Addr} {o : Ob} {w : HO} (r : RS K μ S H) (hp : H p = none) (ho : ObR K (μ.add p) (upd H p w) p o) : RS K (μ.add p) (S ++ [o]) (upd H p w) where
  len := by simp [Mp.add, r.len]
  nd := by
    refine List.nodup_append.mpr ⟨r.nd, List.nodup_cons.mpr ⟨by simp, List.nodup_nil⟩, fun a ha b hb e => ?_⟩
    rw [List.mem_singleton.mp hb] at e
    subst e
    obtain ⟨u, h, _⟩ := r.taken ha
    rw [hp] at h; cases h
  dz := fun a ha => by
    rcases List.mem_append.mp ha with ha | ha
    · exact r.dz a ha
    · rw [List.mem_singleton.mp ha]
      intro hz
      obtain ⟨u, h⟩ := r.zt p hz
      rw [hp] at h; cases h
  zt := zt_upd r.zt
  ob := fun i a u h1 h2 => by
    simp only [Mp.add] at h1
    by_cases hi : i < μ.m.length
    · rw [List.getElem?_append_left hi] at h1
      rw [List.getElem?_append_left (by rw [← r.len]; exact hi)] at h2
      exact (r.ob i a u h1 h2).mono (Nx.new1 hp) fun w h => by rw [upd_ne (ne_of_none h hp)]; exact h
    · rw [List.getElem?_append_right (Nat.le_of_not_lt hi)] at h1
      rw [List.getElem?_append_right (by rw [← r.len]; exact Nat.le_of_not_lt hi)] at h2
      rw [← r.len] at h2
      have e0 : i - μ.m.length = 0 := by
        cases q : i - μ.m.length with
        | zero => rfl
        | succ n => rw [q] at h1; simp at h1
      rw [e0] at h1 h2
      simp at h1 h2
      subst h1 h2
      exact ho
theorem RS.put {K : Kx} {μ : Mp} {S : Sto} {H : Hp} {i : Nat} {p : Addr} {o : Ob} {w u0 : HO} (r : RS K μ S H) (hi : μ.m[i]? = some p) (hq : H p = some u0) (hu : ¬ Hard u0) (ho : ObR K μ (upd H p w) p o) : RS K μ (S.set i o) (upd H p w) where
  len := by simp [r.len]
  nd := r.nd
  dz := r.dz
  zt := zt_upd r.zt
  ob := fun j a u h1 h2 => by
    by_cases hj : i = j
    · subst hj
      rw [hi] at h1; cases h1
      rw [List.getElem?_set_self (by rw [← r.len]; exact (List.getElem?_eq_some_iff.mp hi).1)] at h2
      cases h2
      exact ho
    · rw [List.getElem?_set_ne hj] at h2
      have ne : a ≠ p := fun e => by
        subst e
        obtain ⟨l1, e1⟩ := List.getElem?_eq_some_iff.mp hi
        obtain ⟨l2, e2⟩ := List.getElem?_eq_some_iff.mp h1
        exact hj ((List.getElem_inj r.nd).mp (e1.trans e2.symm))
      exact (r.ob j a u h1 h2).mono (Nx.put (List.mem_of_getElem? hi) hq hu) fun w h => by rw [upd_ne ne]; exact h
@[simp] theorem Mp.add_m (μ : Mp) (p : Addr) : (μ.add p).m = μ.m ++ [p] := rfl
@[simp] theorem Mp.add_z (μ : Mp) (p : Addr) : (μ.add p).z = μ.z := rfl
end Dn

set_option Elab.async false
set_option linter.all false
set_option maxRecDepth 100000
set_option maxHeartbeats 2000000
namespace Dn
open PySem PySem.Spec PyProof.Rows L2
/-! Results, judgements. -/
inductive R (α : Type) where
  | ok (a : α) (S : Sto) | exc (c : Nat) (fs : List (Str × D)) (S : Sto) | stuck
def R.bind {α β : Type} (r : R α) (f : α → Sto → R β) : R β := match r with
  | .ok a S => f a S
  | .exc c fs S => .exc c fs S
  | .stuck => .stuck
abbrev Ev := List (Option D)
abbrev ME := Ev → Sto → R D
abbrev MB := Ev → Sto → R Bool
abbrev ML := Ev → Sto → R (List D)
abbrev MG := D → Ev → Sto → R Ev
abbrev MGs := List D → Ev → Sto → R Ev
inductive F where
  | nx (ρ : Ev) (S : Sto) | rt (d : D) (S : Sto) | bk (ρ : Ev) (S : Sto) | ct (ρ : Ev) (S : Sto) | ex (c : Nat) (fs : List (Str × D)) (ρ : Ev) (S : Sto) | stuck
abbrev MS := Ev → Sto → F
def R.to {α : Type} (r : R α) (ρ : Ev) (f : α → Sto → F) : F := match r with
  | .ok a S => f a S
  | .exc c fs S => .ex c fs ρ S
  | .stuck => .stuck

/-- what is told of a state -/
structure Gx where
  K : Kx
  W : WX
  pin : Mp → Hp → Prop
  pinK : ∀ μ μ' H H', Nx μ μ' H H' → pin μ H → pin μ' H'
/-- where one stands -/
structure Fx where
  X : Cx
  cl : List Addr
  cnd : cl.Nodup
  W : WX
  tk : Takes X W
  pin : Mp → Hp → Prop
  pinK : ∀ μ μ' H H', Nx μ μ' H H' → pin μ H → pin μ' H'
abbrev Fx.k (G : Fx) : Kx := ⟨G.X.K, G.cl, G.cnd⟩
abbrev Fx.g (G : Fx) : Gx := ⟨G.k, G.W, G.pin, G.pinK⟩
def RE (K : Kx) (μ : Mp) (H : Hp) (ρ : Ev) (σ : L2.St) : Prop := ρ.length = σ.length ∧ ∀ (i : Nat) (d : D), ρ[i]? = some (some d) → ∃ v, σ[i]? = some (some v) ∧ RD K μ H d v
theorem RE.mono {K : Kx} {μ μ' : Mp} {H H' : Hp} {ρ : Ev} {σ : L2.St} (r : RE K μ H ρ σ) (n : Nx μ μ' H H') : RE K μ' H' ρ σ :=
  ⟨r.1, fun i d e => let ⟨v, h1, h2⟩ := r.2 i d e; ⟨v, h1, h2.mono n⟩⟩
theorem RE.set {K : Kx} {μ : Mp} {H : Hp} {ρ : Ev} {σ : L2.St} {d : D} {v : V} (r : RE K μ H ρ σ) (i : Nat) (h : RD K μ H d v) : RE K μ H (ρ.set i (some d)) (σ.set i (some v)) := by
  refine ⟨by simp [r.1], fun j e q => ?_⟩
  by_cases hj : i = j
  · subst hj
    by_cases hl : i < ρ.length
    · rw [List.getElem?_set_self hl] at q
      cases q
      exact ⟨v, by rw [List.getElem?_set_self (by rw [← r.1]; exact hl)], h⟩
    · rw [List.getElem?_eq_none (by simpa using hl)] at q; cases q
  · rw [List.getElem?_set_ne hj] at q
    rw [List.getElem?_set_ne hj]
    exact r.2 j e q
/-- the state and what is told of it -/
structure At (G : Gx) (μ : Mp) (H : Hp) (ρ : Ev) (σ : L2.St) (S : Sto) : Prop where
  re : RE G.K μ H ρ σ
  rs : RS G.K μ S H
  pin : G.pin μ H
theorem At.nx {G : Gx} {μ μ' : Mp} {H H' : Hp} {ρ : Ev} {σ : L2.St} {S S' : Sto} (a : At G μ H ρ σ S) (n : Nx μ μ' H H') (r : RS G.K μ' S' H') : At G μ' H' ρ σ S' :=
  ⟨a.re.mono n, r, G.pinK _ _ _ _ n a.pin⟩
/-- an exception's own dict -/
structure XD (K : Kx) (μ : Mp) (H : Hp) (d : Addr) (fs : List (Str × D)) : Prop where
  ex : ∃ vs, H d = some (.xd vs) ∧ vs.map (·.1) = fs.map (·.1) ∧ RDs K μ H (fs.map (·.2)) (vs.map (·.2))
/-- what is wanted behind -/
def Po {α β : Type} (G : Gx) (Rel : Mp → Hp → α → β → Prop) (μ : Mp) (H : Hp) (σ : L2.St) (Q : β → Hp → Prop) : R α → Prop
  | .ok a S => ∀ μ' H' b, Nx μ μ' H H' → RS G.K μ' S H' → Rel μ' H' a b → Q b H'
  | .exc c fs S => ∀ μ' H' d C, Nx μ μ' H H' → RS G.K μ' S H' → XD G.K μ' H' d fs → G.K.c[c]? = some C → G.W (.ref C) (some d) σ H'
  | .stuck => False
abbrev relD (G : Gx) : Mp → Hp → D → V → Prop := fun μ H => RD G.K μ H
abbrev relB : Mp → Hp → Bool → Bool → Prop := fun _ _ a b => a = b
abbrev relDs (G : Gx) : Mp → Hp → List D → List V → Prop := fun μ H => RDs G.K μ H
theorem Po.nx {α β : Type} {G : Gx} {Rel : Mp → Hp → α → β → Prop} {μ μ' : Mp} {H H' : Hp} {σ : L2.St} {Q : β → Hp → Prop} (n : Nx μ μ' H H') : ∀ {r : R α}, Po G Rel μ H σ Q r → Po G Rel μ' H' σ Q r
  | .ok _ _, h => fun μ2 H2 b n2 r2 q => h μ2 H2 b (n.trans n2) r2 q
  | .exc _ _ _, h => fun μ2 H2 d C n2 r2 q => h μ2 H2 d C (n.trans n2) r2 q
  | .stuck, h => h
/-- one thing behind another -/
theorem Po.bind {α β γ δ : Type} {G : Gx} {Rel : Mp → Hp → α → β → Prop} {Rel' : Mp → Hp → γ → δ → Prop} {μ : Mp} {H : Hp} {σ : L2.St} {Q : δ → Hp → Prop} {f : α → Sto → R γ} :
    ∀ {r : R α}, Po G Rel' μ H σ Q (r.bind f) → Po G Rel μ H σ (fun b H1 => ∃ a μ1 S1, Nx μ μ1 H H1 ∧ RS G.K μ1 S1 H1 ∧ Rel μ1 H1 a b ∧ Po G Rel' μ1 H1 σ Q (f a S1)) r
  | .ok a S1, h => fun μ1 H1 b n r q => ⟨a, μ1, S1, n, r, q, Po.nx n h⟩
  | .exc _ _ _, h => fun μ1 H1 d C n r q => h μ1 H1 d C n r q
  | .stuck, h => h.elim
/-- the readings -/
def tE (G : Gx) (m : ME) : TE := fun σ H Q => ∃ ρ μ S, At G μ H ρ σ S ∧ Po G (relD G) μ H σ Q (m ρ S)
def tB (G : Gx) (m : MB) : TT := fun σ H Q => ∃ ρ μ S, At G μ H ρ σ S ∧ Po G relB μ H σ Q (m ρ S)
def tA (G : Gx) (m : ML) : TA := fun σ H Q => ∃ ρ μ S, At G μ H ρ σ S ∧ Po G (relDs G) μ H σ Q (m ρ S)
/-- nothing but the slots at ts may have changed -/
def Off (ts : List Nat) (σ σ' : L2.St) : Prop := σ'.length = σ.length ∧ ∀ i, i ∉ ts → σ'[i]? = σ[i]?
theorem Off.refl (ts : List Nat) (σ : L2.St) : Off ts σ σ := ⟨rfl, fun _ _ => rfl⟩
theorem Off.trans {ts ts' : List Nat} {σ σ1 σ2 : L2.St} (a : Off ts σ σ1) (b : Off ts' σ1 σ2) : Off (ts ++ ts') σ σ2 :=
  ⟨b.1.trans a.1, fun i h => by
    rw [List.mem_append, not_or] at h
    exact (b.2 i h.2).trans (a.2 i h.1)⟩
def PoG (G : Gx) (ts : List Nat) (μ : Mp) (H : Hp) (σ : L2.St) (Q : L2.St → Hp → Prop) : R Ev → Prop
  | .ok ρ S => ∀ μ' H' σ', Nx μ μ' H H' → RS G.K μ' S H' → RE G.K μ' H' ρ σ' → Off ts σ σ' → Q σ' H'
  | .exc _ _ _ => False
  | .stuck => False
def tG (G : Gx) (ts : List Nat) (m : MG) : TG := fun v σ H Q => ∃ d ρ μ S, At G μ H ρ σ S ∧ RD G.K μ H d v ∧ PoG G ts μ H σ Q (m d ρ S)
def tGs (G : Gx) (ts : List Nat) (m : MGs) : TGs := fun vs σ H Q => ∃ ds ρ μ S, At G μ H ρ σ S ∧ RDs G.K μ H ds vs ∧ PoG G ts μ H σ Q (m ds ρ S)
/-- what is wanted behind a statement -/
def PoS (G : Gx) (μ : Mp) (H : Hp) (E : Ends) : F → Prop
  | .nx ρ S => ∀ μ' H' σ', Nx μ μ' H H' → RS G.K μ' S H' → RE G.K μ' H' ρ σ' → E.nx σ' H'
  | .bk ρ S => ∀ μ' H' σ', Nx μ μ' H H' → RS G.K μ' S H' → RE G.K μ' H' ρ σ' → E.bk σ' H'
  | .ct ρ S => ∀ μ' H' σ', Nx μ μ' H H' → RS G.K μ' S H' → RE G.K μ' H' ρ σ' → E.ct σ' H'
  | .rt d S => ∀ μ' H' v, Nx μ μ' H H' → RS G.K μ' S H' → RD G.K μ' H' d v → E.rt v H'
  | .ex c fs ρ S => ∀ μ' H' σ' d C, Nx μ μ' H H' → RS G.K μ' S H' → RE G.K μ' H' ρ σ' → XD G.K μ' H' d fs → G.K.c[c]? = some C → G.W (.ref C) (some d) σ' H'
  | .stuck => False
theorem PoS.nx {G : Gx} {μ μ' : Mp} {H H' : Hp} {E : Ends} (n : Nx μ μ' H H') : ∀ {r : F}, PoS G μ H E r → PoS G μ' H' E r
  | .nx _ _, h => fun μ2 H2 b n2 r2 q => h μ2 H2 b (n.trans n2) r2 q
  | .bk _ _, h => fun μ2 H2 b n2 r2 q => h μ2 H2 b (n.trans n2) r2 q
  | .ct _ _, h => fun μ2 H2 b n2 r2 q => h μ2 H2 b (n.trans n2) r2 q
  | .rt _ _, h => fun μ2 H2 b n2 r2 q => h μ2 H2 b (n.trans n2) r2 q
  | .ex _ _ _ _, h => fun μ2 H2 b d C n2 r2 q => h μ2 H2 b d C (n.trans n2) r2 q
  | .stuck, h => h
theorem Po.to {α β : Type} {G : Gx} {Rel : Mp → Hp → α → β → Prop} {μ : Mp} {H : Hp} {σ : L2.St} {ρ : Ev} {E : Ends} {f : α → Sto → F} (re : RE G.K μ H ρ σ) :
    ∀ {r : R α}, PoS G μ H E (r.to ρ f) → Po G Rel μ H σ (fun b H1 => ∃ a μ1 S1, Nx μ μ1 H H1 ∧ RS G.K μ1 S1 H1 ∧ Rel μ1 H1 a b ∧ PoS G μ1 H1 E (f a S1)) r
  | .ok a S1, h => fun μ1 H1 b n r q => ⟨a, μ1, S1, n, r, q, PoS.nx n h⟩
  | .exc _ _ _, h => fun μ1 H1 d C n r q hC => h μ1 H1 σ d C n r (re.mono n) q hC
  | .stuck, h => h.elim
def tS (G : Gx) (m : MS) : TS := fun E σ H => ∃ ρ μ S, At G μ H ρ σ S ∧ PoS G μ H E (m ρ S)
/-- the judgements -/
abbrev SE (G : Fx) (e : Expr) (m : ME) : Prop := PE G.X e (tE G.g m)
abbrev SB (G : Fx) (e : Expr) (m : MB) : Prop := PT G.X e (tB G.g m)
abbrev SA (G : Fx) (es : List Expr) (m : ML) : Prop := PA G.X es (tA G.g m)
abbrev SG (G : Fx) (ts : List Nat) (e : Expr) (m : MG) : Prop := PG G.X e (tG G.g ts m)
abbrev SGs (G : Fx) (ts : List Nat) (es : List Expr) (m : MGs) : Prop := PGs G.X es (tGs G.g ts m)
abbrev SS (G : Fx) (st : Stmt) (m : MS) : Prop := PS G.X st (tS G.g m)
abbrev SSs (G : Fx) (st : List Stmt) (m : MS) : Prop := PSs G.X st (tS G.g m)
/-- from a reading that is asked less -/
theorem pe_imp {X : Cx} {e : Expr} {t t' : TE} (h : PE X e t) (i : ∀ σ H Q, t' σ H Q → t σ H Q) : PE X e t' := ⟨fun p s σ H Q I q => h.run p s σ H Q I (i _ _ _ q)⟩
theorem pt_imp {X : Cx} {e : Expr} {t t' : TT} (h : PT X e t) (i : ∀ σ H Q, t' σ H Q → t σ H Q) : PT X e t' := ⟨fun p s σ H Q I q => h.run p s σ H Q I (i _ _ _ q)⟩
theorem pw_imp {X : Cx} {e : Expr} {t t' : TT} (h : PW X e t) (i : ∀ σ H Q, t' σ H Q → t σ H Q) : PW X e t' := ⟨fun w p s σ H Q I q => h.run w p s σ H Q I (i _ _ _ q)⟩
theorem pa_imp {X : Cx} {e : List Expr} {t t' : TA} (h : PA X e t) (i : ∀ σ H Q, t' σ H Q → t σ H Q) : PA X e t' := ⟨fun pos p s σ H Q I q => h.run pos p s σ H Q I (i _ _ _ q)⟩
theorem ps_imp {X : Cx} {e : Stmt} {t t' : TS} (h : PS X e t) (i : ∀ D σ H, t' D σ H → t D σ H) : PS X e t' := ⟨fun p s σ H D I q => h.run p s σ H D I (i _ _ _ q)⟩
theorem pss_imp {X : Cx} {e : List Stmt} {t t' : TS} (h : PSs X e t) (i : ∀ D σ H, t' D σ H → t D σ H) : PSs X e t' := ⟨fun p s σ H D I q => h.run p s σ H D I (i _ _ _ q)⟩
theorem pg_imp {X : Cx} {e : Expr} {t t' : TG} (h : PG X e t) (i : ∀ v σ H Q, t' v σ H Q → t v σ H Q) : PG X e t' := ⟨fun p s σ H v u Q I r q => h.run p s σ H v u Q I r (i _ _ _ _ q)⟩
theorem pgs_imp {X : Cx} {e : List Expr} {t t' : TGs} (h : PGs X e t) (i : ∀ v σ H Q, t' v σ H Q → t v σ H Q) : PGs X e t' := ⟨fun p s σ H v u Q I r q => h.run p s σ H v u Q I r (i _ _ _ _ q)⟩

section
variable {G : Fx} {a b c e : Expr} {es : List Expr} {ma mb mc : ME} {pos : Pos}
/-! names, constants -/
def mVar (i : Nat) : ME := fun ρ S => match ρ[i]? with
  | some (some d) => .ok d S
  | _ => .stuck
def mC (d : D) : ME := fun _ S => .ok d S
theorem se_var (i : Nat) {x : Str} (hN : G.X.N[i]? = some x := by rfl) (hv : Vis G.X.env.scope x := by first | exact Or.inl rfl | exact Or.inr (Or.inl rfl) | exact Or.inr (Or.inr rfl)) (hd : (x == ("__debug__" : Str)) = false := by decide)
    (hcd : (x == ("__classdict__" : Str)) = false := by decide) : SE G (.Name x pos) (mVar i) := by
  refine pe_imp (pe_var hN hv hd hcd) fun σ H Q h => ?_
  obtain ⟨ρ, μ, S, at', q⟩ := h
  unfold mVar at q
  cases e : ρ[i]? with
  | none => rw [e] at q; exact q.elim
  | some o =>
    cases o with
    | none => rw [e] at q; exact q.elim
    | some d =>
      rw [e] at q
      obtain ⟨v, hv, r⟩ := at'.re.2 i d e
      exact ⟨v, hv, q μ H v (Nx.refl μ H) at'.rs r⟩
theorem se_C {d : D} {v : V} (h : PE G.X e (tC v)) (r : ∀ μ H, RD G.k μ H d v) : SE G e (mC d) := by
  refine pe_imp h fun σ H Q h => ?_
  obtain ⟨ρ, μ, S, at', q⟩ := h
  exact q μ H v (Nx.refl μ H) at'.rs (r μ H)
/-! two things, one behind the other -/
def m2 (f : D → D → Sto → R D) (ma mb : ME) : ME := fun ρ S => (ma ρ S).bind fun x S1 => (mb ρ S1).bind fun y S2 => f x y S2
/-- what an operation by values does -/
def OpS (G : Fx) (r : R2) (f : D → D → Sto → R D) : Prop := ∀ (μ : Mp) (H : Hp) (σ : L2.St) (S : Sto) (x y : D) (v u : V) (Q : VK), RS G.k μ S H → RD G.k μ H x v → RD G.k μ H y u → Po G.g (relD G.g) μ H σ Q (f x y S) → r v u H Q
theorem tE_2 {f : D → D → Sto → R D} {R : V → V → Hp → Prop} {σ : L2.St} {H : Hp} {Q : VK} (h : tE G.g (m2 f ma mb) σ H Q)
    (k : ∀ (μ : Mp) (H : Hp) (S : Sto) (x y : D) (v u : V), RS G.k μ S H → RD G.k μ H x v → RD G.k μ H y u → Po G.g (relD G.g) μ H σ Q (f x y S) → R v u H) :
    tE G.g ma σ H fun v H1 => tE G.g mb σ H1 fun u H2 => R v u H2 := by
  obtain ⟨ρ, μ, S, at', q⟩ := h
  refine ⟨ρ, μ, S, at', ?_⟩
  have q1 := Po.bind (Rel := relD G.g) q
  revert q1
  cases ma ρ S with
  | stuck => exact fun q1 => q1
  | exc c fs S1 => exact fun q1 => q1
  | ok x S1 =>
    intro q1 μ1 H1 v n1 r1 d1
    obtain ⟨x, μ1', S1', n1', r1', d1', q2⟩ := q1 μ1 H1 v n1 r1 d1
    refine ⟨ρ, μ1', S1', at'.nx n1' r1', ?_⟩
    have q3 := Po.bind (Rel := relD G.g) q2
    revert q3
    cases mb ρ S1' with
    | stuck => exact fun q3 => q3
    | exc c fs S2 => exact fun q3 => q3
    | ok y S2 =>
      intro q3 μ2 H2 u n2 r2 d2
      obtain ⟨y, μ2', S2', n2', r2', d2', q4⟩ := q3 μ2 H2 u n2 r2 d2
      exact k μ2' H2 S2' x y v u r2' (d1'.mono n2') d2' q4
theorem se_op {op : Operator} {r : R2} {f : D → D → Sto → R D} (ho : OpR G.X (binaryOp op) r) (hf : OpS G r f) (ha : SE G a ma) (hb : SE G b mb) : SE G (.BinOp a op b pos) (m2 f ma mb) :=
  pe_imp (pe_op ho ha hb) fun σ H Q h => tE_2 h fun μ H S x y v u r1 d1 d2 q => hf μ H σ S x y v u Q r1 d1 d2 q
theorem se_cmp {op : CmpOp} {r : R2} {f : D → D → Sto → R D} (ho : OpR G.X (compareOp op) r) (hf : OpS G r f) (ha : SE G a ma) (hb : SE G b mb) (hm : behindInMarks op b = false) : SE G (.Compare a [op] [b] pos) (m2 f ma mb) :=
  pe_imp (pe_cmpR ho ha hb hm) fun σ H Q h => tE_2 h fun μ H S x y v u r1 d1 d2 q => hf μ H σ S x y v u Q r1 d1 d2 q
end
end Dn

set_option Elab.async false
set_option linter.all false
set_option maxRecDepth 100000
set_option maxHeartbeats 2000000
namespace Dn
open PySem PySem.Spec PyProof.Rows L2
section
variable {G : Fx} {μ : Mp} {H : Hp} {σ : L2.St} {S : Sto} {Q : VK} {p : Addr} {ds : List D} {vs : List V} {d : D} {v : V}
theorem Po.same (rs : RS G.k μ S H) (rd : RD G.k μ H d v) (q : Po G.g (relD G.g) μ H σ Q (.ok d S)) : Q v H := q μ H v (Nx.refl μ H) rs rd
theorem Po.newL (rs : RS G.k μ S H) (hp : H p = none) (rd : RDs G.k μ H ds vs) (q : Po G.g (relD G.g) μ H σ Q (.ok (.ref S.length) (S ++ [.lst ds]))) : Q (.ref p) (upd H p (.lst vs)) := by
  have n : Nx μ (μ.add p) H (upd H p (.lst vs)) := Nx.new1 hp
  exact q _ _ _ n (rs.new1 hp ⟨vs, upd_same, rd.mono n⟩) (.ref (by simp [← rs.len]))
theorem Po.newT (rs : RS G.k μ S H) (rd : RDs G.k μ H ds vs) (q : Po G.g (relD G.g) μ H σ Q (.ok (.tup ds) S)) : NewT H vs Q := fun p o hp hc hd => by
  have n : Nx μ μ H (upd H p (.frz o (.tup vs))) := Nx.hardNew hp
  exact q _ _ _ n (rs.hardNew hp) (.tup (.inl ⟨o, upd_same, hc, hd⟩) (rd.mono n))
/-- what a list of the store is -/
theorem RS.lst {K : Kx} {i : Nat} {a : Addr} {xs : List D} (rs : RS K μ S H) (h : μ.m[i]? = some a) (e : S[i]? = some (.lst xs)) : ∃ vs, H a = some (.lst vs) ∧ RDs K μ H xs vs := rs.ob i a _ h e
end
/-! ## + -/
def addD : D → D → Sto → R D
  | .int i, .int j, S => .ok (.int (i + j)) S
  | .str a, .str b, S => if a.length + b.length ≤ sizeLine then .ok (.str (a ++ b)) S else .stuck
  | .tup xs, .tup ys, S => if xs.length + ys.length ≤ sizeLine then .ok (.tup (xs ++ ys)) S else .stuck
  | .ref i, .ref j, S => match S[i]?, S[j]? with
    | some (.lst xs), some (.lst ys) => if xs.length + ys.length ≤ sizeLine then .ok (.ref S.length) (S ++ [.lst (xs ++ ys)]) else .stuck
    | _, _ => .stuck
  | _, _, _ => .stuck
def rAddD (K : PySem.W.Frag) : R2 := fun x y H Q => (rI0 fun i j => .int (i + j)) x y H Q ∨ ((∃ i j, x = .str i ∧ y = .str j ∧ i.length + j.length ≤ sizeLine ∧ Q (.str (i ++ j)) H) ∨ (rCatF K x y H Q ∨ rCat x y H Q))
theorem op_addD {X : Cx} : OpR X (binaryOp .Add) (rAddD X.K) := op_add.or (op_add_str.or (op_catF.or op_cat))
theorem add_ok {G : Fx} : OpS G (rAddD G.X.K) addD := by
  intro μ H σ S x y v u Q rs r1 r2 q
  cases r1 <;> cases r2 <;> first | exact q.elim | skip
  case int.int i j => exact .inl ⟨i, j, rfl, rfl, q.same rs (.int _)⟩
  case str.str i j =>
    simp only [addD] at q
    split at q
    · rename_i h
      exact .inr (.inl ⟨i, j, rfl, rfl, h, q.same rs (.str _)⟩)
    · exact q.elim
  case tup.tup a vs xs h1 d1 b ws ys h2 d2 =>
    simp only [addD] at q
    split at q
    · rename_i h
      rw [d1.length, d2.length] at h
      refine .inr (.inr (.inl ⟨a, b, vs, ws, rfl, rfl, h1.sq, h2.sq, h, fun e => ?_, fun _ e => ?_, fun _ _ => q.newT rs (d1.append d2)⟩))
      · subst e
        cases d1
        exact q.same rs (.tup h2 d2)
      · subst e
        cases d2
        rw [List.append_nil] at q
        exact q.same rs (.tup h1 d1)
    · exact q.elim
  case ref.ref i a h1 j b h2 =>
    simp only [addD] at q
    split at q
    · rename_i xs ys e1 e2
      split at q
      · rename_i h
        obtain ⟨vs, g1, d1⟩ := rs.lst h1 e1
        obtain ⟨ws, g2, d2⟩ := rs.lst h2 e2
        rw [d1.length, d2.length] at h
        exact .inr (.inr (.inr ⟨a, b, vs, ws, rfl, rfl, g1, g2, h, fun p hp => q.newL rs hp (d1.append d2)⟩))
      · exact q.elim
    · exact q.elim
/-! ## ints -/
def intD (c : Int → Int → Bool) (g : Int → Int → Int) : D → D → Sto → R D
  | .int i, .int j, S => if c i j then .ok (.int (g i j)) S else .stuck
  | _, _, _ => .stuck
theorem int_ok {G : Fx} {C : Int → Int → Prop} {c : Int → Int → Bool} {g : Int → Int → Int} (hc : ∀ i j, c i j = true → C i j) : OpS G (rI C fun i j => .int (g i j)) (intD c g) := by
  intro μ H σ S x y v u Q rs r1 r2 q
  cases r1 <;> cases r2 <;> first | exact q.elim | skip
  case int.int i j =>
    simp only [intD] at q
    split at q
    · rename_i h
      exact ⟨i, j, rfl, rfl, hc i j h, q.same rs (.int _)⟩
    · exact q.elim
def int0D (g : Int → Int → Int) : D → D → Sto → R D
  | .int i, .int j, S => .ok (.int (g i j)) S
  | _, _, _ => .stuck
theorem int0_ok {G : Fx} {g : Int → Int → Int} : OpS G (rI0 fun i j => .int (g i j)) (int0D g) := by
  intro μ H σ S x y v u Q rs r1 r2 q
  cases r1 <;> cases r2 <;> first | exact q.elim | skip
  case int.int i j => exact ⟨i, j, rfl, rfl, q.same rs (.int _)⟩
def icmpD (g : Int → Int → Bool) : D → D → Sto → R D
  | .int i, .int j, S => .ok (.bl (g i j)) S
  | _, _, _ => .stuck
theorem icmp_ok {G : Fx} {g : Int → Int → Bool} : OpS G (rI0 fun i j => .bl (g i j)) (icmpD g) := by
  intro μ H σ S x y v u Q rs r1 r2 q
  cases r1 <;> cases r2 <;> first | exact q.elim | skip
  case int.int i j => exact ⟨i, j, rfl, rfl, q.same rs (.bl _)⟩
def cMul (i j : Int) : Bool := (decide (-(2 ^ 64) < i) && decide (i < 2 ^ 64)) || (decide (-(2 ^ 64) < j) && decide (j < 2 ^ 64))
theorem cMul_ok : ∀ i j, cMul i j = true → CMul i j := by
  intro i j h
  simp only [cMul, Bool.or_eq_true, Bool.and_eq_true, decide_eq_true_eq] at h
  exact h
def cDiv (_ j : Int) : Bool := decide (0 < j) && decide (j < 1073741824)
theorem cDiv_ok : ∀ i j, cDiv i j = true → CDiv i j := by
  intro i j h
  simp only [cDiv, Bool.and_eq_true, decide_eq_true_eq] at h
  exact h
def cMod (_ j : Int) : Bool := decide (0 < j)
theorem cMod_ok : ∀ (i j : Int), cMod i j = true → (fun _ j => 0 < j) i j := by
  intro i j h
  simpa [cMod] using h
def cPow (i j : Int) : Bool := decide (0 ≤ j) && (decide (j ≤ 1000000) && decide (i.natAbs < 2 ^ 64))
theorem cPow_ok : ∀ i j, cPow i j = true → CPow i j := by
  intro i j h
  simp only [cPow, Bool.and_eq_true, decide_eq_true_eq] at h
  exact h
/-! ## * -/
def mulD : D → D → Sto → R D
  | .int i, .int j, S => if cMul i j then .ok (.int (i * j)) S else .stuck
  | .ref i, .int k, S => match S[i]? with
    | some (.lst xs) => if -(2 ^ 63) ≤ k ∧ k < 2 ^ 63 ∧ xs.length * k.toNat ≤ sizeLine then .ok (.ref S.length) (S ++ [.lst (List.replicate k.toNat xs).flatten]) else .stuck
    | _ => .stuck
  | .tup xs, .int k, S => if xs.isEmpty = false ∧ 1 ≤ k ∧ k ≤ 1000 ∧ xs.length ≤ 1000 then .ok (.tup (List.replicate k.toNat xs).flatten) S else .stuck
  | _, _, _ => .stuck
/-! ## equality of data -/
def mapO {α β : Type} (f : α → Option β) : List α → Option (List β)
  | [] => some []
  | x :: xs => match f x with
    | some y => (mapO f xs).map (y :: ·)
    | none => none
def pd (S : Sto) : Nat → D → Option PyData
  | _, .non => some .none
  | _, .bl b => some (.bool b)
  | _, .int i => some (.int i)
  | _, .str x => some (.str x)
  | n + 1, .tup xs => (mapO (pd S n) xs).map .tuple
  | n + 1, .twk xs => (mapO (pd S n) xs).map .tuple
  | n + 1, .rol xs => (mapO (pd S n) xs).map .list
  | n + 1, .ref i => match S[i]? with
    | some (.lst xs) => (mapO (pd S n) xs).map .list
    | _ => none
  | 0, .tup _ => none
  | 0, .twk _ => none
  | 0, .rol _ => none
  | 0, .ref _ => none
  | _, .adr _ => none
  | _, .obj _ _ _ => none
  | _, .raw _ => none
theorem mapO_some {α β : Type} {f : α → Option β} : ∀ {xs : List α} {ys : List β}, mapO f xs = some ys → Paired (fun x y => f x = some y) xs ys
  | [], ys, h => by cases h; exact .nil
  | x :: xs, ys, h => by
    unfold mapO at h
    cases e : f x with
    | none => rw [e] at h; cases h
    | some y =>
      rw [e] at h
      simp only [Option.map_eq_some_iff] at h
      obtain ⟨zs, e1, rfl⟩ := h
      exact .cons e (mapO_some e1)
theorem dpAll_of {K : Kx} {μ : Mp} {H : Hp} {f : D → Option PyData} (h : ∀ {d v e}, f d = some e → RD K μ H d v → Dp K.K H v e) :
    ∀ {ds : List D} {es : List PyData} {vs : List V}, Paired (fun x y => f x = some y) ds es → RDs K μ H ds vs → DpAll K.K H vs es
  | _, _, _, .nil, .nil => .nil
  | _, _, _, .cons q t, .cons r u => .cons (h q r) (dpAll_of h t u)
theorem pd_ok {K : Kx} {μ : Mp} {S : Sto} {H : Hp} (rs : RS K μ S H) : ∀ {n : Nat} {d : D} {v : V} {e : PyData}, pd S n d = some e → RD K μ H d v → Dp K.K H v e := by
  intro n
  induction n with
  | zero =>
    intro d v e h r
    cases r <;> simp only [pd] at h <;> first | (cases h; done) | (injection h with h; subst h; constructor)
  | succ n ih =>
    intro d v e h r
    cases r with
    | non => simp only [pd] at h; injection h with h; subst h; constructor
    | bl b => simp only [pd] at h; injection h with h; subst h; constructor
    | int i => simp only [pd] at h; injection h with h; subst h; constructor
    | str x => simp only [pd] at h; injection h with h; subst h; constructor
    | tup h1 r1 =>
      simp only [pd, Option.map_eq_some_iff] at h
      obtain ⟨es, h2, rfl⟩ := h
      exact .tup h1.sq (dpAll_of (fun q r => ih q r) (mapO_some h2) r1)
    | twk h1 r1 =>
      simp only [pd, Option.map_eq_some_iff] at h
      obtain ⟨es, h2, rfl⟩ := h
      exact .tup h1 (dpAll_of (fun q r => ih q r) (mapO_some h2) r1)
    | rol h1 r1 =>
      simp only [pd, Option.map_eq_some_iff] at h
      obtain ⟨es, h2, rfl⟩ := h
      exact .lst h1.sq (dpAll_of (fun q r => ih q r) (mapO_some h2) r1)
    | @ref i a h1 =>
      simp only [pd] at h
      split at h
      · rename_i xs e1
        simp only [Option.map_eq_some_iff] at h
        obtain ⟨es, h2, rfl⟩ := h
        obtain ⟨vs, g, r1⟩ := rs.lst h1 e1
        exact .lst (SqL.of g) (dpAll_of (fun q r => ih q r) (mapO_some h2) r1)
      · cases h
    | obj => simp only [pd] at h; cases h
    | raw a => simp only [pd] at h; cases h
    | adr a => simp only [pd] at h; cases h
def eqD (neg : Bool) (x y : D) (S : Sto) : R D := match pd S 65 x, pd S 65 y with
  | some d, some e => if SeqAt.shaped d && SeqAt.shaped e then .ok (.bl (if neg then !PyData.eqv d e else PyData.eqv d e)) S else .stuck
  | _, _ => .stuck
theorem eq_ok {G : Fx} : OpS G (rEqD G.X.K) (eqD false) := by
  intro μ H σ S x y v u Q rs r1 r2 q
  unfold eqD at q
  split at q
  · rename_i d e h1 h2
    split at q
    · rename_i h
      simp only [Bool.and_eq_true] at h
      exact ⟨d, e, pd_ok rs h1 r1, pd_ok rs h2 r2, h.1, h.2, q.same rs (.bl _)⟩
    · exact q.elim
  · exact q.elim
theorem ne_ok {G : Fx} : OpS G (rNeD G.X.K) (eqD true) := by
  intro μ H σ S x y v u Q rs r1 r2 q
  unfold eqD at q
  split at q
  · rename_i d e h1 h2
    split at q
    · rename_i h
      simp only [Bool.and_eq_true] at h
      exact ⟨d, e, pd_ok rs h1 r1, pd_ok rs h2 r2, h.1, h.2, q.same rs (.bl _)⟩
    · exact q.elim
  · exact q.elim
/-! ## in -/
def inD (neg : Bool) (x y : D) (S : Sto) : R D := match pd S 65 x, pd S 65 y with
  | some d, some (.list es) => if SeqAt.shaped d && SeqAt.shaped (.list es) then .ok (.bl (if neg then !es.any fun z => PyData.eqv z d else es.any fun z => PyData.eqv z d)) S else .stuck
  | some d, some (.tuple es) => if SeqAt.shaped d && SeqAt.shaped (.list es) then .ok (.bl (if neg then !es.any fun z => PyData.eqv z d else es.any fun z => PyData.eqv z d)) S else .stuck
  | _, _ => .stuck
def rInE (K : PySem.W.Frag) : R2 := fun x y H Q => rInD K x y H Q ∨ rInTD false K x y H Q
def rNotInE (K : PySem.W.Frag) : R2 := fun x y H Q => rNotInD K x y H Q ∨ rInTD true K x y H Q
theorem op_inE {X : Cx} (hu : X.A.units + 65 < cLine) : OpR X (compareOp .In) (rInE X.K) := (op_inD hu).or (op_inTD hu)
theorem op_notInE {X : Cx} (hu : X.A.units + 65 < cLine) : OpR X (compareOp .NotIn) (rNotInE X.K) := (op_notInD hu).or (op_notInTD hu)
theorem in_ok {G : Fx} : OpS G (rInE G.X.K) (inD false) := by
  intro μ H σ S x y v u Q rs r1 r2 q
  unfold inD at q
  split at q
  · rename_i d es h1 h2
    split at q
    · rename_i h
      simp only [Bool.and_eq_true] at h
      exact .inl ⟨d, es, pd_ok rs h1 r1, pd_ok rs h2 r2, h.1, h.2, q.same rs (.bl _)⟩
    · exact q.elim
  · rename_i d es h1 h2
    split at q
    · rename_i h
      simp only [Bool.and_eq_true] at h
      exact .inr ⟨d, es, pd_ok rs h1 r1, pd_ok rs h2 r2, h.1, h.2, q.same rs (.bl _)⟩
    · exact q.elim
  · exact q.elim
theorem notIn_ok {G : Fx} : OpS G (rNotInE G.X.K) (inD true) := by
  intro μ H σ S x y v u Q rs r1 r2 q
  unfold inD at q
  split at q
  · rename_i d es h1 h2
    split at q
    · rename_i h
      simp only [Bool.and_eq_true] at h
      exact .inl ⟨d, es, pd_ok rs h1 r1, pd_ok rs h2 r2, h.1, h.2, q.same rs (.bl _)⟩
    · exact q.elim
  · rename_i d es h1 h2
    split at q
    · rename_i h
      simp only [Bool.and_eq_true] at h
      exact .inr ⟨d, es, pd_ok rs h1 r1, pd_ok rs h2 r2, h.1, h.2, q.same rs (.bl _)⟩
    · exact q.elim
  · exact q.elim
/-! ## is -/
def isND (neg : Bool) (x y : D) (S : Sto) : R D := match x, y with
  | .non, .non => .ok (.bl (!neg)) S
  | _, .non => .ok (.bl neg) S
  | .bl a, .bl b => .ok (.bl (if neg then !decide (a = b) else decide (a = b))) S
  | _, _ => .stuck
def rIsX : R2 := fun x y H Q => (y = .non ∧ Q (.bl (decide (x = .non))) H) ∨ rIsB x y H Q
def rIsNX : R2 := fun x y H Q => (y = .non ∧ Q (.bl (!decide (x = .non))) H) ∨ rNotB x y H Q
theorem op_isX {X : Cx} : OpR X (compareOp .Is) rIsX := op_isN.or op_isBl
theorem op_isNX {X : Cx} : OpR X (compareOp .IsNot) rIsNX := op_notN.or op_notBl
theorem is_ok {G : Fx} : OpS G rIsX (isND false) := by
  intro μ H σ S x y v u Q rs r1 r2 q
  cases r2 <;> cases r1 <;> first | exact q.elim | exact .inl ⟨rfl, Po.same rs (.bl _) q⟩ | skip
  case bl.bl a b => exact .inr ⟨_, _, rfl, rfl, Po.same rs (.bl _) q⟩
theorem isNot_ok {G : Fx} : OpS G rIsNX (isND true) := by
  intro μ H σ S x y v u Q rs r1 r2 q
  cases r2 <;> cases r1 <;> first | exact q.elim | exact .inl ⟨rfl, Po.same rs (.bl _) q⟩ | skip
  case bl.bl a b => exact .inr ⟨_, _, rfl, rfl, Po.same rs (.bl _) q⟩
/-! ## items -/
def itemD : D → D → Sto → R D
  | .tup xs, .int k, S => match atI xs k with
    | some d => .ok d S
    | none => .stuck
  | .twk xs, .int k, S => match atI xs k with
    | some d => .ok d S
    | none => .stuck
  | .rol xs, .int k, S => match atI xs k with
    | some d => .ok d S
    | none => .stuck
  | .ref i, .int k, S => match S[i]? with
    | some (.lst xs) => match atI xs k with
      | some d => .ok d S
      | none => .stuck
    | _ => .stuck
  | .str z, .int k, S => if z.length ≤ sizeLine then match atI z.cps.toList k with
    | some c => .ok (.str ⟨#[c]⟩) S
    | none => .stuck
    else .stuck
  | _, _, _ => .stuck
theorem RDs.atI {K : Kx} {μ : Mp} {H : Hp} {ds : List D} {vs : List V} {k : Int} {d : D} (r : RDs K μ H ds vs) (h : L2.atI ds k = some d) : ∃ v, L2.atI vs k = some v ∧ RD K μ H d v := by
  unfold L2.atI at h ⊢
  rw [r.length] at h
  cases e : ixN vs.length k with
  | none => rw [e] at h; cases h
  | some j =>
    rw [e] at h
    exact r.get h
theorem item_ok {G : Fx} : OpS G (rIx G.X.K) itemD := by
  intro μ H σ S x y v u Q rs r1 r2 q
  cases r1 <;> cases r2 <;> first | exact q.elim | skip
  case tup.int a vs xs h1 d1 k =>
    simp only [itemD] at q
    split at q
    · rename_i d h
      obtain ⟨w, e, r⟩ := d1.atI h
      exact .inr (.inl ⟨a, vs, k, w, rfl, rfl, h1.sq, e, q.same rs r⟩)
    · exact q.elim
  case twk.int a vs xs h1 d1 k =>
    simp only [itemD] at q
    split at q
    · rename_i d h
      obtain ⟨w, e, r⟩ := d1.atI h
      exact .inr (.inl ⟨a, vs, k, w, rfl, rfl, h1, e, q.same rs r⟩)
    · exact q.elim
  case rol.int a vs xs h1 d1 k =>
    simp only [itemD] at q
    split at q
    · rename_i d h
      obtain ⟨w, e, r⟩ := d1.atI h
      exact .inl ⟨a, vs, k, w, rfl, rfl, h1.sq, e, q.same rs r⟩
    · exact q.elim
  case ref.int i a h1 k =>
    simp only [itemD] at q
    split at q
    · rename_i xs e1
      obtain ⟨vs, g, d1⟩ := rs.lst h1 e1
      split at q
      · rename_i d h
        obtain ⟨w, e, r⟩ := d1.atI h
        exact .inl ⟨a, vs, k, w, rfl, rfl, SqL.of g, e, q.same rs r⟩
      · exact q.elim
    · exact q.elim
  case str.int z k =>
    simp only [itemD] at q
    split at q
    · rename_i hz
      split at q
      · rename_i c h
        exact .inr (.inr ⟨z, k, c, rfl, rfl, hz, h, q.same rs (.str _)⟩)
      · exact q.elim
    · exact q.elim
/-! ## slices -/
def cutD (xs : List D) (lo hi : Option Int) : List D := (xs.drop (HT.sIx xs.length 0 lo)).take (HT.sIx xs.length xs.length hi - HT.sIx xs.length 0 lo)
def sliceD (x : D) (lo hi : Option Int) (S : Sto) : R D := match x with
  | .tup xs => .ok (.tup (cutD xs lo hi)) S
  | .rol xs => .ok (.ref S.length) (S ++ [.lst (cutD xs lo hi)])
  | .ref i => match S[i]? with
    | some (.lst xs) => .ok (.ref S.length) (S ++ [.lst (cutD xs lo hi)])
    | _ => .stuck
  | .str z => if z.length ≤ sizeLine then .ok (.str (cutS z lo hi)) S else .stuck
  | _ => .stuck
theorem RDs.cut {K : Kx} {μ : Mp} {H : Hp} {ds : List D} {vs : List V} (r : RDs K μ H ds vs) (lo hi : Option Int) : RDs K μ H (cutD ds lo hi) (cutV vs lo hi) := by
  unfold cutD cutV
  rw [r.length]
  exact (r.drop _).take _
def rSlX (K : PySem.W.Frag) : V → Option Int → Option Int → Hp → VK → Prop := fun x lo hi H Q => (rSlF K x lo hi H Q ∨ rSlL K x lo hi H Q) ∨ rSlS x lo hi H Q
theorem sl_X {X : Cx} : SlR X (rSlX X.K) := (sl_tupF.or sl_list).or sl_str
theorem slice_ok {G : Fx} {μ : Mp} {H : Hp} {σ : L2.St} {S : Sto} {x : D} {v : V} {lo hi : Option Int} {Q : VK} (rs : RS G.k μ S H) (r1 : RD G.k μ H x v) (q : Po G.g (relD G.g) μ H σ Q (sliceD x lo hi S)) : rSlX G.X.K v lo hi H Q := by
  cases r1 <;> first | exact q.elim | skip
  case tup a vs xs h1 d1 =>
    refine .inl (.inl ⟨a, vs, rfl, h1.sq, fun hw => ?_, fun _ => Po.newT rs (d1.cut lo hi) q⟩)
    have e : cutD xs lo hi = xs := by
      unfold cutD
      rw [d1.length, hw.1, hw.2]
      simp [← d1.length]
    have q' : Po G.g (relD G.g) μ H σ Q (.ok (.tup (cutD xs lo hi)) S) := q
    rw [e] at q'
    exact q'.same rs (.tup h1 d1)
  case rol a vs xs h1 d1 => exact .inl (.inr ⟨a, vs, rfl, h1.sq, fun p hp => Po.newL rs hp (d1.cut lo hi) q⟩)
  case ref i a h1 =>
    simp only [sliceD] at q
    split at q
    · rename_i xs e1
      obtain ⟨vs, g, d1⟩ := rs.lst h1 e1
      exact .inl (.inr ⟨a, vs, rfl, SqL.of g, fun p hp => Po.newL rs hp (d1.cut lo hi) q⟩)
    · exact q.elim
  case str z =>
    simp only [sliceD] at q
    split at q
    · rename_i hz
      exact .inr ⟨z, rfl, hz, q.same rs (.str _)⟩
    · exact q.elim
end Dn

set_option Elab.async false
set_option linter.all false
set_option maxRecDepth 100000
set_option maxHeartbeats 2000000
namespace Dn
open PySem PySem.Spec PyProof.Rows L2
section
variable {G : Fx} {a b c e o : Expr} {es : List Expr} {ma mb mc : ME} {mA : ML} {pos p : Pos} {x : Str}
/-- one thing, then what is made of it -/
def m1 (f : D → Sto → R D) (ma : ME) : ME := fun ρ S => (ma ρ S).bind fun x S1 => f x S1
theorem po_1 {α β γ δ : Type} {Rel : Mp → Hp → α → β → Prop} {Rel' : Mp → Hp → γ → δ → Prop} {μ : Mp} {H : Hp} {σ : L2.St} {ρ : Ev} {S : Sto} {Q : δ → Hp → Prop} {Rr : β → Hp → Prop} {f : α → Sto → R γ} {r : R α} (at' : At G.g μ H ρ σ S)
    (q : Po G.g Rel' μ H σ Q (r.bind f)) (k : ∀ (μ' : Mp) (H' : Hp) (S : Sto) (x : α) (v : β), Nx μ μ' H H' → At G.g μ' H' ρ σ S → Rel μ' H' x v → Po G.g Rel' μ' H' σ Q (f x S) → Rr v H') : Po G.g Rel μ H σ Rr r := by
  have q1 := Po.bind (Rel := Rel) q
  revert q1
  cases r with
  | stuck => exact fun q1 => q1
  | exc c fs S1 => exact fun q1 => q1
  | ok x S1 =>
    intro q1 μ1 H1 v n1 r1 d1
    obtain ⟨x, μ1', S1', n1', r1', d1', q2⟩ := q1 μ1 H1 v n1 r1 d1
    exact k μ1' H1 S1' x v n1' (at'.nx n1' r1') d1' q2
theorem tE_1 {f : D → Sto → R D} {Rr : V → Hp → Prop} {σ : L2.St} {H : Hp} {Q : VK} (h : tE G.g (m1 f ma) σ H Q)
    (k : ∀ (μ : Mp) (H : Hp) (S : Sto) (x : D) (v : V), RS G.k μ S H → RD G.k μ H x v → Po G.g (relD G.g) μ H σ Q (f x S) → Rr v H) : tE G.g ma σ H Rr := by
  obtain ⟨ρ, μ, S, at', q⟩ := h
  exact ⟨ρ, μ, S, at', po_1 at' q fun μ H S x v _ a d q => k μ H S x v a.rs d q⟩
/-! arguments, displays -/
def mNil : ML := fun _ S => .ok [] S
def mCons (ma : ME) (mr : ML) : ML := fun ρ S => (ma ρ S).bind fun x S1 => (mr ρ S1).bind fun xs S2 => .ok (x :: xs) S2
theorem sa_nil : SA G [] mNil := pa_imp pa_nil fun σ H Q h => by
  obtain ⟨ρ, μ, S, at', q⟩ := h
  exact q μ H [] (Nx.refl μ H) at'.rs .nil
theorem sa_cons {mr : ML} (ha : SE G e ma) (hr : SA G es mr) (hs : starEach (e :: es) G.X.env = (false, eval e G.X.env) :: starEach es G.X.env := by rfl) : SA G (e :: es) (mCons ma mr) := pa_imp (pa_cons ha hr hs) fun σ H Q h => by
  obtain ⟨ρ, μ, S, at', q⟩ := h
  refine ⟨ρ, μ, S, at', po_1 at' q fun μ1 H1 S1 x v _ a1 d1 q1 => ?_⟩
  refine ⟨ρ, μ1, S1, a1, po_1 (Rel := relDs G.g) a1 q1 fun μ2 H2 S2 xs vs n a2 d2 q2 => ?_⟩
  exact q2 μ2 H2 (v :: vs) (Nx.refl μ2 H2) a2.rs (.cons (d1.mono n) d2)
/-- from arguments -/
def mL (f : List D → Sto → R D) (ml : ML) : ME := fun ρ S => (ml ρ S).bind fun xs S1 => f xs S1
theorem tA_1 {f : List D → Sto → R D} {Rr : List V → Hp → Prop} {σ : L2.St} {H : Hp} {Q : VK} (h : tE G.g (mL f mA) σ H Q)
    (k : ∀ (μ : Mp) (H : Hp) (S : Sto) (x : List D) (v : List V), RS G.k μ S H → RDs G.k μ H x v → Po G.g (relD G.g) μ H σ Q (f x S) → Rr v H) : tA G.g mA σ H Rr := by
  obtain ⟨ρ, μ, S, at', q⟩ := h
  exact ⟨ρ, μ, S, at', po_1 at' q fun μ H S x v _ a d q => k μ H S x v a.rs d q⟩
def tupD (xs : List D) (S : Sto) : R D := if xs.length ≤ sizeLine then .ok (.tup xs) S else .stuck
def lstD (xs : List D) (S : Sto) : R D := if xs.length ≤ sizeLine then .ok (.ref S.length) (S ++ [.lst xs]) else .stuck
theorem se_tup {x1} (h : SA G es mA) : SE G (.Tuple es x1 pos) (mL tupD mA) := pe_imp (pe_tupF h) fun σ H Q h => tA_1 h fun μ H S xs vs rs r q => by
  unfold tupD at q
  split at q
  · rename_i hl
    exact ⟨by rw [← r.length]; exact hl, Po.newT rs r q⟩
  · exact q.elim
theorem se_lst (h : SA G es mA) : SE G (.List es pos) (mL lstD mA) := pe_imp (pe_lst h) fun σ H Q h => tA_1 h fun μ H S xs vs rs r q => by
  unfold lstD at q
  split at q
  · rename_i hl
    exact ⟨by rw [← r.length]; exact hl, fun p hp => Po.newL rs hp r q⟩
  · exact q.elim
/-! items, slices -/
theorem se_ix (ha : SE G a ma) (hb : SE G b mb) (hs : PlainIx b := by exact fun _ _ => rfl) : SE G (.Subscript a b pos) (m2 itemD ma mb) :=
  pe_imp (pe_ix ix_seq ha hb hs) fun σ H Q h => tE_2 h fun μ H S x y v u r1 d1 d2 q => item_ok μ H σ S x y v u Q r1 d1 d2 q
abbrev MO := Ev → Sto → R (Option Int)
def tO (G : Gx) (m : MO) : TO := fun σ H Q => ∃ ρ μ S, At G μ H ρ σ S ∧ Po G (fun _ _ (x y : Option Int) => x = y) μ H σ Q (m ρ S)
abbrev SO (G : Fx) (e : Option Expr) (m : MO) : Prop := PO G.X e (tO G.g m)
theorem po_imp {X : Cx} {e : Option Expr} {t t' : TO} (h : PO X e t) (i : ∀ σ H Q, t' σ H Q → t σ H Q) : PO X e t' := ⟨fun p s σ H Q I q => h.run p s σ H Q I (i _ _ _ q)⟩
def mNo : MO := fun _ S => .ok none S
def mYo (ma : ME) : MO := fun ρ S => (ma ρ S).bind fun d S1 => match d with
  | .int i => .ok (some i) S1
  | _ => .stuck
theorem so_no : SO G none mNo := po_imp po_none fun σ H Q h => by
  obtain ⟨ρ, μ, S, at', q⟩ := h
  exact q μ H none (Nx.refl μ H) at'.rs rfl
theorem so_yes (ha : SE G e ma) : SO G (some e) (mYo ma) := po_imp (po_some ha) fun σ H Q h => by
  obtain ⟨ρ, μ, S, at', q⟩ := h
  refine ⟨ρ, μ, S, at', po_1 at' q fun μ1 H1 S1 x v _ a1 d1 q1 => ?_⟩
  cases d1 <;> first | exact q1.elim | skip
  case int i => exact ⟨i, rfl, q1 μ1 H1 (some i) (Nx.refl μ1 H1) a1.rs rfl⟩
def mSl (ma : ME) (ml mh : MO) : ME := fun ρ S => (ma ρ S).bind fun x S1 => (ml ρ S1).bind fun lo S2 => (mh ρ S2).bind fun hi S3 => sliceD x lo hi S3
theorem se_slice {lo hi : Option Expr} {ml mh : MO} {p2 : Pos} (ha : SE G a ma) (hl : SO G lo ml) (hh : SO G hi mh) : SE G (.Subscript a (.Slice lo hi none p2) pos) (mSl ma ml mh) := pe_imp (pe_slice sl_X ha hl hh) fun σ H Q h => by
  obtain ⟨ρ, μ, S, at', q⟩ := h
  refine ⟨ρ, μ, S, at', po_1 at' q fun μ1 H1 S1 x v _ a1 d1 q1 => ?_⟩
  refine ⟨ρ, μ1, S1, a1, po_1 (Rel := fun _ _ (x y : Option Int) => x = y) a1 q1 fun μ2 H2 S2 lo lo' n2 a2 e2 q2 => ?_⟩
  refine ⟨ρ, μ2, S2, a2, po_1 (Rel := fun _ _ (x y : Option Int) => x = y) a2 q2 fun μ3 H3 S3 hi hi' n3 a3 e3 q3 => ?_⟩
  subst e2 e3
  exact slice_ok a3.rs ((d1.mono n2).mono n3) q3
/-! tests -/
def truD (S : Sto) : D → Option Bool
  | .non => some false
  | .bl b => some b
  | .int i => some (i != 0)
  | .str y => if y.length ≤ sizeLine then some ((y.length : Int) != 0) else none
  | .tup xs => some (!xs.isEmpty)
  | .twk xs => some (!xs.isEmpty)
  | .rol xs => some (!xs.isEmpty)
  | .ref i => match S[i]? with
    | some (.lst xs) => some (!xs.isEmpty)
    | _ => none
  | .adr _ => none
  | .obj _ _ _ => none
  | .raw _ => none
theorem RDs.empty {K : Kx} {μ : Mp} {H : Hp} {ds : List D} {vs : List V} (r : RDs K μ H ds vs) : ds.isEmpty = vs.isEmpty := by cases r <;> rfl
theorem tru_ok' {K : Kx} {μ : Mp} {H : Hp} {S : Sto} {d : D} {v : V} {k : Bool} (rs : RS K μ S H) (r : RD K μ H d v) (h : truD S d = some k) : TruV K.K v H k := by
  cases r with
  | non => simp only [truD] at h; injection h with h; exact h.symm
  | bl b => simp only [truD] at h; injection h with h; exact h.symm
  | int i => simp only [truD] at h; injection h with h; exact h.symm
  | str y =>
    simp only [truD] at h
    split at h
    · injection h with h; exact ⟨by assumption, h.symm⟩
    · cases h
  | tup h1 r1 => simp only [truD] at h; injection h with h; exact .inr (.inl ⟨_, h1.sq, by rw [← h, r1.empty]⟩)
  | twk h1 r1 => simp only [truD] at h; injection h with h; exact .inr (.inl ⟨_, h1, by rw [← h, r1.empty]⟩)
  | rol h1 r1 => simp only [truD] at h; injection h with h; exact .inl ⟨_, h1.sq, by rw [← h, r1.empty]⟩
  | ref h1 =>
    simp only [truD] at h
    split at h
    · rename_i xs e1
      obtain ⟨vs, g, r1⟩ := rs.lst h1 e1
      injection h with h
      exact .inl ⟨vs, SqL.of g, by rw [← h, r1.empty]⟩
    · cases h
  | obj => simp only [truD] at h; cases h
  | raw a => simp only [truD] at h; cases h
  | adr a => simp only [truD] at h; cases h
def mT (ma : ME) : MB := fun ρ S => (ma ρ S).bind fun d S1 => match truD S1 d with
  | some b => .ok b S1
  | none => .stuck
theorem tB_1 {σ : L2.St} {H : Hp} {Q : Bool → Hp → Prop} (h : tB G.g (mT ma) σ H Q) : tE G.g ma σ H fun v H1 => ∃ k, TruV G.X.K v H1 k ∧ Q k H1 := by
  obtain ⟨ρ, μ, S, at', q⟩ := h
  refine ⟨ρ, μ, S, at', po_1 at' q fun μ1 H1 S1 x v _ a1 d1 q1 => ?_⟩
  revert q1
  cases e : truD S1 x with
  | none => exact fun q1 => q1.elim
  | some k => exact fun q1 => ⟨k, tru_ok' a1.rs d1 e, q1 μ1 H1 k (Nx.refl μ1 H1) a1.rs rfl⟩
/-- an expression by its value's truth -/
theorem sb_val (ha : SE G a ma) (he : ∀ whole, isTrue a G.X.env whole = (do let v ← whole; standAt a.pos; holding [v] (truthy v)) := by intro _; rfl) : SB G a (mT ma) := pt_imp (pt_truth ha he) fun σ H Q h => tB_1 h
/-- a comparison's answer is a bool -/
def mTb (ma : ME) : MB := fun ρ S => (ma ρ S).bind fun d S1 => match d with
  | .bl b => .ok b S1
  | _ => .stuck
theorem tB_b {σ : L2.St} {H : Hp} {Q : Bool → Hp → Prop} (h : tB G.g (mTb ma) σ H Q) : tE G.g ma σ H fun v H1 => ∃ k, v = .bl k ∧ Q k H1 := by
  obtain ⟨ρ, μ, S, at', q⟩ := h
  refine ⟨ρ, μ, S, at', po_1 at' q fun μ1 H1 S1 x v _ a1 d1 q1 => ?_⟩
  cases d1 <;> first | exact q1.elim | skip
  case bl k => exact ⟨k, rfl, q1 μ1 H1 k (Nx.refl μ1 H1) a1.rs rfl⟩
theorem sb_cmp {op : CmpOp} {r : R2} {f : D → D → Sto → R D} (ho : OpR G.X (compareOp op) r) (hf : OpS G r f) (ha : SE G a ma) (hb : SE G b mb) (hm : behindInMarks op b = false) : SB G (.Compare a [op] [b] pos) (mTb (m2 f ma mb)) :=
  pt_imp (pt_cmpR ho ha hb hm) fun σ H Q h => tE_2 (tE_of_b h) fun μ H S x y v u r1 d1 d2 q => hf μ H σ S x y v u _ r1 d1 d2 q
where
  tE_of_b {σ : L2.St} {H : Hp} {Q : Bool → Hp → Prop} {m : ME} (h : tB G.g (mTb m) σ H Q) : tE G.g m σ H fun v H1 => ∃ k, v = .bl k ∧ Q k H1 := tB_b h
def mChain (f g : D → D → Sto → R D) (ma mb mc : ME) : ME := fun ρ S => (ma ρ S).bind fun x S1 => (mb ρ S1).bind fun y S2 => (f x y S2).bind fun z S3 => match z with
  | .bl true => (mc ρ S3).bind fun w S4 => g y w S4
  | .bl false => .ok (.bl false) S3
  | _ => .stuck
theorem tE_chain {r r' : R2} {f g : D → D → Sto → R D} (hf : OpS G r f) (hg : OpS G r' g) {σ : L2.St} {H : Hp} {Q : VK} (h : tE G.g (mChain f g ma mb mc) σ H Q) : tChain r r' (tE G.g ma) (tE G.g mb) (tE G.g mc) σ H Q := by
  obtain ⟨ρ, μ, S, at', q⟩ := h
  refine ⟨ρ, μ, S, at', po_1 at' q fun μ1 H1 S1 x v _ a1 d1 q1 => ?_⟩
  refine ⟨ρ, μ1, S1, a1, po_1 a1 q1 fun μ2 H2 S2 y u n2 a2 d2 q2 => ?_⟩
  refine hf μ2 H2 σ S2 x y v u _ a2.rs (d1.mono n2) d2 (po_1 a2 q2 fun μ3 H3 S3 z w n3 a3 d3 q3 => ?_)
  cases d3 <;> first | exact q3.elim | skip
  case bl k =>
    refine ⟨k, rfl, ?_⟩
    cases k with
    | true => exact ⟨ρ, μ3, S3, a3, po_1 a3 q3 fun μ4 H4 S4 z w n4 a4 d4 q4 => hg μ4 H4 σ S4 y z u w Q a4.rs ((d2.mono n3).mono n4) d4 q4⟩
    | false => exact q3 μ3 H3 _ (Nx.refl μ3 H3) a3.rs (.bl _)
/-- a op b op' c -/
theorem se_chain {op op' : CmpOp} {r r' : R2} {f g : D → D → Sto → R D} (ho : OpR G.X (compareOp op) r) (hf : OpS G r f) (ho' : OpR G.X (compareOp op') r') (hg : OpS G r' g) (ha : SE G a ma) (hb : SE G b mb) (hc : SE G c mc)
    (hm : lastMarks [op, op'] [b, c] = false := by with_unfolding_all rfl) : SE G (.Compare a [op, op'] [b, c] pos) (mChain f g ma mb mc) := pe_imp (pe_chain ho ho' ha hb hc hm) fun σ H Q h => tE_chain hf hg h
theorem sb_chain {op op' : CmpOp} {r r' : R2} {f g : D → D → Sto → R D} (ho : OpR G.X (compareOp op) r) (hf : OpS G r f) (ho' : OpR G.X (compareOp op') r') (hg : OpS G r' g) (ha : SE G a ma) (hb : SE G b mb) (hc : SE G c mc)
    (hm : lastMarks [op, op'] [b, c] = false := by with_unfolding_all rfl) : SB G (.Compare a [op, op'] [b, c] pos) (mTb (mChain f g ma mb mc)) := pt_imp (pt_chain ho ho' ha hb hc hm) fun σ H Q h => tE_chain hf hg (tB_b h)
/-! and, or, not -/
def mNot (ma : MB) : MB := fun ρ S => (ma ρ S).bind fun b S1 => .ok (!b) S1
def mAnd (ma mb : MB) : MB := fun ρ S => (ma ρ S).bind fun b S1 => if b then mb ρ S1 else .ok false S1
def mOr (ma mb : MB) : MB := fun ρ S => (ma ρ S).bind fun b S1 => if b then .ok true S1 else mb ρ S1
variable {ta tb : MB} {rest : List Expr}
theorem sb_not (ha : SB G a ta) : SB G (.UnaryOp .Not a pos) (mNot ta) := pt_imp (pt_not ha) fun σ H Q h => by
  obtain ⟨ρ, μ, S, at', q⟩ := h
  refine ⟨ρ, μ, S, at', po_1 (Rel := relB) at' q fun μ1 H1 S1 x v _ a1 d1 q1 => ?_⟩
  subst d1
  exact q1 μ1 H1 _ (Nx.refl μ1 H1) a1.rs rfl
abbrev SW (G : Fx) (e : Expr) (m : MB) : Prop := PW G.X e (tB G.g m)
theorem sw_and1 (ha : SB G a ta) : SW G (.BoolOp .And [a] pos) ta := pw_and1 ha
theorem sw_or1 (ha : SB G a ta) : SW G (.BoolOp .Or [a] pos) ta := pw_or1 ha
theorem sw_and (ha : SB G a ta) (hb : SW G (.BoolOp .And (b :: rest) pos) tb) : SW G (.BoolOp .And (a :: b :: rest) pos) (mAnd ta tb) := pw_imp (pw_and ha hb) fun σ H Q h => by
  obtain ⟨ρ, μ, S, at', q⟩ := h
  refine ⟨ρ, μ, S, at', po_1 (Rel := relB) at' q fun μ1 H1 S1 x v _ a1 d1 q1 => ?_⟩
  subst d1
  cases x with
  | true => exact ⟨ρ, μ1, S1, a1, q1⟩
  | false => exact q1 μ1 H1 false (Nx.refl μ1 H1) a1.rs rfl
theorem sw_or (ha : SB G a ta) (hb : SW G (.BoolOp .Or (b :: rest) pos) tb) : SW G (.BoolOp .Or (a :: b :: rest) pos) (mOr ta tb) := pw_imp (pw_or ha hb) fun σ H Q h => by
  obtain ⟨ρ, μ, S, at', q⟩ := h
  refine ⟨ρ, μ, S, at', po_1 (Rel := relB) at' q fun μ1 H1 S1 x v _ a1 d1 q1 => ?_⟩
  subst d1
  cases x with
  | true => exact q1 μ1 H1 true (Nx.refl μ1 H1) a1.rs rfl
  | false => exact ⟨ρ, μ1, S1, a1, q1⟩
theorem sb_w (h : SW G e ta) : SB G e ta := h.pt
/-- x and y, as a value -/
def mAndV (ma mb : ME) : ME := fun ρ S => (ma ρ S).bind fun d S1 => match truD S1 d with
  | some true => mb ρ S1
  | some false => .ok d S1
  | none => .stuck
def mOrV (ma mb : ME) : ME := fun ρ S => (ma ρ S).bind fun d S1 => match truD S1 d with
  | some true => .ok d S1
  | some false => mb ρ S1
  | none => .stuck
theorem se_one {op} (ha : SE G a ma) : SE G (.BoolOp op [a] pos) ma := pe_one ha
theorem se_and (ha : SE G a ma) (hb : SE G (.BoolOp .And (b :: rest) pos) mb) : SE G (.BoolOp .And (a :: b :: rest) pos) (mAndV ma mb) := pe_imp (pe_andT ha hb) fun σ H Q h => by
  obtain ⟨ρ, μ, S, at', q⟩ := h
  refine ⟨ρ, μ, S, at', po_1 at' q fun μ1 H1 S1 x v _ a1 d1 q1 => ?_⟩
  revert q1
  cases e : truD S1 x with
  | none => exact fun q1 => q1.elim
  | some k =>
    refine fun q1 => ⟨k, tru_ok' a1.rs d1 e, ?_⟩
    cases k with
    | true => exact ⟨ρ, μ1, S1, a1, q1⟩
    | false => exact q1 μ1 H1 v (Nx.refl μ1 H1) a1.rs d1
theorem se_or (ha : SE G a ma) (hb : SE G (.BoolOp .Or (b :: rest) pos) mb) : SE G (.BoolOp .Or (a :: b :: rest) pos) (mOrV ma mb) := pe_imp (pe_orT ha hb) fun σ H Q h => by
  obtain ⟨ρ, μ, S, at', q⟩ := h
  refine ⟨ρ, μ, S, at', po_1 at' q fun μ1 H1 S1 x v _ a1 d1 q1 => ?_⟩
  revert q1
  cases e : truD S1 x with
  | none => exact fun q1 => q1.elim
  | some k =>
    refine fun q1 => ⟨k, tru_ok' a1.rs d1 e, ?_⟩
    cases k with
    | false => exact ⟨ρ, μ1, S1, a1, q1⟩
    | true => exact q1 μ1 H1 v (Nx.refl μ1 H1) a1.rs d1
/-- not x, as a value -/
def notD (d : D) (S : Sto) : R D := match d with
  | .bl b => .ok (.bl (!b)) S
  | _ => .stuck
theorem se_not (ha : SE G a ma) : SE G (.UnaryOp .Not a pos) (m1 notD ma) := pe_imp (pe_not ha) fun σ H Q h => tE_1 h fun μ H S x v rs r q => by
  cases r <;> first | exact q.elim | skip
  case bl b => exact ⟨b, rfl, Po.same rs (.bl _) q⟩
def negD (d : D) (S : Sto) : R D := match d with
  | .int i => .ok (.int (-i)) S
  | _ => .stuck
theorem se_neg (ha : SE G a ma) : SE G (.UnaryOp .USub a pos) (m1 negD ma) := pe_imp (pe_un un_neg ha) fun σ H Q h => tE_1 h fun μ H S x v rs r q => by
  cases r <;> first | exact q.elim | skip
  case int i => exact ⟨i, rfl, Po.same rs (.int _) q⟩
def mIf (tc : MB) (ma mb : ME) : ME := fun ρ S => (tc ρ S).bind fun b S1 => if b then ma ρ S1 else mb ρ S1
theorem se_if {tc : MB} (hc : SB G c tc) (ha : SE G a ma) (hb : SE G b mb) : SE G (.IfExp c a b pos) (mIf tc ma mb) := pe_imp (pe_ifExp hc ha hb) fun σ H Q h => by
  obtain ⟨ρ, μ, S, at', q⟩ := h
  refine ⟨ρ, μ, S, at', po_1 (Rel := relB) at' q fun μ1 H1 S1 x v _ a1 d1 q1 => ?_⟩
  subst d1
  cases x with
  | true => exact ⟨ρ, μ1, S1, a1, q1⟩
  | false => exact ⟨ρ, μ1, S1, a1, q1⟩
/-! constants -/
theorem se_int {i : Int} {j} : SE G (.Constant (.int i) j pos) (mC (.int i)) := se_C pe_int fun _ _ => .int i
theorem se_bl {i : Bool} {j} : SE G (.Constant (.bool i) j pos) (mC (.bl i)) := se_C pe_bl fun _ _ => .bl i
theorem se_non {j} : SE G (.Constant .none j pos) (mC .non) := se_C pe_non fun _ _ => .non
theorem se_str {i : Str} {j} : SE G (.Constant (.str i) j pos) (mC (.str i)) := se_C pe_str fun _ _ => .str i
/-! built-in calls by values -/
def CallS (G : Fx) (r : List V → Hp → VK → Prop) (f : List D → Sto → R D) : Prop := ∀ (μ : Mp) (H : Hp) (σ : L2.St) (S : Sto) (xs : List D) (vs : List V) (Q : VK), RS G.k μ S H → RDs G.k μ H xs vs → Po G.g (relD G.g) μ H σ Q (f xs S) → r vs H Q
theorem se_callB {id : String} {r : List V → Hp → VK → Prop} {f : List D → Sto → R D} (hc : CallR G.X (.builtin id) r) (hf : CallS G r f) (hg : Gl G.X x) (hm : G.X.mg x = none) (hv : bootBuiltins x = some (.builtin id)) (ha : SA G (e :: es) mA) (hn : x ≠ "__name__" := by decide) (hdb : (x == ("__debug__" : Str)) = false := by decide)
    (he : starEach (e :: es) G.X.env = (false, eval e G.X.env) :: starEach es G.X.env := by rfl) (hpl : (backTo pos (starEach es G.X.env)).any (·.1) = false := by rfl) : SE G (.Call (.Name x p) (e :: es) [] pos) (mL f mA) :=
  pe_imp (pe_callB hc hg hm hv ha hn hdb he hpl) fun σ H Q h => tA_1 h fun μ H S xs vs rs r q => hf μ H σ S xs vs Q rs r q
theorem se_callTy {T : String} {r : List V → Hp → VK → Prop} {f : List D → Sto → R D} (hc : CallR G.X (.type T) r) (hf : CallS G r f) (hg : Gl G.X x) (hm : G.X.mg x = none) (hv : bootBuiltins x = some (.type T)) (ha : SA G (e :: es) mA) (hn : x ≠ "__name__" := by decide) (hdb : (x == ("__debug__" : Str)) = false := by decide)
    (he : starEach (e :: es) G.X.env = (false, eval e G.X.env) :: starEach es G.X.env := by rfl) (hpl : (backTo pos (starEach es G.X.env)).any (·.1) = false := by rfl) : SE G (.Call (.Name x p) (e :: es) [] pos) (mL f mA) :=
  pe_imp (pe_callTy hc hg hm hv ha hn hdb he hpl) fun σ H Q h => tA_1 h fun μ H S xs vs rs r q => hf μ H σ S xs vs Q rs r q
end
end Dn

set_option Elab.async false
set_option linter.all false
set_option maxRecDepth 100000
set_option maxHeartbeats 2000000
namespace Dn
open PySem PySem.Spec PyProof.Rows L2
section
variable {G : Fx} {a b c e o : Expr} {es : List Expr} {ma mb mc : ME} {mA : ML} {pos p : Pos} {x : Str} {st : Stmt} {rest body : List Stmt} {ms mr : MS}
/-! ## statements -/
def sSkip : MS := fun ρ S => .nx ρ S
def F.seq (r : F) (k : Ev → Sto → F) : F := match r with
  | .nx ρ S => k ρ S
  | r => r
def sSeq (m k : MS) : MS := fun ρ S => (m ρ S).seq k
theorem ss_nil : SSs G [] sSkip := pss_imp pss_nil fun E σ H h => by
  obtain ⟨ρ, μ, S, at', q⟩ := h
  exact q μ H σ (Nx.refl μ H) at'.rs at'.re
theorem tS_seq {E : Ends} {σ : L2.St} {H : Hp} (h : tS G.g (sSeq ms mr) E σ H) : tSeq (tS G.g ms) (tS G.g mr) E σ H := by
  obtain ⟨ρ, μ, S, at', q⟩ := h
  refine ⟨ρ, μ, S, at', ?_⟩
  unfold sSeq F.seq at q
  revert q
  cases ms ρ S with
  | nx ρ1 S1 => exact fun q μ1 H1 σ1 n r e => ⟨ρ1, μ1, S1, ⟨e, r, G.pinK _ _ _ _ n at'.pin⟩, q.nx n⟩
  | rt d S1 => exact fun q => q
  | bk ρ1 S1 => exact fun q => q
  | ct ρ1 S1 => exact fun q => q
  | ex c fs ρ1 S1 => exact fun q => q
  | stuck => exact fun q => q
theorem ss_cons (h1 : SS G st ms) (h2 : SSs G rest mr) : SSs G (st :: rest) (sSeq ms mr) := pss_imp (pss_cons h1 h2) fun E σ H h => tS_seq h
theorem ss_one (h1 : SS G st ms) : SSs G [st] ms := pss_one h1
theorem ss_pass : SS G (.Pass pos) sSkip := ps_imp ps_pass fun E σ H h => by
  obtain ⟨ρ, μ, S, at', q⟩ := h
  exact q μ H σ (Nx.refl μ H) at'.rs at'.re
def sBreak : MS := fun ρ S => .bk ρ S
def sCont : MS := fun ρ S => .ct ρ S
theorem ss_break : SS G (.Break pos) sBreak := ps_imp ps_break fun E σ H h => by
  obtain ⟨ρ, μ, S, at', q⟩ := h
  exact q μ H σ (Nx.refl μ H) at'.rs at'.re
theorem ss_continue : SS G (.Continue pos) sCont := ps_imp ps_continue fun E σ H h => by
  obtain ⟨ρ, μ, S, at', q⟩ := h
  exact q μ H σ (Nx.refl μ H) at'.rs at'.re
theorem ss_doc {z j pos'} : SS G (.Expr (.Constant (.str z) j pos) pos') sSkip := ps_imp ps_doc fun E σ H h => by
  obtain ⟨ρ, μ, S, at', q⟩ := h
  exact q μ H σ (Nx.refl μ H) at'.rs at'.re
/-- from an expression's result to a statement's -/
theorem po_to {α β : Type} {Rel : Mp → Hp → α → β → Prop} {μ : Mp} {H : Hp} {σ : L2.St} {ρ : Ev} {S : Sto} {E : Ends} {Rr : β → Hp → Prop} {f : α → Sto → F} {r : R α} (at' : At G.g μ H ρ σ S)
    (q : PoS G.g μ H E (r.to ρ f)) (k : ∀ (μ' : Mp) (H' : Hp) (S : Sto) (x : α) (v : β), Nx μ μ' H H' → At G.g μ' H' ρ σ S → Rel μ' H' x v → PoS G.g μ' H' E (f x S) → Rr v H') : Po G.g Rel μ H σ Rr r := by
  have q1 := Po.to (Rel := Rel) at'.re q
  revert q1
  cases r with
  | stuck => exact fun q1 => q1
  | exc c fs S1 => exact fun q1 => q1
  | ok x S1 =>
    intro q1 μ1 H1 v n1 r1 d1
    obtain ⟨x, μ1', S1', n1', r1', d1', q2⟩ := q1 μ1 H1 v n1 r1 d1
    exact k μ1' H1 S1' x v n1' (at'.nx n1' r1') d1' q2
def sRet (ma : ME) : MS := fun ρ S => (ma ρ S).to ρ fun d S1 => .rt d S1
theorem ss_ret (ha : SE G a ma) : SS G (.Return (some a) pos) (sRet ma) := ps_imp (ps_ret ha) fun E σ H h => by
  obtain ⟨ρ, μ, S, at', q⟩ := h
  exact ⟨ρ, μ, S, at', po_to at' q fun μ1 H1 S1 x v n a1 d1 q1 => q1 μ1 H1 v (Nx.refl μ1 H1) a1.rs d1⟩
def sRetN : MS := fun _ S => .rt .non S
theorem ss_retN : SS G (.Return none pos) sRetN := ps_imp ps_retN fun E σ H h => by
  obtain ⟨ρ, μ, S, at', q⟩ := h
  exact q μ H _ (Nx.refl μ H) at'.rs .non
def sExpr (ma : ME) : MS := fun ρ S => (ma ρ S).to ρ fun _ S1 => .nx ρ S1
theorem ss_expr (ha : SE G a ma) (hs : swapsWith a none pos.line G.X.env = pure false := by rfl) : SS G (.Expr a pos) (sExpr ma) := ps_imp (ps_expr ha hs) fun E σ H h => by
  obtain ⟨ρ, μ, S, at', q⟩ := h
  exact ⟨ρ, μ, S, at', po_to at' q fun μ1 H1 S1 x v n a1 d1 q1 => q1 μ1 H1 σ (Nx.refl μ1 H1) a1.rs a1.re⟩
def sIf (tc : MB) (m k : MS) : MS := fun ρ S => (tc ρ S).to ρ fun b S1 => if b then m ρ S1 else k ρ S1
theorem ss_if {tc : MB} {B1 B2 : List Stmt} {m k : MS} (hc : SB G c tc) (h1 : SSs G B1 m) (h2 : SSs G B2 k) : SS G (.If c B1 B2 pos) (sIf tc m k) := ps_imp (ps_if hc h1 h2) fun E σ H h => by
  obtain ⟨ρ, μ, S, at', q⟩ := h
  refine ⟨ρ, μ, S, at', po_to (Rel := relB) at' q fun μ1 H1 S1 x v n a1 d1 q1 => ?_⟩
  subst d1
  cases x with
  | true => exact ⟨ρ, μ1, S1, a1, q1⟩
  | false => exact ⟨ρ, μ1, S1, a1, q1⟩
/-! ## targets -/
def gN (i : Nat) : MG := fun d ρ S => .ok (ρ.set i (some d)) S
theorem sg_name (i : Nat) {y : Str} (hN : G.X.N.Nodup) (hi : G.X.N[i]? = some y := by rfl) (hx : Loc G.X.env.scope y := by first | exact Or.inl rfl | exact Or.inr rfl) (hf : G.X.fn y = true ∨ G.X.env.scope.names.lookup y = some .local := by first | exact .inl rfl | exact .inr rfl) : SG G [i] (.Name y pos) (gN i) :=
  pg_imp (pg_name hN hi hx hf) fun v σ H Q h => by
    obtain ⟨d, ρ, μ, S, at', r, q⟩ := h
    exact q μ H _ (Nx.refl μ H) at'.rs (at'.re.set i r) ⟨by simp, fun j hj => by rw [List.getElem?_set_ne (fun z => hj (by simp [z]))]⟩
def gs0 : MGs := fun ds ρ S => match ds with
  | [] => .ok ρ S
  | _ => .stuck
def gsC (g : MG) (gs : MGs) : MGs := fun ds ρ S => match ds with
  | d :: r => (g d ρ S).bind fun ρ1 S1 => gs r ρ1 S1
  | [] => .stuck
theorem sgs_nil : SGs G [] [] gs0 := pgs_imp pgs_nil fun vs σ H Q h => by
  obtain ⟨ds, ρ, μ, S, at', r, q⟩ := h
  cases r with
  | nil => exact ⟨rfl, q μ H σ (Nx.refl μ H) at'.rs at'.re (Off.refl _ _)⟩
  | cons _ _ => exact q.elim
theorem sgs_cons {g : MG} {gs : MGs} {ts us : List Nat} (h1 : SG G ts e g) (h2 : SGs G us es gs)
    (hs : (assignEach (e :: es) G.X.env).map (·.2) = assign e G.X.env :: (assignEach es G.X.env).map (·.2) := by rfl) : SGs G (ts ++ us) (e :: es) (gsC g gs) := pgs_imp (pgs_cons h1 h2 hs) fun vs σ H Q h => by
  obtain ⟨ds, ρ, μ, S, at', r, q⟩ := h
  cases r with
  | nil => exact q.elim
  | @cons d v ds vs r1 r2 =>
    refine ⟨v, vs, rfl, d, ρ, μ, S, at', r1, ?_⟩
    simp only [gsC] at q
    revert q
    cases g d ρ S with
    | stuck => exact fun q => q
    | exc c fs S1 => exact fun q => q
    | ok ρ1 S1 =>
      intro q μ1 H1 σ1 n1 rs1 re1 o1
      refine ⟨ds, ρ1, μ1, S1, ⟨re1, rs1, G.pinK _ _ _ _ n1 at'.pin⟩, r2.mono n1, ?_⟩
      have q' : PoG G.g (ts ++ us) μ H σ Q (gs ds ρ1 S1) := q
      revert q'
      cases gs ds ρ1 S1 with
      | stuck => exact fun q => q
      | exc c fs S1 => exact fun q => q
      | ok ρ2 S2 => exact fun q μ2 H2 σ2 n2 rs2 re2 o2 => q μ2 H2 σ2 (n1.trans n2) rs2 re2 (o1.trans o2)
def gT (n : Nat) (gs : MGs) : MG := fun d ρ S => match d with
  | .tup ds => if ds.length = n then gs ds ρ S else .stuck
  | .twk ds => if ds.length = n then gs ds ρ S else .stuck
  | _ => .stuck
theorem sg_tup {gs : MGs} {ts : List Nat} {k n : Nat} (hc : G.X.calm = true) (h : SGs G ts es gs) (hn : (assignEach es G.X.env).length = n := by rfl) (hst : (assignEach es G.X.env).findIdx? (·.1) = none := by rfl) : SG G ts (.Tuple es k pos) (gT n gs) :=
  pg_imp (pg_tup hc h hn hst) fun v σ H Q h => by
    obtain ⟨d, ρ, μ, S, at', r, q⟩ := h
    cases r <;> first | exact q.elim | skip
    case tup a vs ds h1 r1 =>
      simp only [gT] at q
      split at q
      · rename_i hl
        exact ⟨a, vs, rfl, h1.sq, by rw [← r1.length]; exact hl, ds, ρ, μ, S, at', r1, q⟩
      · exact q.elim
    case twk a vs ds h1 r1 =>
      simp only [gT] at q
      split at q
      · rename_i hl
        exact ⟨a, vs, rfl, h1, by rw [← r1.length]; exact hl, ds, ρ, μ, S, at', r1, q⟩
      · exact q.elim
def sAsg (ma : ME) (g : MG) : MS := fun ρ S => (ma ρ S).to ρ fun d S1 => match g d ρ S1 with
  | .ok ρ2 S2 => .nx ρ2 S2
  | _ => .stuck
theorem tS_asg {g : MG} {ts : List Nat} {E : Ends} {σ : L2.St} {H : Hp} (h : tS G.g (sAsg ma g) E σ H) : tAsg (tE G.g ma) (tG G.g ts g) E σ H := by
  obtain ⟨ρ, μ, S, at', q⟩ := h
  refine ⟨ρ, μ, S, at', po_to at' q fun μ1 H1 S1 d v n a1 d1 q1 => ?_⟩
  refine ⟨d, ρ, μ1, S1, a1, d1, ?_⟩
  revert q1
  cases g d ρ S1 with
  | stuck => exact fun q => q
  | exc c fs S2 => exact fun q => q
  | ok ρ2 S2 => exact fun q μ2 H2 σ2 n2 rs2 re2 o2 => q μ2 H2 σ2 n2 rs2 re2
theorem ss_asg {tg : Expr} {g : MG} {ts : List Nat} (ha : SE G a ma) (hg : SG G ts tg g) (hs : swapsWithSole [tg] a pos.line G.X.env = pure false := by rfl) (hw : swappedStores [tg] a G.X.env = pure none := by rfl)
    (h1 : (assignEach [tg] G.X.env).map (·.2) = [assign tg G.X.env] := by rfl) : SS G (.Assign [tg] a pos) (sAsg ma g) := ps_imp (ps_asg ha hg hs hw h1) fun E σ H h => tS_asg h
/-- name = e -/
def sSet (ma : ME) (i : Nat) : MS := fun ρ S => (ma ρ S).to ρ fun d S1 => .nx (ρ.set i (some d)) S1
theorem ss_set (i : Nat) {y : Str} {pos' : Pos} (ha : SE G a ma) (hN : G.X.N.Nodup) (hi : G.X.N[i]? = some y := by rfl) (hx : Loc G.X.env.scope y := by first | exact Or.inl rfl | exact Or.inr rfl) (hs : swapsWith a (some (.Name y pos')) pos.line G.X.env = pure false := by rfl)
    (hf : G.X.fn y = true ∨ G.X.env.scope.names.lookup y = some .local := by first | exact .inl rfl | exact .inr rfl) : SS G (.Assign [.Name y pos'] a pos) (sSet ma i) := ps_imp (ps_set hN hi hx ha hs hf) fun E σ H h => by
  obtain ⟨ρ, μ, S, at', q⟩ := h
  exact ⟨ρ, μ, S, at', po_to at' q fun μ1 H1 S1 d v n a1 d1 q1 => q1 μ1 H1 _ (Nx.refl μ1 H1) a1.rs (a1.re.set i d1)⟩
/-- o[i] = e -/
def putD (o i : D) (S : Sto) (d : D) : Option Sto := match o, i with
  | .ref r, .int k => match S[r]? with
    | some (.lst xs) => match ixN xs.length k with
      | some j => some (S.set r (.lst (xs.set j d)))
      | none => none
    | _ => none
  | _, _ => none
def gSub (mo mi : ME) : MG := fun d ρ S => (mo ρ S).bind fun o S1 => (mi ρ S1).bind fun i S2 => match putD o i S2 d with
  | some S3 => .ok ρ S3
  | none => .stuck
theorem nf_ok {α β : Type} {Rel : Mp → Hp → α → β → Prop} {μ : Mp} {H : Hp} {σ : L2.St} {ρ : Ev} {S : Sto} {ts : List Nat} {Q : L2.St → Hp → Prop} {Rr : β → Hp → Prop} {f : α → Sto → R Ev} {r : R α} (at' : At G.g μ H ρ σ S)
    (q : PoG G.g ts μ H σ Q (r.bind f)) (k : ∀ (μ' : Mp) (H' : Hp) (S : Sto) (x : α) (v : β), Nx μ μ' H H' → At G.g μ' H' ρ σ S → Rel μ' H' x v → PoG G.g ts μ' H' σ Q (f x S) → Rr v H') : Po G.g Rel μ H σ Rr r := by
  revert q
  cases r with
  | stuck => exact fun q => q
  | exc c fs S1 => exact fun q => q.elim
  | ok x S1 =>
    intro q μ1 H1 v n1 r1 d1
    refine k μ1 H1 S1 x v n1 (at'.nx n1 r1) d1 ?_
    have q' : PoG G.g ts μ H σ Q (f x S1) := q
    revert q'
    cases f x S1 with
    | stuck => exact fun q => q
    | exc c fs S1 => exact fun q => q
    | ok ρ2 S2 => exact fun q μ2 H2 σ2 n2 rs2 re2 o2 => q μ2 H2 σ2 (n1.trans n2) rs2 re2 o2
theorem sg_sub {i : Expr} {mo mi : ME} (ho : SE G o mo) (hi : SE G i mi)
    (ha : ∀ v, assign (.Subscript o i pos) G.X.env v = (do
      let ov ← holding [v] (eval o G.X.env)
      let iv ← holding [v, ov] (eval i G.X.env)
      standAt pos
      holding [v, ov, iv] (setItem ov iv v)
      release [v, ov, iv] []) := by intro _; rfl) : SG G [] (.Subscript o i pos) (gSub mo mi) := pg_imp (pg_sub ho hi set_list ha) fun v σ H Q h => by
  obtain ⟨d, ρ, μ, S, at', r, q⟩ := h
  refine ⟨ρ, μ, S, at', nf_ok at' q fun μ1 H1 S1 ov u n1 a1 d1 q1 => ?_⟩
  refine ⟨ρ, μ1, S1, a1, nf_ok (Rel := relD G.g) a1 q1 fun μ2 H2 S2 iv w n2 a2 d2 q2 => ?_⟩
  have d1' := d1.mono n2
  have r' := (r.mono n1).mono n2
  cases d1' <;> cases d2 <;> first | exact q2.elim | skip
  case ref.int j p hj k =>
    simp only [putD] at q2
    cases e : S2[j]? with
    | none => simp only [e] at q2; exact q2.elim
    | some ob =>
      cases ob with
      | ins C ns fs => simp only [e] at q2; exact q2.elim
      | dk kvs => simp only [e] at q2; exact q2.elim
      | dt kvs => simp only [e] at q2; exact q2.elim
      | hid => simp only [e] at q2; exact q2.elim
      | lst xs =>
        obtain ⟨vs, g, rv⟩ := a2.rs.lst hj e
        simp only [e] at q2
        cases e2 : ixN xs.length k with
        | none => simp only [e2] at q2; exact q2.elim
        | some m =>
          simp only [e2] at q2
          have hm := List.mem_of_getElem? hj
          have nx : Nx μ2 μ2 H2 (upd H2 p (.lst (vs.set m v))) := Nx.put hm g fun z => z
          refine ⟨p, vs, k, m, rfl, rfl, g, by rw [← rv.length]; exact e2, ?_⟩
          exact q2 μ2 _ σ nx (a2.rs.put hj g (fun z => z) ⟨_, upd_same, (RDs.set r' m rv).mono nx⟩) (a2.re.mono nx) (Off.refl _ _)
/-! ## walks -/
structure Wk where
  n : Nat
  get : Nat → Sto → Option D
  fin : Sto → Bool
abbrev MI := Ev → Sto → R Wk
structure RI (K : Kx) (μ₀ : Mp) (H₀ : Hp) (it : Wk) (J : It) : Prop where
  go : ∀ (μ : Mp) (H : Hp) (S : Sto) (k : Nat) (d : D), Nx μ₀ μ H₀ H → RS K μ S H → k < it.n → it.get k S = some d → J.go k H ∧ ∀ x H', J.yld k H x H' → Nx μ μ H H' ∧ RS K μ S H' ∧ RD K μ H' d x
  stop : ∀ (μ : Mp) (H : Hp) (S : Sto), Nx μ₀ μ H₀ H → RS K μ S H → it.fin S = true → J.stop it.n H
def tI (G : Gx) (m : MI) : TI := fun σ H Rr => ∃ ρ μ S, At G μ H ρ σ S ∧ Po G (fun μ H it J => RI G.K μ H it J) μ H σ Rr (m ρ S)
abbrev SI (G : Fx) (tg e : Expr) (m : MI) : Prop := PI G.X tg e (tI G.g m)
theorem pi_imp {X : Cx} {tg e : Expr} {t t' : TI} (h : PI X tg e t) (i : ∀ σ H Q, t' σ H Q → t σ H Q) : PI X tg e t' := ⟨fun p s σ H Q I q => h.run p s σ H Q I (i _ _ _ q)⟩
def forF (it : Wk) (tg : MG) (body : MS) : Nat → Ev → Sto → F
  | 0, ρ, S => if it.fin S then .nx ρ S else .stuck
  | r + 1, ρ, S => match it.get (it.n - (r + 1)) S with
    | none => .stuck
    | some d => match tg d ρ S with
      | .ok ρ1 S1 => match body ρ1 S1 with
        | .nx ρ2 S2 => forF it tg body r ρ2 S2
        | .ct ρ2 S2 => forF it tg body r ρ2 S2
        | .bk ρ2 S2 => .nx ρ2 S2
        | .rt d S2 => .rt d S2
        | .ex c fs ρ2 S2 => .ex c fs ρ2 S2
        | .stuck => .stuck
      | _ => .stuck
def sFor (mi : MI) (tg : MG) (body : MS) : MS := fun ρ S => (mi ρ S).to ρ fun it S1 => forF it tg body it.n ρ S1
theorem for_part {μ1 : Mp} {H1 : Hp} {S1 : Sto} {it : Wk} {J : It} {g : MG} {ts : List Nat} {mb : MS} {E : Ends} {σ : L2.St} {ρ : Ev} (a1 : At G.g μ1 H1 ρ σ S1) (ri : RI G.k μ1 H1 it J) (q1 : PoS G.g μ1 H1 E (forF it g mb it.n ρ S1)) :
    ∃ W : Nat → Nat → L2.St → Hp → Prop, (∃ m, W 0 m σ H1) ∧ ∀ i m σ H, W i m σ H → (J.stop i H ∧ E.nx σ H) ∨ (J.go i H ∧ ∃ N : L2.St → Hp → Prop, (∀ σ' H', N σ' H' → ∃ m', m' < m ∧ W (i + 1) m' σ' H') ∧ ∀ x H', J.yld i H x H' → tG G.g ts g x σ H' fun σ2 H2 => tS G.g mb { E with nx := N, ct := N, bk := E.nx } σ2 H2) := by
  refine ⟨fun i m σ H => ∃ ρ μ S, m = it.n - i ∧ i ≤ it.n ∧ At G.g μ H ρ σ S ∧ Nx μ1 μ H1 H ∧ PoS G.g μ H E (forF it g mb (it.n - i) ρ S), ⟨it.n, ρ, μ1, S1, by simp, Nat.zero_le _, a1, Nx.refl _ _, by simpa using q1⟩, ?_⟩
  rintro i m σ2 H2 ⟨ρ2, μ2, S2, rfl, hi, a2, n2, q2⟩
  by_cases hlt : i < it.n
  · obtain ⟨r, hr⟩ : ∃ r, it.n - i = r + 1 := ⟨it.n - i - 1, by omega⟩
    have hk : it.n - (r + 1) = i := by omega
    rw [hr] at q2
    simp only [forF] at q2
    rw [hk] at q2
    cases e : it.get i S2 with
    | none => rw [e] at q2; exact q2.elim
    | some d =>
      rw [e] at q2
      obtain ⟨hgo, hy⟩ := ri.go μ2 H2 S2 i d n2 a2.rs hlt e
      refine .inr ⟨hgo, fun σ' H' => ∃ ρ μ S, At G.g μ H' ρ σ' S ∧ Nx μ1 μ H1 H' ∧ PoS G.g μ H' E (forF it g mb r ρ S), fun σ' H' ⟨ρ', μ', S', a', n', q'⟩ => ⟨r, by omega, ρ', μ', S', by omega, hlt, a', n', by rw [show it.n - (i + 1) = r by omega]; exact q'⟩, fun x H' y => ?_⟩
      obtain ⟨n3, rs3, rd3⟩ := hy x H' y
      have a3 := a2.nx n3 rs3
      refine ⟨d, ρ2, μ2, S2, a3, rd3, ?_⟩
      simp only at q2
      revert q2
      cases g d ρ2 S2 with
      | stuck => exact fun q => q
      | exc c fs S3 => exact fun q => q
      | ok ρ3 S3 =>
        intro q2 μ4 H4 σ4 n4 rs4 re4 o4
        have a4 : At G.g μ4 H4 ρ3 σ4 S3 := ⟨re4, rs4, G.pinK _ _ _ _ n4 a3.pin⟩
        refine ⟨ρ3, μ4, S3, a4, ?_⟩
        simp only at q2
        revert q2
        have n14 : Nx μ1 μ4 H1 H4 := (n2.trans n3).trans n4
        have n24 : Nx μ2 μ4 H2 H4 := n3.trans n4
        cases mb ρ3 S3 with
        | stuck => exact fun q => q
        | nx ρ5 S5 => exact fun q μ5 H5 σ5 n5 rs5 re5 => ⟨ρ5, μ5, S5, ⟨re5, rs5, G.pinK _ _ _ _ n5 a4.pin⟩, n14.trans n5, (q.nx n24).nx n5⟩
        | ct ρ5 S5 => exact fun q μ5 H5 σ5 n5 rs5 re5 => ⟨ρ5, μ5, S5, ⟨re5, rs5, G.pinK _ _ _ _ n5 a4.pin⟩, n14.trans n5, (q.nx n24).nx n5⟩
        | bk ρ5 S5 => exact fun q μ5 H5 σ5 n5 rs5 re5 => q μ5 H5 σ5 (n24.trans n5) rs5 re5
        | rt d5 S5 => exact fun q μ5 H5 v5 n5 rs5 rd5 => q μ5 H5 v5 (n24.trans n5) rs5 rd5
        | ex c fs ρ5 S5 => exact fun q μ5 H5 σ5 d5 C5 n5 rs5 re5 x5 => q μ5 H5 σ5 d5 C5 (n24.trans n5) rs5 re5 x5
  · have e : i = it.n := by omega
    subst e
    simp only [Nat.sub_self, forF] at q2
    split at q2
    · rename_i hf
      exact .inl ⟨ri.stop μ2 H2 S2 n2 a2.rs hf, q2 μ2 H2 σ2 (Nx.refl _ _) a2.rs a2.re⟩
    · exact q2.elim
theorem tS_for {mi : MI} {g : MG} {ts : List Nat} {mb : MS} {E : Ends} {σ : L2.St} {H : Hp} (h : tS G.g (sFor mi g mb) E σ H) : tFor (tI G.g mi) (tG G.g ts g) (tS G.g mb) E σ H := by
  obtain ⟨ρ, μ, S, at', q⟩ := h
  exact ⟨ρ, μ, S, at', po_to (Rel := fun μ H it J => RI G.k μ H it J) at' q fun μ1 H1 S1 it J n1 a1 ri q1 => for_part a1 ri q1⟩
theorem ss_for {tg iter : Expr} {mi : MI} {g : MG} {ts : List Nat} {mb : MS} (hp : PassesOwn (model G.X.prog G.X.w) G.X.A G.X.env G.X.xe) (hc : G.X.calm = true) (hi : SI G tg iter mi) (hg : SG G ts tg g) (hb : SSs G body mb)
    (hs : ∀ z, foldedSetIterable iter G.X.env z = pure z := by intro _; rfl) : SS G (.For tg iter body [] pos) (sFor mi g mb) := ps_imp (ps_for hp hc hi hg hb hs) fun E σ H h => tS_for h
/-! the things that are walked -/
def itT (ds : List D) : Wk := ⟨ds.length, fun k _ => ds[k]?, fun _ => true⟩
def lenL (S : Sto) (i : Nat) : Option Nat := match S[i]? with
  | some (.lst xs) => some xs.length
  | _ => none
def itL (i n : Nat) : Wk := ⟨n, fun k S => match S[i]? with
  | some (.lst xs) => if xs.length = n then xs[k]? else none
  | _ => none, fun S => lenL S i == some n⟩
def itR (lo : Int) (n : Nat) : Wk := ⟨n, fun k _ => some (.int (lo + (k : Nat))), fun _ => true⟩
theorem ri_tup {K : Kx} {μ : Mp} {H : Hp} {a : Addr} {vs : List V} {ds : List D} (h : SqT K.K H a vs) (r : RDs K μ H ds vs) : RI K μ H (itT ds) (Itt K.K a) where
  go := fun μ1 H1 S k d n rs hk e => by
    obtain ⟨v, hv, rv⟩ := r.get (show ds[k]? = some d from e)
    have h1 := n.hard.sqT h
    refine ⟨⟨vs, v, h1, hv⟩, fun x H' y => ?_⟩
    obtain ⟨rfl, hy⟩ := y
    have e2 := hy vs h1
    rw [hv] at e2; cases e2
    exact ⟨Nx.refl _ _, rs, rv.mono n⟩
  stop := fun μ1 H1 S n rs _ => ⟨vs, n.hard.sqT h, by rw [← r.length]; exact Nat.le_refl _⟩
theorem ri_rol {K : Kx} {μ : Mp} {H : Hp} {a : Addr} {vs : List V} {ds : List D} (h : RoL K.K μ H a vs) (r : RDs K μ H ds vs) : RI K μ H (itT ds) (Itl K.K a) where
  go := fun μ1 H1 S k d n rs hk e => by
    obtain ⟨v, hv, rv⟩ := r.get (show ds[k]? = some d from e)
    have h1 := (n.roL h).sq
    refine ⟨⟨vs, v, h1, hv⟩, fun x H' y => ?_⟩
    obtain ⟨rfl, hy⟩ := y
    have e2 := hy vs h1
    rw [hv] at e2; cases e2
    exact ⟨Nx.refl _ _, rs, rv.mono n⟩
  stop := fun μ1 H1 S n rs _ => ⟨vs, (n.roL h).sq, by rw [← r.length]; exact Nat.le_refl _⟩
theorem ri_lst {K : Kx} {μ : Mp} {H : Hp} {a : Addr} {i m : Nat} (h : μ.m[i]? = some a) : RI K μ H (itL i m) (Itl K.K a) where
  go := fun μ1 H1 S k d n rs hk e => by
    simp only [itL] at e
    split at e
    · rename_i xs e1
      split at e
      · obtain ⟨vs, g, r⟩ := rs.lst (n.at h) e1
        obtain ⟨v, hv, rv⟩ := r.get e
        refine ⟨⟨vs, v, SqL.of g, hv⟩, fun x H' y => ?_⟩
        obtain ⟨rfl, hy⟩ := y
        have e2 := hy vs (SqL.of g)
        rw [hv] at e2; cases e2
        exact ⟨Nx.refl _ _, rs, rv⟩
      · cases e
    · cases e
  stop := fun μ1 H1 S n rs e => by
    simp only [itL, lenL, beq_iff_eq] at e
    split at e
    · rename_i xs e1
      obtain ⟨vs, g, r⟩ := rs.lst (n.at h) e1
      injection e with e
      exact ⟨vs, SqL.of g, by rw [← r.length, e]; exact Nat.le_refl _⟩
    · cases e
theorem ri_rng {K : Kx} {μ : Mp} {H : Hp} {lo : Int} {n : Nat} : RI K μ H (itR lo n) (L2.Itr lo n) where
  go := fun μ1 H1 S k d n rs hk e => by
    refine ⟨hk, fun x H' y => ?_⟩
    obtain ⟨rfl, rfl⟩ := y
    cases e
    exact ⟨Nx.refl _ _, rs, .int _⟩
  stop := fun _ _ _ _ _ _ => Nat.le_refl _
/-- list or tuple -/
def walkD (S : Sto) : D → Option Wk
  | .tup ds => some (itT ds)
  | .twk ds => some (itT ds)
  | .rol ds => some (itT ds)
  | .ref i => match lenL S i with
    | some n => some (itL i n)
    | none => none
  | _ => none
end
end Dn

set_option Elab.async false
set_option linter.all false
set_option maxRecDepth 100000
set_option maxHeartbeats 2000000
namespace Dn
open PySem PySem.Spec PyProof.Rows L2 RZ
section
variable {G : Fx} {a b c e o : Expr} {es : List Expr} {ma mb mc : ME} {mA : ML} {pos p : Pos} {x : Str} {tg : Expr}
/-! ## what is walked -/
def iSeq (K : PySem.W.Frag) (tl : TE) : TI := fun σ H R => tl σ H fun v H1 => (∃ q, v = .ref q ∧ (∃ ws, SqL K H1 q ws) ∧ R (Itl K q) H1) ∨ (∃ q, v = .ref q ∧ (∃ ws, SqT K H1 q ws) ∧ R (Itt K q) H1)
theorem pi_seq {X : Cx} {l : Expr} {tl : TE} (hl : PE X l tl) : PI X tg l (iSeq X.K tl) := by
  refine ⟨fun pp st ss HH RR J hq => thn (hl.run pp st ss HH _ J hq) fun vv s1 hv => ?_⟩
  obtain ⟨y, H1, I1, r1, q1⟩ := hv
  have fr : ∀ c ∈ [s1.heap.objs.size], FpOk X pp H1 c := fun c hc => by
    rw [List.mem_singleton.mp hc]
    exact I1.fpOk (Nat.le_refl _) (I1.hok.fresh (Nat.le_refl _))
  rcases q1 with ⟨q, rfl, ⟨ws, hw⟩, fin⟩ | ⟨q, rfl, ⟨ws, hw⟩, fin⟩
  · cases r1
    obtain ⟨its, _, pl, _⟩ := I1.list hw
    exact wpAny_pyIter_list pl.isList ⟨_, [s1.heap.objs.size], _, _, H1, rfl, I1.kept (t' := s1.toks) (fun _ _ e => Heap.get?_push_of_some _ e), turn_list q _, ⟨_, Heap.get?_push_size _ rfl, rfl, rfl⟩, fr, fin⟩
  · cases r1
    obtain ⟨its, _, pl, _⟩ := I1.tuple hw
    exact wpAny_pyIter_tuple (show s1.heap.IsTuple q its.toArray from pl) ⟨_, [s1.heap.objs.size], _, _, H1, rfl, I1.kept (t' := s1.toks) (fun _ _ e => Heap.get?_push_of_some _ e), turn_tuple q _, ⟨_, Heap.get?_push_size _ rfl, rfl, rfl⟩, fr, fin⟩
def mI (ma : ME) : MI := fun ρ S => (ma ρ S).bind fun d S1 => match walkD S1 d with
  | some it => .ok it S1
  | none => .stuck
theorem lenL_some {S : Sto} {i n : Nat} (h : lenL S i = some n) : ∃ xs, S[i]? = some (.lst xs) ∧ xs.length = n := by
  unfold lenL at h
  split at h
  · injection h with h; exact ⟨_, by assumption, h⟩
  · cases h
theorem si_seq (ha : SE G a ma) : SI G tg a (mI ma) := pi_imp (pi_seq ha) fun σ H Rr h => by
  obtain ⟨ρ, μ, S, at', q⟩ := h
  refine ⟨ρ, μ, S, at', po_1 (Rel' := fun μ H it J => RI G.k μ H it J) at' q fun μ1 H1 S1 d v n1 a1 d1 q1 => ?_⟩
  cases d1 <;> first | exact q1.elim | skip
  case tup q vs ds h1 r1 => exact .inr ⟨q, rfl, ⟨_, h1.sq⟩, q1 μ1 H1 _ (Nx.refl _ _) a1.rs (ri_tup h1.sq r1)⟩
  case twk q vs ds h1 r1 => exact .inr ⟨q, rfl, ⟨_, h1⟩, q1 μ1 H1 _ (Nx.refl _ _) a1.rs (ri_tup h1 r1)⟩
  case rol q vs ds h1 r1 => exact .inl ⟨q, rfl, ⟨_, h1.sq⟩, q1 μ1 H1 _ (Nx.refl _ _) a1.rs (ri_rol h1 r1)⟩
  case ref i q h1 =>
    simp only [walkD] at q1
    cases e : lenL S1 i with
    | none => rw [e] at q1; exact q1.elim
    | some n =>
      rw [e] at q1
      obtain ⟨xs, e1, _⟩ := lenL_some e
      obtain ⟨vs, g, _⟩ := a1.rs.lst h1 e1
      exact .inl ⟨q, rfl, ⟨_, SqL.of g⟩, q1 μ1 H1 _ (Nx.refl _ _) a1.rs (ri_lst h1)⟩
def rngI (lo hi : Int) : Option Wk := if -(2 ^ 62) ≤ lo ∧ lo < 2 ^ 62 ∧ -(2 ^ 62) ≤ hi ∧ hi < 2 ^ 62 then some (itR lo (hi - lo).toNat) else none
def rng1 (ds : List D) : Option Wk := match ds with
  | [.int j] => rngI 0 j
  | _ => none
def rng2 (ds : List D) : Option Wk := match ds with
  | [.int i, .int j] => rngI i j
  | _ => none
def mIA (f : List D → Sto → Option Wk) (mA : ML) : MI := fun ρ S => (mA ρ S).bind fun ds S1 => match f ds S1 with
  | some it => .ok it S1
  | none => .stuck
theorem tI_A {f : List D → Sto → Option Wk} {σ : L2.St} {H : Hp} {Rr : It → Hp → Prop} {R0 : List V → Hp → Prop} (h : tI G.g (mIA f mA) σ H Rr)
    (k : ∀ (μ : Mp) (H : Hp) (S : Sto) (ds : List D) (vs : List V) (it : Wk), RS G.k μ S H → RDs G.k μ H ds vs → f ds S = some it → (∀ J, RI G.k μ H it J → Rr J H) → R0 vs H) : tA G.g mA σ H R0 := by
  obtain ⟨ρ, μ, S, at', q⟩ := h
  refine ⟨ρ, μ, S, at', po_1 (Rel := relDs G.g) (Rel' := fun μ H it J => RI G.k μ H it J) at' q fun μ1 H1 S1 ds vs n1 a1 d1 q1 => ?_⟩
  cases e : f ds S1 with
  | none => rw [e] at q1; exact q1.elim
  | some it =>
    rw [e] at q1
    exact k μ1 H1 S1 ds vs it a1.rs d1 e fun J hJ => q1 μ1 H1 J (Nx.refl _ _) a1.rs hJ
theorem rngI_some {lo hi : Int} {it : Wk} (h : rngI lo hi = some it) : (-(2 ^ 62) ≤ lo ∧ lo < 2 ^ 62 ∧ -(2 ^ 62) ≤ hi ∧ hi < 2 ^ 62) ∧ it = itR lo (hi - lo).toNat := by
  unfold rngI at h
  split at h
  · injection h with h; exact ⟨by assumption, h.symm⟩
  · cases h
theorem si_range1 (hg : Gl G.X "range") (hm : G.X.mg "range" = none) (ha : SA G [a] mA) (hs : starEach [a] G.X.env = [(false, eval a G.X.env)] := by rfl) : SI G tg (.Call (.Name "range" p) [a] [] pos) (mIA (fun ds _ => rng1 ds) mA) :=
  pi_imp (pi_range1 hg hm ha hs) fun σ H Rr h => tI_A h fun μ H S ds vs it rs r e k => by
    unfold rng1 at e
    split at e
    · rename_i j
      cases r with
      | cons r1 r2 =>
        cases r1; cases r2
        obtain ⟨hb, rfl⟩ := rngI_some e
        exact ⟨j, rfl, hb.2.2.1, hb.2.2.2, by have := k _ (ri_rng (lo := 0) (n := (j - 0).toNat)); simpa using this⟩
    · cases e
theorem si_range2 (hg : Gl G.X "range") (hm : G.X.mg "range" = none) (ha : SA G [a, b] mA) (hs : starEach [a, b] G.X.env = [(false, eval a G.X.env), (false, eval b G.X.env)] := by rfl) (hs2 : starEach [b] G.X.env = [(false, eval b G.X.env)] := by rfl) :
    SI G tg (.Call (.Name "range" p) [a, b] [] pos) (mIA (fun ds _ => rng2 ds) mA) :=
  pi_imp (pi_range2 hg hm ha hs hs2) fun σ H Rr h => tI_A h fun μ H S ds vs it rs r e k => by
    unfold rng2 at e
    split at e
    · rename_i i j
      cases r with
      | cons r1 r2 =>
        cases r1
        cases r2 with
        | cons r1 r2 =>
          cases r1; cases r2
          obtain ⟨hb, rfl⟩ := rngI_some e
          exact ⟨i, j, rfl, hb, k _ ri_rng⟩
    · cases e
/-! zip of two tuples -/
def itZT (xs ys : List D) : Wk := ⟨min xs.length ys.length, fun k _ => match xs[k]?, ys[k]? with
  | some x, some y => some (.twk [x, y])
  | _, _ => none, fun _ => true⟩
theorem ri_zipT {K : Kx} {μ : Mp} {H : Hp} {p q : Addr} {vs ws : List V} {ds es : List D} (h : SqT K.K H p vs) (r : RDs K μ H ds vs) (h' : SqT K.K H q ws) (r' : RDs K μ H es ws) : RI K μ H (itZT ds es) (ItzT K.K p q) where
  go := fun μ1 H1 S k d n rs hk e => by
    have g1 := n.hard.sqT h
    have g2 := n.hard.sqT h'
    simp only [itZT] at e
    split at e
    · rename_i x y ex ey
      injection e with e
      subst e
      obtain ⟨v, hv, rv⟩ := r.get ex
      obtain ⟨w, hw, rw'⟩ := r'.get ey
      refine ⟨⟨vs, ws, v, w, g1, g2, hv, hw⟩, fun z H' yy => ?_⟩
      obtain ⟨T, x', y', rfl, hT, rfl, f1, f2⟩ := yy
      have e1 := f1 vs g1
      have e2 := f2 ws g2
      rw [hv] at e1; cases e1
      rw [hw] at e2; cases e2
      have nx : Nx μ1 μ1 H1 (upd H1 T (.tup [v, w])) := Nx.hardNew hT
      exact ⟨nx, rs.hardNew hT, .twk (SqT.of upd_same) (.cons ((rv.mono n).mono nx) (.cons ((rw'.mono n).mono nx) .nil))⟩
    · cases e
  stop := fun μ1 H1 S n rs _ => ⟨vs, ws, n.hard.sqT h, n.hard.sqT h', by
    have l1 := r.length
    have l2 := r'.length
    show vs.length ≤ min ds.length es.length ∨ ws.length ≤ min ds.length es.length
    omega⟩
def itZL (i j n m : Nat) : Wk := ⟨min n m, fun k S => match S[i]?, S[j]? with
  | some (.lst xs), some (.lst ys) => if xs.length = n ∧ ys.length = m then (match xs[k]?, ys[k]? with
    | some x, some y => some (.twk [x, y])
    | _, _ => none) else none
  | _, _ => none, fun S => lenL S i == some n && lenL S j == some m⟩
theorem ri_zipL {K : Kx} {μ : Mp} {H : Hp} {p q : Addr} {i j n m : Nat} (h : μ.m[i]? = some p) (h' : μ.m[j]? = some q) : RI K μ H (itZL i j n m) (Itz K.K p q) where
  go := fun μ1 H1 S k d nx rs hk e => by
    simp only [itZL] at e
    split at e
    · rename_i xs ys e1 e2
      split at e
      · obtain ⟨vs, g1, r⟩ := rs.lst (nx.at h) e1
        obtain ⟨ws, g2, r'⟩ := rs.lst (nx.at h') e2
        split at e
        · rename_i x y ex ey
          injection e with e
          subst e
          obtain ⟨v, hv, rv⟩ := r.get ex
          obtain ⟨w, hw, rw'⟩ := r'.get ey
          refine ⟨⟨vs, ws, v, w, SqL.of g1, SqL.of g2, hv, hw⟩, fun z H' yy => ?_⟩
          obtain ⟨T, x', y', rfl, hT, rfl, f1, f2⟩ := yy
          have e1 := f1 vs (SqL.of g1)
          have e2 := f2 ws (SqL.of g2)
          rw [hv] at e1; cases e1
          rw [hw] at e2; cases e2
          have n3 : Nx μ1 μ1 H1 (upd H1 T (.tup [v, w])) := Nx.hardNew hT
          exact ⟨n3, rs.hardNew hT, .twk (SqT.of upd_same) (.cons (rv.mono n3) (.cons (rw'.mono n3) .nil))⟩
        · cases e
      · cases e
    · cases e
  stop := fun μ1 H1 S nx rs e => by
    simp only [itZL, Bool.and_eq_true, beq_iff_eq] at e
    obtain ⟨xs, e1, l1⟩ := lenL_some e.1
    obtain ⟨ys, e2, l2⟩ := lenL_some e.2
    obtain ⟨vs, g1, r⟩ := rs.lst (nx.at h) e1
    obtain ⟨ws, g2, r'⟩ := rs.lst (nx.at h') e2
    refine ⟨vs, ws, SqL.of g1, SqL.of g2, ?_⟩
    have l3 := r.length
    have l4 := r'.length
    show vs.length ≤ min n m ∨ ws.length ≤ min n m
    omega
def zipI (ds : List D) (S : Sto) : Option Wk := match ds with
  | [.tup xs, .tup ys] => some (itZT xs ys)
  | [.ref i, .ref j] => match lenL S i, lenL S j with
    | some n, some m => some (itZL i j n m)
    | _, _ => none
  | _ => none
theorem si_zip {elts : List Expr} {kk : Nat} {tpos : Pos} (hg : Gl G.X "zip") (hm : G.X.mg "zip" = none) (ha : SA G [a, b] mA) (hs : starEach [a, b] G.X.env = (false, eval a G.X.env) :: starEach [b] G.X.env := by rfl)
    (hpl : (backTo pos (starEach [b] G.X.env)).any (·.1) = false := by rfl) : SI G (.Tuple elts kk tpos) (.Call (.Name "zip" p) [a, b] [] pos) (mIA zipI mA) :=
  pi_imp (pi_zipA hg hm ha hs hpl) fun σ H Rr h => tI_A h fun μ H S ds vs it rs r e k => by
    unfold zipI at e
    split at e
    · rename_i xs ys
      injection e with e
      subst e
      cases r with
      | cons r1 r2 =>
        cases r1 with
        | @tup p1 v1 _ h1 d1 =>
          cases r2 with
          | cons r1 r2 =>
            cases r2
            cases r1 with
            | @tup p2 v2 _ h2 d2 => exact ⟨p1, p2, v1, v2, rfl, .inr ⟨h1.sq, h2.sq, k _ (ri_zipT h1.sq d1 h2.sq d2)⟩⟩
    · rename_i i j
      split at e
      · rename_i n m e1 e2
        injection e with e
        subst e
        obtain ⟨xs, f1, _⟩ := lenL_some e1
        obtain ⟨ys, f2, _⟩ := lenL_some e2
        cases r with
        | cons r1 r2 =>
          cases r1 with
          | ref h1 =>
            cases r2 with
            | cons r1 r2 =>
              cases r2
              cases r1 with
              | ref h2 =>
                obtain ⟨vs, g1, _⟩ := rs.lst h1 f1
                obtain ⟨ws, g2, _⟩ := rs.lst h2 f2
                exact ⟨_, _, vs, ws, rfl, .inl ⟨SqL.of g1, SqL.of g2, k _ (ri_zipL h1 h2)⟩⟩
      · cases e
    · cases e
/-! ## comprehensions -/
def wipeE (ρ : Ev) : List Nat → Ev
  | [] => ρ
  | v :: vs => (wipeE ρ vs).set v none
theorem RE.unset {K : Kx} {μ : Mp} {H : Hp} {ρ : Ev} {σ : L2.St} (r : RE K μ H ρ σ) (i : Nat) : RE K μ H (ρ.set i none) (σ.set i none) := by
  refine ⟨by simp [r.1], fun j d q => ?_⟩
  by_cases hj : i = j
  · subst hj
    by_cases hl : i < ρ.length
    · rw [List.getElem?_set_self hl] at q; cases q
    · rw [List.getElem?_eq_none (by simpa using hl)] at q; cases q
  · rw [List.getElem?_set_ne hj] at q
    rw [List.getElem?_set_ne hj]
    exact r.2 j d q
theorem RE.wipe {K : Kx} {μ : Mp} {H : Hp} {ρ : Ev} {σ : L2.St} (r : RE K μ H ρ σ) : ∀ vs : List Nat, RE K μ H (wipeE ρ vs) (L2.wipe σ vs)
  | [] => r
  | v :: vs => (RE.wipe r vs).unset v
theorem wipe_out {σ : L2.St} {i : Nat} : ∀ {vs : List Nat}, i ∉ vs → (L2.wipe σ vs)[i]? = σ[i]?
  | [], _ => rfl
  | v :: vs, h => by
    rw [List.mem_cons, not_or] at h
    show ((L2.wipe σ vs).set v none)[i]? = _
    rw [List.getElem?_set_ne (fun z => h.1 z.symm)]
    exact wipe_out h.2
theorem wipe_in {σ : L2.St} {i : Nat} : ∀ {vs : List Nat}, i ∈ vs → (L2.wipe σ vs)[i]? = if i < σ.length then some none else none
  | v :: vs, h => by
    show ((L2.wipe σ vs).set v none)[i]? = _
    by_cases hv : v = i
    · subst hv
      split
      · rw [List.getElem?_set_self (by rw [wipe_length]; assumption)]
      · rw [List.getElem?_eq_none (by rw [List.length_set, wipe_length]; omega)]
    · rw [List.getElem?_set_ne hv]
      refine wipe_in ?_
      rcases List.mem_cons.mp h with z | z
      · exact absurd z.symm hv
      · exact z
theorem Off.wipe {ts vs : List Nat} {σ σ' : L2.St} (o : Off ts (L2.wipe σ vs) σ') (h : ∀ i ∈ ts, i ∈ vs) : L2.wipe σ' vs = L2.wipe σ vs := by
  have hl : σ'.length = σ.length := by rw [o.1, wipe_length]
  apply List.ext_getElem?
  intro i
  by_cases hi : i ∈ vs
  · rw [wipe_in hi, wipe_in hi, hl]
  · rw [wipe_out hi, o.2 i fun z => hi (h i z)]
def R.bindN {α β : Type} (r : R α) (f : α → Sto → R β) : R β := match r with
  | .ok a S => f a S
  | _ => .stuck
def lcF (it : Wk) (tg : MG) (tt : MB) (te : ME) (own : List Nat) (id : Nat) (ρ : Ev) : Nat → Sto → R Unit
  | 0, S => if it.fin S then .ok () S else .stuck
  | r + 1, S => match it.get (it.n - (r + 1)) S with
    | none => .stuck
    | some d => (tg d (wipeE ρ own) S).bindN fun ρ1 S1 => (tt ρ1 S1).bindN fun b S2 => if b then (te ρ1 S2).bindN fun y S3 => (match S3[id]? with
        | some (.lst acc) => if acc.length < sizeLine then lcF it tg tt te own id ρ r (S3.set id (.lst (acc ++ [y]))) else .stuck
        | _ => .stuck) else lcF it tg tt te own id ρ r S2
def mLc (mi : MI) (tg : MG) (tt : MB) (te : ME) (own : List Nat) : ME := fun ρ S => (mi ρ S).bind fun it S1 => (lcF it tg tt te own S1.length ρ it.n (S1 ++ [.lst []])).bindN fun _ S2 => .ok (.ref S1.length) S2
/-- within a comprehension's block -/
abbrev Gx.blk (g : Gx) : Gx := ⟨g.K, fun _ _ _ _ => False, g.pin, g.pinK⟩
abbrev Fx.blk (G : Fx) (s : Shared) (H : Hp) (scope : Scope) (cenv : Env) (fp : List Addr) : Fx := ⟨G.X.blk s H scope cenv fp, G.cl, G.cnd, fun _ _ _ _ => False, takes0, G.pin, G.pinK⟩
theorem tE_lc {mi : MI} {g : MG} {tt : MB} {te : ME} {own ts : List Nat} {σ : L2.St} {H : Hp} {Q : VK} (hts : ∀ i ∈ ts, i ∈ own) (h : tE G.g (mLc mi g tt te own) σ H Q) :
    tLc (tI G.g mi) (tG G.g.blk ts g) (tB G.g.blk tt) (tE G.g.blk te) own σ H Q := by
  obtain ⟨ρ, μ, S, at', q⟩ := h
  refine ⟨ρ, μ, S, at', po_1 (Rel := fun μ H it J => RI G.k μ H it J) at' q fun μ1 H1 S1 it J n1 a1 ri q1 => ?_⟩
  intro A hA
  have nA : Nx μ1 (μ1.add A) H1 (upd H1 A (.lst [])) := Nx.new1 hA
  have rA : RS G.k (μ1.add A) (S1 ++ [.lst []]) (upd H1 A (.lst [])) := a1.rs.new1 hA ⟨[], upd_same, .nil⟩
  have eA : (μ1.add A).m[S1.length]? = some A := by simp [← a1.rs.len]
  refine ⟨fun i m H => ∃ μ S, m = it.n - i ∧ i ≤ it.n ∧ At G.g μ H ρ σ S ∧ Nx (μ1.add A) μ (upd H1 A (.lst [])) H ∧ Po G.g (relD G.g) μ H σ Q ((lcF it g tt te own S1.length ρ (it.n - i) S).bindN fun _ S2 => .ok (.ref S1.length) S2),
    ⟨it.n, _, _, by simp, Nat.zero_le _, a1.nx nA rA, Nx.refl _ _, Po.nx nA (by simpa using q1)⟩, ?_⟩
  rintro i m H2 ⟨μ2, S2, rfl, hi, a2, n2, q2⟩
  by_cases hlt : i < it.n
  · obtain ⟨r, hr⟩ : ∃ r, it.n - i = r + 1 := ⟨it.n - i - 1, by omega⟩
    have hk : it.n - (r + 1) = i := by omega
    rw [hr] at q2
    simp only [lcF] at q2
    rw [hk] at q2
    cases e : it.get i S2 with
    | none => rw [e] at q2; exact q2.elim
    | some d =>
      rw [e] at q2
      obtain ⟨hgo, hy⟩ := ri.go μ2 H2 S2 i d (nA.trans n2) a2.rs hlt e
      refine .inr ⟨hgo, fun H' => ∃ μ S, At G.g μ H' ρ σ S ∧ Nx (μ1.add A) μ (upd H1 A (.lst [])) H' ∧ Po G.g (relD G.g) μ H' σ Q ((lcF it g tt te own S1.length ρ r S).bindN fun _ S2 => .ok (.ref S1.length) S2),
        fun H' ⟨μ', S', a', n', q'⟩ => ⟨r, by omega, μ', S', by omega, hlt, a', n', by rw [show it.n - (i + 1) = r by omega]; exact q'⟩, fun x H3 y => ?_⟩
      obtain ⟨n3, rs3, rd3⟩ := hy x H3 y
      have a3 := a2.nx n3 rs3
      refine ⟨d, wipeE ρ own, μ2, S2, ⟨a3.re.wipe own, a3.rs, a3.pin⟩, rd3, ?_⟩
      simp only at q2
      revert q2
      cases g d (wipeE ρ own) S2 with
      | stuck => exact fun q => q
      | exc c fs S3 => exact fun q => q
      | ok ρ4 S4 =>
        intro q2 μ4 H4 σ4 n4 rs4 re4 o4
        refine ⟨o4.wipe hts, ?_⟩
        have n24 : Nx μ2 μ4 H2 H4 := n3.trans n4
        have a4 : At G.g μ4 H4 ρ σ S4 := a2.nx n24 rs4
        have q4 := Po.nx n24 q2
        simp only [R.bindN] at q4
        refine ⟨ρ4, μ4, S4, ⟨re4, rs4, a4.pin⟩, ?_⟩
        revert q4
        cases tt ρ4 S4 with
        | stuck => exact fun q => q
        | exc c fs S5 => exact fun q => q.elim
        | ok b5 S5 =>
          intro q4 μ5 H5 b n5 rs5 eb
          subst eb
          have a5 : At G.g μ5 H5 ρ σ S5 := a4.nx n5 rs5
          have q5 := Po.nx n5 q4
          cases b5 with
          | false => exact ⟨μ5, S5, a5, ((n2.trans n3).trans n4).trans n5, q5⟩
          | true =>
            refine ⟨ρ4, μ5, S5, ⟨re4.mono n5, rs5, a5.pin⟩, ?_⟩
            simp only [if_true] at q5
            revert q5
            cases te ρ4 S5 with
            | stuck => exact fun q => q
            | exc c fs S6 => exact fun q => q.elim
            | ok y S6 =>
              intro q5 μ6 H6 v6 n6 rs6 rd6
              have q6 := Po.nx n6 q5
              simp only at q6
              have n26 : Nx (μ1.add A) μ6 (upd H1 A (.lst [])) H6 := (((n2.trans n3).trans n4).trans n5).trans n6
              have h6 := n26.at eA
              cases e6 : S6[S1.length]? with
              | none => simp only [e6] at q6; exact q6.elim
              | some ob =>
                cases ob with
                | ins C ns fs => simp only [e6] at q6; exact q6.elim
                | dk kvs => simp only [e6] at q6; exact q6.elim
                | dt kvs => simp only [e6] at q6; exact q6.elim
                | hid => simp only [e6] at q6; exact q6.elim
                | lst acc =>
                  simp only [e6] at q6
                  obtain ⟨ws, g6, r6⟩ := RS.lst (K := G.k) rs6 h6 e6
                  by_cases hz : acc.length < sizeLine
                  · simp only [if_pos hz] at q6
                    have n7 : Nx μ6 μ6 H6 (upd H6 A (.lst (ws ++ [v6]))) := Nx.put (List.mem_of_getElem? h6) g6 fun z => z
                    have rs7 : RS G.k μ6 (S6.set S1.length (.lst (acc ++ [y]))) (upd H6 A (.lst (ws ++ [v6]))) :=
                      RS.put (K := G.k) rs6 h6 g6 (fun z => z) ⟨_, upd_same, (r6.append (.cons rd6 .nil)).mono n7⟩
                    exact ⟨ws, g6, by rw [← r6.length]; exact hz, μ6, _, (a5.nx n6 rs6).nx n7 rs7, n26.trans n7, Po.nx n7 q6⟩
                  · simp only [if_neg hz] at q6; exact q6.elim
  · have e : i = it.n := by omega
    subst e
    simp only [Nat.sub_self, lcF] at q2
    split at q2
    · rename_i hf
      exact .inl ⟨ri.stop μ2 H2 S2 (nA.trans n2) a2.rs hf, q2 μ2 H2 _ (Nx.refl _ _) a2.rs (.ref (n2.at eA))⟩
    · exact q2.elim
def tYesM : MB := fun _ S => .ok true S
abbrev STs (G : Fx) (ifs : List Expr) (m : MB) : Prop := PTs G.X ifs (tB G.g m)
theorem sts_nil : STs G [] tYesM := ⟨fun p s σ H Q I h => by
  obtain ⟨ρ, μ, S, at', q⟩ := h
  exact pts_nil.run p s σ H Q I (q μ H true (Nx.refl _ _) at'.rs rfl)⟩
theorem sts_one {tc : MB} (h : SB G c tc) : STs G [c] tc := pts_one h
theorem se_lc {elt iter : Expr} {ifs : List Expr} {scope : Scope} {own : List (Str × Nat)} {mi : MI} {g : MG} {tt : MB} {te : ME} {ts : List Nat} (hc : G.X.calm = true) (hN : G.X.N.Nodup) (hi : SI G tg iter mi) (ok : BlkOk G.X.N G.X.env.scope scope own)
    (hg : ∀ (s : Shared) (H : Hp) (C : Addr) (cl : List (Str × Addr)) (fp : List Addr), SG (G.blk s H scope (compEnvC scope cl C G.X.env) fp) ts tg g) (ht : ∀ (s : Shared) (H : Hp) (C : Addr) (cl : List (Str × Addr)) (fp : List Addr), STs (G.blk s H scope (compEnvC scope cl C G.X.env) fp) ifs tt)
    (he : ∀ (s : Shared) (H : Hp) (C : Addr) (cl : List (Str × Addr)) (fp : List Addr), SE (G.blk s H scope (compEnvC scope cl C G.X.env) fp) elt te) (hts : ∀ i ∈ ts, i ∈ own.map (·.2)) (hs : ∀ z, foldedSetIterable iter G.X.env z = pure z := by intro _; rfl) :
    SE G (.ListComp elt [⟨tg, iter, ifs, 0⟩] scope pos) (mLc mi g tt te (own.map (·.2))) := 
  pe_imp (pe_lc hc hN hi ok hg ht he hs) fun σ H Q h => tE_lc hts h
end
end Dn

set_option Elab.async false
set_option linter.all false
set_option maxRecDepth 100000
set_option maxHeartbeats 2000000
namespace Dn
open PySem PySem.Spec PyProof.Rows L2 RZ
section
variable {G : Fx} {a b c e o : Expr} {es : List Expr} {ma mb mc : ME} {mA : ML} {pos p : Pos} {x : Str} {tg : Expr}
def rMulD (K : PySem.W.Frag) : R2 := fun x y H Q => (rI CMul fun i j => .int (i * j)) x y H Q ∨ (rRep x y H Q ∨ rRepF K x y H Q)
theorem op_mulD {X : Cx} : OpR X (binaryOp .Mult) (rMulD X.K) := op_mul.or (op_rep.or op_repF)
theorem RDs.rep {K : Kx} {μ : Mp} {H : Hp} {ds : List D} {vs : List V} (r : RDs K μ H ds vs) : ∀ n : Nat, RDs K μ H (List.replicate n ds).flatten (List.replicate n vs).flatten
  | 0 => .nil
  | n + 1 => by
    rw [List.replicate_succ, List.replicate_succ, List.flatten_cons, List.flatten_cons]
    exact r.append (RDs.rep r n)
theorem mul_ok {G : Fx} : OpS G (rMulD G.X.K) mulD := by
  intro μ H σ S x y v u Q rs r1 r2 q
  cases r1 <;> cases r2 <;> first | exact q.elim | skip
  case int.int i j =>
    simp only [mulD] at q
    split at q
    · rename_i h
      exact .inl ⟨i, j, rfl, rfl, cMul_ok i j h, q.same rs (.int _)⟩
    · exact q.elim
  case ref.int i a h1 k =>
    simp only [mulD] at q
    split at q
    · rename_i xs e1
      split at q
      · rename_i h
        obtain ⟨vs, g, d⟩ := rs.lst h1 e1
        exact .inr (.inl ⟨a, k, vs, rfl, rfl, g, h.1, h.2.1, by rw [← d.length]; exact h.2.2, fun p hp => q.newL rs hp (d.rep _)⟩)
      · exact q.elim
    · exact q.elim
  case tup.int a vs xs h1 d1 k =>
    simp only [mulD] at q
    split at q
    · rename_i h
      obtain ⟨h0, h2, h3, h4⟩ := h
      refine .inr (.inr ⟨a, k, vs, rfl, rfl, h1.sq, fun z => ?_, h2, h3, by rw [← d1.length]; exact h4, fun e => ?_, fun _ => Po.newT rs (d1.rep _) q⟩)
      · rw [d1.empty, z] at h0; cases h0
      · subst e
        have e2 : (List.replicate (1 : Int).toNat xs).flatten = xs := by simp
        rw [e2] at q
        exact Po.same rs (.tup h1 d1) q
    · exact q.elim
theorem units65 {k : Nat} {A : Around} (r : Room k A) : A.units + 65 < cLine := by have := r.un; omega
/-! ## built-ins by values -/
def lenD (ds : List D) (S : Sto) : R D := match ds with
  | [.tup xs] => .ok (.int xs.length) S
  | [.twk xs] => .ok (.int xs.length) S
  | [.rol xs] => .ok (.int xs.length) S
  | [.str y] => if y.length ≤ sizeLine then .ok (.int y.length) S else .stuck
  | [.ref i] => match lenL S i with
    | some n => .ok (.int n) S
    | none => .stuck
  | _ => .stuck
theorem len_ok : CallS G (fun xs H Q => ∃ x n, xs = [x] ∧ LenV G.X.K x H n ∧ Q (.int n) H) lenD := by
  intro μ H σ S xs vs Q rs r q
  unfold lenD at q
  split at q
  · cases r with
    | cons r1 r2 =>
      cases r2
      cases r1 with
      | tup h1 d1 => exact ⟨_, _, rfl, .inr ⟨_, h1.sq, d1.length⟩, Po.same rs (.int _) q⟩
  · cases r with
    | cons r1 r2 =>
      cases r2
      cases r1 with
      | twk h1 d1 => exact ⟨_, _, rfl, .inr ⟨_, h1, d1.length⟩, Po.same rs (.int _) q⟩
  · cases r with
    | cons r1 r2 =>
      cases r2
      cases r1 with
      | rol h1 d1 => exact ⟨_, _, rfl, .inl ⟨_, h1.sq, d1.length⟩, Po.same rs (.int _) q⟩
  · cases r with
    | cons r1 r2 =>
      cases r2
      cases r1 with
      | str y =>
        split at q
        · exact ⟨_, _, rfl, ⟨by assumption, rfl⟩, Po.same rs (.int _) q⟩
        · exact q.elim
  · rename_i i
    cases r with
    | cons r1 r2 =>
      cases r2
      cases r1 with
      | ref h1 =>
        split at q
        · rename_i n e1
          obtain ⟨ys, f, rfl⟩ := lenL_some e1
          obtain ⟨ws, g, d⟩ := rs.lst h1 f
          exact ⟨_, _, rfl, .inl ⟨ws, SqL.of g, d.length⟩, Po.same rs (.int _) q⟩
        · exact q.elim
  · exact q.elim
def intC (ds : List D) (S : Sto) : R D := match ds with
  | [.int i] => .ok (.int i) S
  | [.bl k] => .ok (.int (if k then 1 else 0)) S
  | _ => .stuck
theorem int1_ok : CallS G (fun xs H Q => (∃ i, xs = [.int i] ∧ Q (.int i) H) ∨ ∃ k, xs = [.bl k] ∧ Q (.int (if k then 1 else 0)) H) intC := by
  intro μ H σ S xs vs Q rs r q
  unfold intC at q
  split at q
  · cases r with
    | cons r1 r2 => cases r2; cases r1; exact .inl ⟨_, rfl, Po.same rs (.int _) q⟩
  · cases r with
    | cons r1 r2 => cases r2; cases r1; exact .inr ⟨_, rfl, Po.same rs (.int _) q⟩
  · exact q.elim
def strC (ds : List D) (S : Sto) : R D := match ds with
  | [.int i] => if i.natAbs.log2 < 1920 then .ok (.str (toString i)) S else .stuck
  | _ => .stuck
theorem str1_ok : CallS G (fun xs H Q => ∃ i, xs = [.int i] ∧ i.natAbs.log2 < 1920 ∧ Q (.str (toString i)) H) strC := by
  intro μ H σ S xs vs Q rs r q
  unfold strC at q
  split at q
  · split at q
    · cases r with
      | cons r1 r2 => cases r2; cases r1; exact ⟨_, rfl, by assumption, Po.same rs (.str _) q⟩
    · exact q.elim
  · exact q.elim
/-- the items of a list or a tuple -/
def seqD (S : Sto) : D → Option (List D)
  | .tup xs => some xs
  | .twk xs => some xs
  | .rol xs => some xs
  | .ref i => match S[i]? with
    | some (.lst xs) => some xs
    | _ => none
  | _ => none
theorem seq_ok {K : Kx} {μ : Mp} {S : Sto} {H : Hp} {d : D} {v : V} {xs : List D} (rs : RS K μ S H) (r : RD K μ H d v) (h : seqD S d = some xs) : ∃ q ws, v = .ref q ∧ (SqL K.K H q ws ∨ SqT K.K H q ws) ∧ RDs K μ H xs ws := by
  cases r <;> simp only [seqD] at h <;> first | (cases h; done) | skip
  case tup q ws ds h1 r1 => cases h; exact ⟨q, ws, rfl, .inr h1.sq, r1⟩
  case twk q ws ds h1 r1 => cases h; exact ⟨q, ws, rfl, .inr h1, r1⟩
  case rol q ws ds h1 r1 => cases h; exact ⟨q, ws, rfl, .inl h1.sq, r1⟩
  case ref i q h1 =>
    split at h
    · rename_i ys e1
      cases h
      obtain ⟨ws, g, d⟩ := rs.lst h1 e1
      exact ⟨q, ws, rfl, .inl (SqL.of g), d⟩
    · cases h
def lstC (ds : List D) (S : Sto) : R D := match ds with
  | [d] => match seqD S d with
    | some xs => .ok (.ref S.length) (S ++ [.lst xs])
    | none => .stuck
  | _ => .stuck
theorem list1_ok : CallS G (fun xs H Q => ∃ p ys, xs = [.ref p] ∧ (SqL G.X.K H p ys ∨ SqT G.X.K H p ys) ∧ ∀ l, H l = none → Q (.ref l) (upd H l (.lst ys))) lstC := by
  intro μ H σ S xs vs Q rs r q
  unfold lstC at q
  split at q
  · split at q
    · rename_i d ys e1
      cases r with
      | cons r1 r2 =>
        cases r2
        obtain ⟨q', ws, rfl, h1, d1⟩ := seq_ok rs r1 e1
        exact ⟨q', ws, rfl, h1, fun l hl => Po.newL rs hl d1 q⟩
    · exact q.elim
  · exact q.elim
/-- the items of a list -/
def seqL (S : Sto) : D → Option (List D)
  | .rol xs => some xs
  | .ref i => match S[i]? with
    | some (.lst xs) => some xs
    | _ => none
  | _ => none
theorem seqL_ok {K : Kx} {μ : Mp} {S : Sto} {H : Hp} {d : D} {v : V} {xs : List D} (rs : RS K μ S H) (r : RD K μ H d v) (h : seqL S d = some xs) : ∃ q ws, v = .ref q ∧ SqL K.K H q ws ∧ RDs K μ H xs ws := by
  cases r <;> simp only [seqL] at h <;> first | (cases h; done) | skip
  case rol q ws ds h1 r1 => cases h; exact ⟨q, ws, rfl, h1.sq, r1⟩
  case ref i q h1 =>
    split at h
    · rename_i ys e1
      cases h
      obtain ⟨ws, g, d⟩ := rs.lst h1 e1
      exact ⟨q, ws, rfl, SqL.of g, d⟩
    · cases h
def tupC (ds : List D) (S : Sto) : R D := match ds with
  | [.tup xs] => .ok (.tup xs) S
  | [.twk xs] => .ok (.twk xs) S
  | [d] => match seqL S d with
    | some xs => .ok (.tup xs) S
    | none => .stuck
  | _ => .stuck
theorem tuple1_ok : CallS G (fun xs H Q => ∃ p ys, xs = [.ref p] ∧ ((SqL G.X.K H p ys ∧ NewT H ys Q) ∨ (SqT G.X.K H p ys ∧ Q (.ref p) H))) tupC := by
  intro μ H σ S xs vs Q rs r q
  unfold tupC at q
  split at q
  · cases r with
    | cons r1 r2 =>
      cases r2
      cases r1 with
      | tup h1 d1 => exact ⟨_, _, rfl, .inr ⟨h1.sq, Po.same rs (.tup h1 d1) q⟩⟩
  · cases r with
    | cons r1 r2 =>
      cases r2
      cases r1 with
      | twk h1 d1 => exact ⟨_, _, rfl, .inr ⟨h1, Po.same rs (.twk h1 d1) q⟩⟩
  · split at q
    · rename_i ys e1
      cases r with
      | cons r1 r2 =>
        cases r2
        obtain ⟨q', ws, rfl, h1, d1⟩ := seqL_ok rs r1 e1
        exact ⟨q', ws, rfl, .inl ⟨h1, Po.newT rs d1 q⟩⟩
    · exact q.elim
  · exact q.elim
def boolsOf : List D → Option (List Bool) := mapO fun d => match d with
  | .bl b => some b
  | _ => none
theorem bools_ok {K : Kx} {μ : Mp} {H : Hp} : ∀ {ds : List D} {bs : List Bool} {vs : List V}, boolsOf ds = some bs → RDs K μ H ds vs → vs = bs.map V.bl
  | [], bs, vs, h, r => by cases h; cases r; rfl
  | d :: ds, bs, vs, h, r => by
    unfold boolsOf mapO at h
    cases r with
    | cons r1 r2 =>
      cases r1 <;> first | (cases h; done) | skip
      case bl b =>
        simp only [Option.map_eq_some_iff] at h
        obtain ⟨cs, e1, rfl⟩ := h
        rw [bools_ok (ds := ds) e1 r2]; rfl
def allC (ds : List D) (S : Sto) : R D := match ds with
  | [.ref i] => match S[i]? with
    | some (.lst xs) => match boolsOf xs with
      | some bs => .ok (.bl (bs.all id)) S
      | none => .stuck
    | _ => .stuck
  | _ => .stuck
theorem all_ok : CallS G (rAll G.X.K) allC := by
  intro μ H σ S xs vs Q rs r q
  unfold allC at q
  split at q
  · split at q
    · split at q
      · rename_i i _ ys e1 _ bs e2
        cases r with
        | cons r1 r2 =>
          cases r2
          cases r1 with
          | ref h1 =>
            obtain ⟨ws, g, d⟩ := rs.lst h1 e1
            have ew := bools_ok e2 d
            subst ew
            exact ⟨_, bs, rfl, SqL.of g, Po.same rs (.bl _) q⟩
      · exact q.elim
    · exact q.elim
  · exact q.elim
def max2C (ds : List D) (S : Sto) : R D := match ds with
  | [.int i, .int j] => .ok (.int (if j > i then j else i)) S
  | _ => .stuck
theorem max2_ok : CallS G (fun xs H Q => ∃ i j, xs = [.int i, .int j] ∧ Q (.int (if j > i then j else i)) H) max2C := by
  intro μ H σ S xs vs Q rs r q
  unfold max2C at q
  split at q
  · cases r with
    | cons r1 r2 =>
      cases r1
      cases r2 with
      | cons r1 r2 => cases r1; cases r2; exact ⟨_, _, rfl, Po.same rs (.int _) q⟩
  · exact q.elim
def min2C (ds : List D) (S : Sto) : R D := match ds with
  | [.int i, .int j] => .ok (.int (if j < i then j else i)) S
  | _ => .stuck
theorem min2_ok : CallS G (fun xs H Q => ∃ i j, xs = [.int i, .int j] ∧ Q (.int (if j < i then j else i)) H) min2C := by
  intro μ H σ S xs vs Q rs r q
  unfold min2C at q
  split at q
  · cases r with
    | cons r1 r2 =>
      cases r1
      cases r2 with
      | cons r1 r2 => cases r1; cases r2; exact ⟨_, _, rfl, Po.same rs (.int _) q⟩
  · exact q.elim
/-! isinstance with a built-in class -/
def tyD (S : Sto) : D → Option String
  | .non => some "NoneType"
  | .bl _ => some "bool"
  | .int _ => some "int"
  | .str _ => some "str"
  | .tup _ => some "tuple"
  | .twk _ => some "tuple"
  | .rol _ => some "list"
  | .ref i => match S[i]? with
    | some (.lst _) => some "list"
    | some (.dk _) => some "dict"
    | some (.dt _) => some "dict"
    | _ => none
  | .adr _ => none
  | .obj _ _ _ => none
  | .raw _ => none
theorem roL_ty {K : PySem.W.Frag} {μ : Mp} {H : Hp} {q : Addr} {vs : List V} (h : RoL K μ H q vs) : TyX K H (.ref q) (.type "list") := by
  rcases h with ⟨o, h⟩ | h | h
  · exact .base (.frz h)
  rotate_left
  · exact .base (.lst h.1)
  · rcases h with (h | ⟨o, h⟩) | ⟨o, its, n, hk, hc, _⟩
    · cases h
    · cases h
    · exact .kList hk hc
theorem sqT_ty {K : PySem.W.Frag} {H : Hp} {q : Addr} {vs : List V} (h : SqT K H q vs) : TyX K H (.ref q) (.type "tuple") := by
  rcases h with (h | ⟨o, h⟩) | ⟨o, its, n, hk, hc, _⟩
  · exact .base (.tup h)
  · exact .fTuple h
  · exact .kTuple hk hc
theorem ty_ok {K : Kx} {μ : Mp} {S : Sto} {H : Hp} {d : D} {v : V} {t : String} (rs : RS K μ S H) (r : RD K μ H d v) (h : tyD S d = some t) : TyX K.K H v (.type t) := by
  cases r <;> simp only [tyD] at h <;> first | (cases h; done) | skip
  case non => cases h; exact .base .non
  case bl b => cases h; exact .base (.bl b)
  case int i => cases h; exact .base (.int i)
  case str y => cases h; exact .base (.str y)
  case tup q vs ds h1 _ => cases h; exact sqT_ty h1.sq
  case twk q vs ds h1 _ => cases h; exact sqT_ty h1
  case rol q vs ds h1 _ => cases h; exact roL_ty h1
  case ref i q h1 =>
    split at h
    · rename_i ys e1
      cases h
      obtain ⟨ws, g, _⟩ := rs.lst h1 e1
      exact .base (.lst g)
    · rename_i kvs e1
      cases h
      obtain ⟨ws, g, _⟩ := rs.ob i q _ h1 e1
      exact .base (.dK g)
    · rename_i kvs e1
      cases h
      obtain ⟨ws, g, _⟩ := rs.ob i q _ h1 e1
      exact .base (.dT g)
    · cases h
/-- the answer, for the classes that programs ask of -/
def isT (t T : String) : Bool := t == T || (t == "bool" && T == "int")
def isKnown (t T : String) : Bool := ["NoneType", "bool", "int", "str", "tuple", "list", "dict"].contains t && ["int", "bool", "str", "tuple", "list", "dict"].contains T
theorem kitB_is : ∀ t ∈ ["NoneType", "bool", "int", "str", "tuple", "list", "dict"], ∀ T ∈ ["int", "bool", "str", "tuple", "list", "dict"], kitB t T = some (isT t T) := by decide +kernel
def isiD (T : String) (d : D) (S : Sto) : R D := match tyD S d with
  | some t => if isKnown t T then .ok (.bl (isT t T)) S else .stuck
  | none => .stuck
theorem se_isi {T : String} {z : Str} {p2 : Pos} (hg : Gl G.X "isinstance") (hm : G.X.mg "isinstance" = none) (hg2 : Gl G.X z) (hm2 : G.X.mg z = none) (hv2 : bootBuiltins z = some (.type T)) (ha : SE G a ma) (hn : z ≠ "__name__" := by decide) (hdb : (z == ("__debug__" : Str)) = false := by decide)
    (he : starEach [a, .Name z p2] G.X.env = (false, eval a G.X.env) :: starEach [.Name z p2] G.X.env := by rfl) (he2 : starEach [.Name z p2] G.X.env = (false, eval (.Name z p2) G.X.env) :: starEach [] G.X.env := by rfl) (hpl : (backTo pos (starEach [.Name z p2] G.X.env)).any (·.1) = false := by rfl) :
    SE G (.Call (.Name "isinstance" p) [a, .Name z p2] [] pos) (m1 (isiD T) ma) :=
  pe_imp (pe_callB call_isi hg hm (by decide +kernel) (pa_cons ha (pa_cons (pe_bltn (v := .ty T) hg2 hm2 hv2 rfl hn hdb) pa_nil he2) he) (by decide) (by decide) he hpl) fun σ H Q h => tE_1 h fun μ H S d v rs r q => by
    unfold isiD at q
    split at q
    · rename_i t e1
      split at q
      · rename_i hk
        simp only [isKnown, Bool.and_eq_true, List.contains_iff_mem] at hk
        exact ⟨v, .ty T, .type t, .type T, isT t T, rfl, .ty T, ty_ok rs r e1, kit_ty (kitB_is t hk.1 T hk.2), Po.same rs (.bl _) q⟩
      · exact q.elim
    · exact q.elim
/-! methods of built-in values -/
def tyIs (T : String) (S : Sto) : D → Bool
  | .str _ => T == "str"
  | .int _ => T == "int"
  | .rol _ => T == "list"
  | .ref i => match S[i]? with
    | some (.lst _) => T == "list"
    | some (.dk _) => T == "dict"
    | some (.dt _) => T == "dict"
    | _ => false
  | _ => false
theorem tyIs_ok {K : Kx} {μ : Mp} {S : Sto} {H : Hp} {d : D} {v : V} {T : String} (rs : RS K μ S H) (r : RD K μ H d v) (h : tyIs T S d = true) : tyV K.K T v H := by
  cases r <;> simp only [tyIs] at h <;> first | (cases h; done) | skip
  case str y => exact beq_iff_eq.mp h
  case int y => exact beq_iff_eq.mp h
  case rol q ws ds h1 r1 => exact .inl ⟨beq_iff_eq.mp h, _, h1.sq⟩
  case ref i q h1 =>
    split at h
    · rename_i ys e1
      obtain ⟨ws, g, _⟩ := rs.lst h1 e1
      exact .inl ⟨beq_iff_eq.mp h, _, SqL.of g⟩
    · rename_i kvs e1
      obtain ⟨ws, g, _⟩ := rs.ob i q _ h1 e1
      exact .inr (.inr (.inl ⟨beq_iff_eq.mp h, .inl ⟨_, g⟩⟩))
    · rename_i kvs e1
      obtain ⟨ws, g, _⟩ := rs.ob i q _ h1 e1
      exact .inr (.inr (.inl ⟨beq_iff_eq.mp h, .inr ⟨_, g⟩⟩))
    · cases h
def mMeth (T : String) (f : D → List D → Sto → R D) (mo : ME) (ml : ML) : ME := fun ρ S => (mo ρ S).bind fun o S1 => if tyIs T S1 o then (ml ρ S1).bind fun ds S2 => f o ds S2 else .stuck
def MethS (G : Fx) (r : V → List V → Hp → VK → Prop) (f : D → List D → Sto → R D) : Prop := ∀ (μ : Mp) (H : Hp) (σ : L2.St) (S : Sto) (d : D) (v : V) (xs : List D) (vs : List V) (Q : VK), RS G.k μ S H → RD G.k μ H d v → RDs G.k μ H xs vs → Po G.g (relD G.g) μ H σ Q (f d xs S) → r v vs H Q
theorem tE_bm {T : String} {f : D → List D → Sto → R D} {r : V → List V → Hp → VK → Prop} (hf : MethS G r f) {σ : L2.St} {H : Hp} {Q : VK} (h : tE G.g (mMeth T f ma mA) σ H Q) : tBM G.X.K T r (tE G.g ma) (tA G.g mA) σ H Q := by
  obtain ⟨ρ, μ, S, at', q⟩ := h
  refine ⟨ρ, μ, S, at', po_1 at' q fun μ1 H1 S1 d v _ a1 d1 q1 => ?_⟩
  split at q1
  · rename_i ht
    refine ⟨tyIs_ok a1.rs d1 ht, ρ, μ1, S1, a1, po_1 (Rel := relDs G.g) a1 q1 fun μ2 H2 S2 xs vs n a2 d2 q2 => ?_⟩
    exact hf μ2 H2 σ S2 d v xs vs Q a2.rs (d1.mono n) d2 q2
  · exact q1.elim
theorem se_bm {T : String} {name : Str} {id : String} {r : V → List V → Hp → VK → Prop} {f : D → List D → Sto → R D} {apos : Pos} (pa : PlainAttrs T) (slot : Slot T name id) (hty : typeOf (.builtin id) = pure (.type "method_descriptor")) (hm : MtR G.X id r) (hf : MethS G r f) (ho : SE G o ma) (ha : SA G (e :: es) mA)
    (hbase : attributeBase o name G.X.env (eval o G.X.env) = eval o G.X.env := by rfl)
    (hfew : ((backTo pos (starEach (e :: es) G.X.env)).all (fun x => !x.1) && (backToKw pos (keywordEach [] G.X.env)).all (fun x => x.1.isSome) && decide ((e :: es).length + ([] : List Keyword).length + (if ([] : List Keyword).isEmpty then 0 else 1) < 30)) = true := by rfl)
    (hline : (apos.endLine == pos.line) = true := by rfl) (hs : starEach (e :: es) G.X.env = (false, eval e G.X.env) :: starEach es G.X.env := by rfl) (hplain : (backTo pos (starEach es G.X.env)).any (·.1) = false := by rfl) :
    SE G (.Call (.Attribute o name apos) (e :: es) [] pos) (mMeth T f ma mA) :=
  pe_imp (pe_bm pa slot hty hm ho ha hbase hfew hline hs hplain) fun σ H Q h => tE_bm hf h
theorem put_ok {μ : Mp} {H : Hp} {σ : L2.St} {S : Sto} {Q : VK} {i : Nat} {q : Addr} {u w : HO} {ob : Ob} {d : D} {v : V} (rs : RS G.k μ S H) (hi : μ.m[i]? = some q) (hq : H q = some u) (hu : ¬ Hard u) (ho : ObR G.k μ (upd H q w) q ob) (rd : RD G.k μ (upd H q w) d v)
    (h : Po G.g (relD G.g) μ H σ Q (.ok d (S.set i ob))) : Q v (upd H q w) := h μ _ v (Nx.put (List.mem_of_getElem? hi) hq hu) (rs.put hi hq hu ho) rd
def appD (o : D) (ds : List D) (S : Sto) : R D := match o, ds with
  | .ref i, [d] => match S[i]? with
    | some (.lst xs) => if xs.length < sizeLine then .ok .non (S.set i (.lst (xs ++ [d]))) else .stuck
    | _ => .stuck
  | _, _ => .stuck
theorem app_ok : MethS G rAppend appD := by
  intro μ H σ S d v xs vs Q rs r1 r2 q
  unfold appD at q
  split at q
  · split at q
    · split at q
      · rename_i i d1 _ ys e1 hl
        cases r1 with
        | ref h1 =>
          cases r2 with
          | @cons _ v1 _ _ rd rn =>
            cases rn
            obtain ⟨ws, g, dd⟩ := rs.lst h1 e1
            have nx : Nx μ μ H (upd H _ (.lst (ws ++ [v1]))) := Nx.put (List.mem_of_getElem? h1) g fun z => z
            exact ⟨_, ws, _, rfl, rfl, g, by rw [← dd.length]; exact hl, put_ok (ob := .lst (ys ++ [d1])) rs h1 g (fun z => z) ⟨_, upd_same, (dd.append (.cons rd .nil)).mono nx⟩ .non q⟩
      · exact q.elim
    · exact q.elim
  · exact q.elim
theorem se_append {apos : Pos} (ho : SE G o ma) (ha : SA G [e] mA) (hbase : attributeBase o "append" G.X.env (eval o G.X.env) = eval o G.X.env := by rfl)
    (hfew : ((backTo pos (starEach [e] G.X.env)).all (fun x => !x.1) && (backToKw pos (keywordEach [] G.X.env)).all (fun x => x.1.isSome) && decide (([e] : List Expr).length + ([] : List Keyword).length + (if ([] : List Keyword).isEmpty then 0 else 1) < 30)) = true := by rfl)
    (hline : (apos.endLine == pos.line) = true := by rfl) (hs : starEach [e] G.X.env = (false, eval e G.X.env) :: starEach [] G.X.env := by rfl) (hplain : (backTo pos (starEach [] G.X.env)).any (·.1) = false := by rfl) :
    SE G (.Call (.Attribute o "append" apos) [e] [] pos) (mMeth "list" appD ma mA) := se_bm PySem.F.plainAttrs_list PySem.F.slot_list_append PySem.F.type_list_append mt_append app_ok ho ha hbase hfew hline hs hplain
/-! dict displays that are empty -/
def mDk : ME := fun _ S => .ok (.ref S.length) (S ++ [.dk []])
def mDt : ME := fun _ S => .ok (.ref S.length) (S ++ [.dt []])
theorem se_dk : SE G (.Dict [] [] pos) mDk := pe_imp pe_dnewK fun σ H Q h => by
  obtain ⟨ρ, μ, S, at', q⟩ := h
  intro d hd
  exact q _ _ _ (Nx.new1 hd) (at'.rs.new1 hd ⟨[], upd_same, rfl, .nil⟩) (.ref (by simp [← at'.rs.len]))
theorem se_dt : SE G (.Dict [] [] pos) mDt := pe_imp pe_dnewT fun σ H Q h => by
  obtain ⟨ρ, μ, S, at', q⟩ := h
  intro d hd
  exact q _ _ _ (Nx.new1 hd) (at'.rs.new1 hd ⟨[], upd_same, rfl, .nil⟩) (.ref (by simp [← at'.rs.len]))
end
/-! ## own defs -/
/-- what a def's mirror tells of it -/
def PoF (K : Kx) (μ : Mp) (H : Hp) (Q : VK) (E : XK) : R D → Prop
  | .ok d S => ∀ μ' H' v, Nx μ μ' H H' → RS K μ' S H' → RD K μ' H' d v → Q v H'
  | .exc c fs S => ∀ μ' H' d C, Nx μ μ' H H' → RS K μ' S H' → XD K μ' H' d fs → K.c[c]? = some C → E (.ref C) (some d) H'
  | .stuck => False
def spD (K : Kx) (f : List D → Sto → R D) (n : Nat) : Sp := fun vs H Q E => ∃ ds μ S, vs.length = n ∧ RS K μ S H ∧ RDs K μ H ds vs ∧ PoF K μ H Q E (f ds S)
def fnD (m : MS) (n : Nat) (ds : List D) (S : Sto) : R D := match m (ds.map some ++ List.replicate (n - ds.length) none) S with
  | .nx _ S1 => .ok .non S1
  | .rt d S1 => .ok d S1
  | .ex c fs _ S1 => .exc c fs S1
  | _ => .stuck
/-- a def's own state -/
abbrev fxOf (P : Program) (w : World) (K : Kx) (mg : Str → Option Value) (base : Heap) (N : List Str) (qual : Str) (scope : Scope) (f : Addr) (cd : Value) (A : Around) (outer : List Env) (s : Shared) (H : Hp) (E : XK) : Fx :=
  ⟨cxOf (L2.CX P w) P w K.K mg base N qual scope f cd A outer s H E, K.c, K.nd, fun cls d _ H => E cls d H, takes_of rfl rfl rfl rfl, fun _ _ => True, fun _ _ _ _ _ _ => trivial⟩
theorem RE.start {K : Kx} {μ : Mp} {H : Hp} {ds : List D} {vs : List V} (r : RDs K μ H ds vs) (N : List Str) : RE K μ H (ds.map some ++ List.replicate (N.length - ds.length) none) (L2.start N vs) := by
  have hl := r.length
  refine ⟨by unfold L2.start; simp [hl], fun i d e => ?_⟩
  unfold L2.start
  by_cases hi : i < ds.length
  · rw [List.getElem?_append_left (by simpa using hi), List.getElem?_map] at e
    cases q : ds[i]? with
    | none => rw [q] at e; cases e
    | some d' =>
      rw [q] at e
      simp only [Option.map_some, Option.some.injEq] at e
      subst e
      obtain ⟨v, hv, rv⟩ := r.get q
      exact ⟨v, by rw [List.getElem?_append_left (by simpa [← hl] using hi), List.getElem?_map, hv]; rfl, rv⟩
  · rw [List.getElem?_append_right (by simpa using hi), List.getElem?_replicate] at e
    split at e <;> cases e
theorem fn_ok {P : Program} {w : World} {K : Kx} {mg : Str → Option Value} {base : Heap} {x qual : Str} {st : Stmt} {f : Addr} {fd : FuncData} {N ps : List Str} {k : Nat} {m : MS} (F : Fun K.K x qual st f fd) (S : FnScope N ps (defScope st))
    (hb : ∀ (cdv : Value) (A : Around) (outer : List Env) (s : Shared) (H : Hp) (E : XK), Room k (A.deeper (envOfC qual (defScope st) s.heap.objs.size f cdv)) → SSs (fxOf P w K mg base N qual (defScope st) f cdv A outer s H E) (defBody st) m) :
    FnOk P w K.K mg base (L2.CX P w) (k + 1) f fd ps (spD K (fnD m N.length) ps.length) := by
  refine F.okX S (fun vs H Q E h => ?_) (fun cdv A outer s H vs Q E hr h => ⟨_, hb cdv A outer s H E hr, ?_⟩)
  · obtain ⟨_, _, _, h, _⟩ := h
    exact h
  · obtain ⟨ds, μ, S, _, rs, rd, q⟩ := h
    refine ⟨_, μ, S, ⟨RE.start rd N, rs, trivial⟩, ?_⟩
    unfold fnD at q
    revert q
    cases m (ds.map some ++ List.replicate (N.length - ds.length) none) S with
    | nx ρ1 S1 => exact fun q μ1 H1 σ1 n r e => q μ1 H1 .non n r .non
    | rt d S1 => exact fun q μ1 H1 v n r e => q μ1 H1 v n r e
    | ex c fs ρ1 S1 => exact fun q μ1 H1 σ1 d C n r e x hC => q μ1 H1 d C n r x hC
    | bk ρ1 S1 => exact fun q => q.elim
    | ct ρ1 S1 => exact fun q => q.elim
    | stuck => exact fun q => q.elim
section
variable {G : Fx} {e : Expr} {es : List Expr} {mA : ML} {pos p : Pos} {x : Str} {k n : Nat} {f : Addr} {fd : FuncData} {ps : List Str} {m : List D → Sto → R D}
theorem po_fn {μ : Mp} {H : Hp} {σ : L2.St} {Q : VK} : ∀ {r : R D}, Po G.g (relD G.g) μ H σ Q r → PoF G.k μ H Q (WE G.W σ) r
  | .ok _ _, h => h
  | .exc _ _ _, h => h
  | .stuck, h => h
/-- f(e, ..) of an own def -/
theorem se_call (F : FnOk G.X.prog G.X.w G.X.K G.X.mg G.X.base (L2.CX G.X.prog G.X.w) k f fd ps (spD G.k m n)) (hr : Room k G.X.A) (hg : Gl G.X x) (hm : G.X.mg x = some (.ref f)) (hk : PySem.W.keepIn G.X.K (.ref f) = true) (hb : Binds G.X.K fd ps []) (ha : SA G (e :: es) mA)
    (hl : (e :: es).length = n := by rfl) (hdb : (x == ("__debug__" : Str)) = false := by decide) (he : starEach (e :: es) G.X.env = (false, eval e G.X.env) :: starEach es G.X.env := by rfl) (hpl : (backTo pos (starEach es G.X.env)).any (·.1) = false := by rfl) :
    SE G (.Call (.Name x p) (e :: es) [] pos) (mL (fun ds S => if ds.length = n then m ds S else .stuck) mA) :=
  pe_imp (pe_callS F hr hg hm hk hb (passAt G.tk) ha hdb he hpl) fun σ H Q h => tA_1 h fun μ H S ds vs rs r q => by
    split at q
    · rename_i hn
      exact ⟨ds, μ, S, by rw [← r.length]; exact hn, rs, r, po_fn q⟩
    · exact q.elim
/-- f(k = v): every argument by its name -/
def mKw (gV : List D → List D → List D) (m : List D → Sto → R D) (n : Nat) (mA mK : ML) : ME := fun ρ S => (mA ρ S).bind fun ds S1 => (mK ρ S1).bind fun ks S2 => if (gV ds ks).length = n then m (gV ds ks) S2 else .stuck
abbrev SK (G : Fx) (kws : List Keyword) (m : ML) : Prop := PK G.X kws (tA G.g m)
theorem sk_nil : SK G [] mNil := ⟨fun pos p s σ H Q I h => by
  obtain ⟨ρ, μ, S, at', q⟩ := h
  exact pk_nil.run pos p s σ H Q I (q μ H [] (Nx.refl μ H) at'.rs .nil)⟩
theorem sk_cons {nm : Option Str} {kp : Pos} {kws : List Keyword} {ma : ME} {mr : ML} (ha : SE G e ma) (hr : SK G kws mr) : SK G (⟨nm, e, kp⟩ :: kws) (mCons ma mr) := ⟨fun pos p s σ H Q I h => (pk_cons (nm := nm) (kpos := kp) ha hr).run pos p s σ H Q I (by
  obtain ⟨ρ, μ, S, at', q⟩ := h
  refine ⟨ρ, μ, S, at', po_1 at' q fun μ1 H1 S1 x v _ a1 d1 q1 => ?_⟩
  refine ⟨ρ, μ1, S1, a1, po_1 (Rel := relDs G.g) a1 q1 fun μ2 H2 S2 xs vs n a2 d2 q2 => ?_⟩
  exact q2 μ2 H2 (v :: vs) (Nx.refl μ2 H2) a2.rs (.cons (d1.mono n) d2))⟩
/-- how keywords bind -/
structure KwB (K : Kx) (fd : FuncData) (ps ks : List Str) (g : List Value → List Value → List Value) (gV : List V → List V → List V) (gD : List D → List D → List D) : Prop where
  b : KBinds K.K fd ps ks g gV
  d : ∀ {μ : Mp} {H : Hp} {ds : List D} {vs : List V} {es : List D} {ws : List V}, RDs K μ H ds vs → RDs K μ H es ws → RDs K μ H (gD ds es) (gV vs ws)
variable {ks : List Str} {g : List Value → List Value → List Value} {gV : List V → List V → List V} {gD : List D → List D → List D} {kws : List Keyword} {mK : ML}
theorem run_fnkS {pins : List (Addr × Obj)} {σ : L2.St} {H : Hp} {s : Shared} {Q : VK} {us ws : List Value} {vs zs : List V} {sp : Sp} (F : FnOk G.X.prog G.X.w G.X.K G.X.mg G.X.base (L2.CX G.X.prog G.X.w) k f fd ps sp) (hr : Room k G.X.A) (hb : KBinds G.X.K fd ps ks g gV)
    (I : Inv G.X pins σ H s) (r : Vals vs us) (rz : Vals zs ws) (h : sp (gV vs zs) H Q (WE G.W σ)) : wpAny (model G.X.prog G.X.w) G.X.A (call (.ref f) us (ks.zip ws)) (EP G.X pins σ Q) G.X.xe s := by
  have rr := hb.rel r rz
  have hlen : (g us ws).length = ps.length := by rw [← rr.length, F.len _ _ _ _ h]
  refine wpAny_call (codeAny_mono (F.run G.X.A G.X.stack s H ⟨us, ks.zip ws⟩ (g us ws) (gV vs zs) Q (WE G.W σ) hr I.env0 (hb.to s us ws I.kIn hlen) rr h) fun res s2 hres => ?_)
  match res, hres with
  | .error z, hz => exact passAt G.tk σ pins H s z s2 I hz
  | .ok (.ret _), hz => exact I.after hz
  | .ok .next, hz => exact hz.elim
  | .ok .brk, hz => exact hz.elim
  | .ok .cont, hz => exact hz.elim
theorem se_callKw (F : FnOk G.X.prog G.X.w G.X.K G.X.mg G.X.base (L2.CX G.X.prog G.X.w) k f fd ps (spD G.k m n)) (hr : Room k G.X.A) (hg : Gl G.X x) (hm : G.X.mg x = some (.ref f)) (hk : PySem.W.keepIn G.X.K (.ref f) = true) (hb : KwB G.k fd ps ks g gV gD) (hkw : SK G kws mK)
    (hall : (backToKw pos (keywordEach kws G.X.env)).all (·.1.isSome) = true := by rfl) (hks : (backToKw pos (keywordEach kws G.X.env)).filterMap (·.1) = ks := by rfl) (hdb : (x == ("__debug__" : Str)) = false := by decide)
    (hpl : ((backTo pos (starEach [] G.X.env)).any (·.1) || (backToKw pos (keywordEach kws G.X.env)).any (·.1.isNone)) = false := by rfl) :
    SE G (.Call (.Name x p) [] kws pos) (mKw gD m n mNil mK) := ⟨fun pins s σ H Q I h => by
  obtain ⟨ρ, μ, S, at', q⟩ := h
  refine wpAny_Call_Name_kw (ld_glob I hg hm ?_ hdb)
  refine PySem.W.callWith_KW0 (h₀ := G.X.base) I.ok.mod.kin hk hall ?_ hpl
  refine thn (hkw.run pos pins s σ H _ I ⟨ρ, μ, S, at', po_1 (Rel := relDs G.g) at' q fun μ1 H1 S1 ks1 ws1 n1 a1 d1 q1 => (?_ : spD G.k m n (gV [] ws1) H1 Q (WE G.W σ))⟩) fun ws s1 ⟨zs, H1, I1, rz, q1⟩ => ⟨I1.kIn, ?_⟩
  · have q2 : Po G.g (relD G.g) μ1 H1 σ Q (if (gD [] ks1).length = n then m (gD [] ks1) S1 else .stuck) := q1
    split at q2
    · rename_i hn
      have rd := hb.d (.nil) d1
      exact ⟨gD [] ks1, μ1, S1, by rw [← rd.length]; exact hn, a1.rs, rd, po_fn q2⟩
    · exact q2.elim
  · rw [hks]
    exact run_fnkS F hr hb.b I1 .nil rz q1⟩
end
end Dn

set_option Elab.async false
set_option linter.all false
set_option maxRecDepth 100000
set_option maxHeartbeats 2000000
namespace Dn
open PySem PySem.Spec PyProof.Rows L2 RZ
/-! what stands in the written part -/
def ixA : List Addr → Addr → Option Nat
  | [], _ => none
  | b :: r, a => if b = a then some 0 else (ixA r a).map (· + 1)
theorem ixA_some : ∀ {l : List Addr} {a : Addr} {i : Nat}, ixA l a = some i → l[i]? = some a
  | [], a, i, h => by cases h
  | b :: r, a, i, h => by
    unfold ixA at h
    split at h
    · rename_i e; cases h; rw [e]; rfl
    · simp only [Option.map_eq_some_iff] at h
      obtain ⟨j, h1, rfl⟩ := h
      simpa using ixA_some h1
def kD (K : Kx) : Nat → Value → Option D
  | _, .none => some .non
  | _, .bool b => some (.bl b)
  | _, .int i _ => some (.int i)
  | _, .str x _ => some (.str x)
  | n + 1, .ref a => match ixA K.c a with
   | some i => some (.adr i)
   | none => match K.K.lookup a with
    | some o => match o.cls, o.dict, o.data with
      | .type t, none, .seq its _ => if its.size ≤ sizeLine then (if t = "tuple" then (mapO (kD K n) its.toList).map .tup else if t = "list" then (mapO (kD K n) its.toList).map .rol else none) else none
      | _, _, _ => none
    | none => none
  | _, _ => none
theorem kDs_of {K : Kx} {f : Value → Option D} (h : ∀ {v d}, f v = some d → ∃ V, RelV V v ∧ ∀ μ H, RD K μ H d V) : ∀ {us : List Value} {ds : List D}, Paired (fun x y => f x = some y) us ds → ∃ vs, Vals vs us ∧ ∀ μ H, RDs K μ H ds vs
  | _, _, .nil => ⟨[], .nil, fun _ _ => .nil⟩
  | _, _, .cons q t => by
    obtain ⟨V, r, g⟩ := h q
    obtain ⟨vs, rs, gs⟩ := kDs_of h t
    exact ⟨V :: vs, .cons r rs, fun μ H => .cons (g μ H) (gs μ H)⟩
theorem kD_ok {K : Kx} : ∀ {n : Nat} {v : Value} {d : D}, kD K n v = some d → ∃ V, RelV V v ∧ ∀ μ H, RD K μ H d V := by
  intro n
  induction n with
  | zero =>
    intro v d h
    cases v <;> simp only [kD] at h <;> first | (cases h; done) | (cases h; first | exact ⟨.non, rfl, fun _ _ => .non⟩ | exact ⟨.bl _, rfl, fun _ _ => .bl _⟩ | exact ⟨.int _, ⟨_, rfl⟩, fun _ _ => .int _⟩ | exact ⟨.str _, ⟨_, rfl⟩, fun _ _ => .str _⟩)
  | succ n ih =>
    intro v d h
    cases v <;> simp only [kD] at h <;> first | (cases h; done) | (cases h; first | exact ⟨.non, rfl, fun _ _ => .non⟩ | exact ⟨.bl _, rfl, fun _ _ => .bl _⟩ | exact ⟨.int _, ⟨_, rfl⟩, fun _ _ => .int _⟩ | exact ⟨.str _, ⟨_, rfl⟩, fun _ _ => .str _⟩) | skip
    case ref a =>
      split at h
      · rename_i i hi
        cases h
        exact ⟨.ref a, rfl, fun μ H => .adr (ixA_some hi)⟩
      split at h
      · rename_i o e1
        split at h
        · rename_i t its m h1 h2 h3
          split at h
          · rename_i hz
            split at h
            · rename_i ht
              simp only [Option.map_eq_some_iff] at h
              obtain ⟨ds, h4, rfl⟩ := h
              obtain ⟨vs, r, g⟩ := kDs_of (fun q => ih q) (mapO_some h4)
              exact ⟨.ref a, rfl, fun μ H => .tup (.inr ⟨o, its, m, e1, by rw [h1, ht], h3, hz, r, h2⟩) (g μ H)⟩
            · split at h
              · rename_i ht
                simp only [Option.map_eq_some_iff] at h
                obtain ⟨ds, h4, rfl⟩ := h
                obtain ⟨vs, r, g⟩ := kDs_of (fun q => ih q) (mapO_some h4)
                exact ⟨.ref a, rfl, fun μ H => .rol (.inr (.inl (.inr ⟨o, its, m, e1, by rw [h1, ht], h2, h3, hz, r⟩))) (g μ H)⟩
              · cases h
          · cases h
        · cases h
      · cases h
/-- a written dict whose keys are texts -/
def kTab (K : Kx) : List DictEntry → Option (List (Str × D)) := mapO fun e => match e.key with
  | .str x _ => (kD K 6 e.val).map fun d => (x, d)
  | _ => none
theorem kTab_ok {K : Kx} {z : Str} : ∀ {es : List DictEntry} {tab : List (Str × D)}, kTab K es = some tab →
    match es.find? (fun d => Value.isStrOf z d.key) with
    | some e => ∃ d V, tab.lookup z = some d ∧ RelV V e.val ∧ ∀ μ H, RD K μ H d V
    | none => tab.lookup z = none
  | [], tab, h => by cases h; rfl
  | e :: es, tab, h => by
    unfold kTab mapO at h
    split at h
    · rename_i p hp
      simp only [Option.map_eq_some_iff] at h
      obtain ⟨r, h1, rfl⟩ := h
      split at hp
      · rename_i x t ek
        simp only [Option.map_eq_some_iff] at hp
        obtain ⟨d, hd, rfl⟩ := hp
        rw [List.find?_cons, ek]
        by_cases hx : z = x
        · subst hx
          have : Value.isStrOf z (.str z t) = true := by simp [Value.isStrOf]
          rw [this]
          obtain ⟨V, r1, g⟩ := kD_ok hd
          exact ⟨d, V, by simp [List.lookup], r1, g⟩
        · have : Value.isStrOf z (.str x t) = false := by simp [Value.isStrOf]; exact fun q => hx q.symm
          rw [this]
          have ih := kTab_ok (z := z) (es := es) h1
          have e2 : ((x, d) :: r).lookup z = r.lookup z := by
            have : (z == x) = false := by simp [hx]
            simp [List.lookup, this]
          rw [e2]
          exact ih
      · cases hp
    · cases h
/-- the facts of a written dict -/
structure KTab (K : Kx) (w : World) (a : Addr) (tab : List (Str × D)) : Prop where
  ex : ∃ es n, K.K.lookup a = some ⟨.type "dict", none, .dict es n, #[]⟩ ∧ PySem.W.KeysLit w.params es.toList ∧ kTab K es.toList = some tab
  low : (a == sysModules) = false
def kgetD (tab : List (Str × D)) (d : D) (S : Sto) : R D := match d with
  | .str z => match tab.lookup z with
    | some d => .ok d S
    | none => .ok .non S
  | _ => .stuck
section
variable {G : Fx} {e : Expr} {ma : ME} {cpos apos p : Pos} {x : Str} {a : Addr} {tab : List (Str × D)}
theorem se_kget (hg : Gl G.X x) (hm : G.X.mg x = some (.ref a)) (T : KTab G.k G.X.w a tab) (ha : SE G e ma) (m : M1 G.X (.Name x p) "get" apos e cpos) (hdb : (x == ("__debug__" : Str)) = false := by decide) :
    SE G (.Call (.Attribute (.Name x p) "get" apos) [e] [] cpos) (m1 (kgetD tab) ma) := ⟨fun pins s σ H Q I h => by
  obtain ⟨es, n, hl, hk, ht⟩ := T.ex
  have mo := PySem.W.mapOf_K (prog := G.X.prog) (w := G.X.w) I.kIn hl hk
  refine wpAny_Call_method m.base m.few m.line PySem.F.plainAttrs_dict PySem.F.slot_dict_get PySem.F.type_dict_get (ld_glob I hg hm ?_ hdb)
  refine ⟨mo.typeIs, fun b q => ⟨_, by cases q; exact I.kIn a _ hl, rfl⟩, ?_⟩
  rw [m.trees]
  have h' : tE G.g ma σ H fun v H1 => ∃ z V, v = .str z ∧ RelV V ((findBy Value.isStrOf es z).getD .none) ∧ Q V H1 := tE_1 h fun μ H S d v rs r q => by
    cases r <;> first | exact q.elim | skip
    case str z =>
      have kt := kTab_ok (z := z) ht
      have ef : findBy Value.isStrOf es z = (es.toList.find? (fun d => Value.isStrOf z d.key)).map (·.val) := by
        obtain ⟨l⟩ := es
        unfold findBy
        rw [List.find?_toArray]
      simp only [kgetD] at q
      suffices key : ∃ V, RelV V ((findBy Value.isStrOf es z).getD Value.none) ∧ Q V H from let ⟨V, h1, h2⟩ := key; ⟨z, V, rfl, h1, h2⟩
      rw [ef]
      revert kt
      cases List.find? (fun d => Value.isStrOf z d.key) es.toList with
      | none =>
        intro kt
        have kt' : tab.lookup z = none := kt
        rw [kt'] at q
        exact ⟨.non, rfl, Po.same rs .non q⟩
      | some en =>
        intro kt
        obtain ⟨d, V, e1, r1, g⟩ := kt
        rw [e1] at q
        exact ⟨V, r1, Po.same rs (g μ H) q⟩
  refine wpAny_dict_get1 (knd := strKind G.X.prog G.X.w) T.low (thn (ha.run pins s σ H _ I h') fun u s1 hu => ?_)
  obtain ⟨v, H1, I1, rv, z, V, rfl, rV, q⟩ := hu
  obtain ⟨t, rfl⟩ := rv
  exact ⟨z, _, strKind_is _ _ z t, PySem.W.mapOf_K (prog := G.X.prog) (w := G.X.w) I1.kIn hl hk, V, H1, I1.tok _, rV, q⟩⟩
/-- a module's constant -/
theorem se_glob {u : Value} {d : D} {pos : Pos} (hg : Gl G.X x) (hm : G.X.mg x = some u) (hk : kD G.k 6 u = some d) (hd : (x == ("__debug__" : Str)) = false := by decide) : SE G (.Name x pos) (mC d) := by
  obtain ⟨V, r, g⟩ := kD_ok hk
  exact se_C (pe_glob hg hm r hd) fun μ H => g μ H
end
/-! how keywords bind -/
section
variable {K : Kx}
theorem Fun.kw {x qual : Str} {st : Stmt} {f : Addr} {fd : FuncData} {ps ks : List Str} {g : List Value → List Value → List Value} {gV : List V → List V → List V} {gD : List D → List D → List D} (F : Fun K.K x qual st f fd)
    (h : ∀ (kV doc pm : Value) (an : Option Addr) (cdv ct : Value) (us ws : List Value), (g us ws).length = ps.length → bindArgs (PySem.W.fnOf x qual (defArgs st) (defBody st) (defScope st) .none kV doc pm an cdv ct) ⟨us, ks.zip ws⟩ = pure (ps.zip (g us ws)))
    (hV : ∀ {vs : List V} {us : List Value} {zs : List V} {ws : List Value}, Vals vs us → Vals zs ws → Vals (gV vs zs) (g us ws))
    (hD : ∀ {μ : Mp} {H : Hp} {ds : List D} {vs : List V} {es : List D} {ws : List V}, RDs K μ H ds vs → RDs K μ H es ws → RDs K μ H (gD ds es) (gV vs ws)) : KwB K fd ps ks g gV gD := by
  obtain ⟨oc, od, kV, doc, pm, an, cdv, ct, osl, rfl, lk, hcd⟩ := F.ex
  exact ⟨⟨fun s us ws _ hl => .of_eq (h kV doc pm an cdv ct us ws hl), hV⟩, hD⟩
end
/-! the end of a law -/
theorem PoF.yes {K : Kx} {μ : Mp} {H : Hp} {E : XK} {r : R D} (h : ∃ S, r = .ok (.bl true) S) : PoF K μ H (fun v _ => v = .bl true) E r := by
  obtain ⟨S, rfl⟩ := h
  intro μ' H' v n rs rd
  cases rd
  rfl
theorem RDs.ints {K : Kx} {μ : Mp} {H : Hp} : ∀ ns : List Int, RDs K μ H (ns.map D.int) (ns.map V.int)
  | [] => .nil
  | n :: ns => .cons (.int n) (RDs.ints ns)
theorem script_rol {K : PySem.W.Frag} {μ : Mp} {H : Hp} {a : Addr} {vs : List V} (hO : Only H) (h : SqL K H a vs) : RoL K μ H a vs := by
  rcases h with (h | ⟨o, h⟩) | h
  · rcases hO a with q | ⟨o, xs, q⟩
    · rw [h] at q; cases q
    · rw [h] at q; cases q
  · exact .inl ⟨o, h⟩
  · exact .inr (.inl (.inr h))
theorem RS.nil {K : Kx} {H : Hp} : RS K ⟨[], fun _ => False⟩ [] H where
  len := rfl
  nd := List.nodup_nil
  dz := fun _ h => nomatch h
  zt := fun _ h => h.elim
  ob := fun i a o h => by simp at h
/-- the law's promise, from its mirror -/
theorem sp_law {K : Kx} {m : List D → Sto → R D} (hm : ∀ ns : List Int, ns.length ≤ 63 → ∃ S, m [.rol (ns.map D.int)] [] = .ok (.bl true) S) (H : Hp) (a : Addr) (ns : List Int) (hl : ns.length ≤ 63) (hO : Only H) (h : SqL K.K H a (ns.map V.int)) (E : XK) :
    spD K m 1 [.ref a] H (fun v _ => v = .bl true) E :=
  ⟨[.rol (ns.map D.int)], ⟨[], fun _ => False⟩, [], rfl, RS.nil, .cons (.rol (script_rol hO h) (RDs.ints ns)) .nil, PoF.yes (hm ns hl)⟩
end Dn

set_option Elab.async false
set_option linter.all false
set_option maxRecDepth 100000
set_option maxHeartbeats 2000000
namespace Dn
open PySem PySem.Spec PyProof.Rows L2 RZ
section
variable {G : Fx} {a b c e o : Expr} {es : List Expr} {ma mb mc : ME} {mA : ML} {pos p : Pos} {x y : Str} {tg : Expr}
/-- name = [.. for ..] on one line -/
theorem ss_setLc (i : Nat) {py spos : Pos} {elt iter : Expr} {ifs : List Expr} {scope : Scope} {own : List (Str × Nat)} {mi : MI} {g : MG} {tt : MB} {te : ME} {ts : List Nat} (hc : G.X.calm = true) (hN : G.X.N.Nodup) (hi : SI G tg iter mi) (ok : BlkOk G.X.N G.X.env.scope scope own)
    (hg : ∀ (s : Shared) (H : Hp) (C : Addr) (cl : List (Str × Addr)) (fp : List Addr), SG (G.blk s H scope (compEnvC scope cl C G.X.env) fp) ts tg g) (ht : ∀ (s : Shared) (H : Hp) (C : Addr) (cl : List (Str × Addr)) (fp : List Addr), STs (G.blk s H scope (compEnvC scope cl C G.X.env) fp) ifs tt)
    (he : ∀ (s : Shared) (H : Hp) (C : Addr) (cl : List (Str × Addr)) (fp : List Addr), SE (G.blk s H scope (compEnvC scope cl C G.X.env) fp) elt te) (hts : ∀ i ∈ ts, i ∈ own.map (·.2))
    (hy : G.X.N[i]? = some y := by rfl) (hyl : G.X.env.scope.names.lookup y = some .local := by rfl) (hsw : swapsWith (.ListComp elt [⟨tg, iter, ifs, 0⟩] scope pos) (some (.Name y py)) spos.line G.X.env = pure true := by exact sw_true rfl rfl rfl (by decide +kernel)) (hs : ∀ z, foldedSetIterable iter G.X.env z = pure z := by intro _; rfl) :
    SS G (.Assign [.Name y py] (.ListComp elt [⟨tg, iter, ifs, 0⟩] scope pos) spos) (sSet (mLc mi g tt te (own.map (·.2))) i) :=
  ps_imp (ps_setLc hc hN hy hyl hsw hi ok hg ht he hs) fun E σ H h => tE_lc hts (by
    obtain ⟨ρ, μ, S, at', q⟩ := h
    refine ⟨ρ, μ, S, at', po_to at' q fun μ1 H1 S1 d v n a1 d1 q1 => ?_⟩
    exact q1 μ1 H1 _ (Nx.refl μ1 H1) a1.rs (a1.re.set i d1))
/-- a, b = e1, e2 -/
def sPar (ml : ML) (i j : Nat) : MS := fun ρ S => (ml ρ S).to ρ fun ds S1 => match ds with
  | [d, e] => .nx ((ρ.set i (some d)).set j (some e)) S1
  | _ => .stuck
theorem ss_par (i j : Nat) {px py pt : Pos} {kt k2 : Nat} {pt2 : Pos} (hc : G.X.calm = true) (hN : G.X.N.Nodup) (ha : SA G [a, b] mA) (hi : G.X.N[i]? = some x := by rfl) (hj : G.X.N[j]? = some y := by rfl) (hij : i ≠ j := by decide)
    (hx : G.X.env.scope.names.lookup x = some .local := by rfl) (hy : G.X.env.scope.names.lookup y = some .local := by rfl) (hw : swappedStores [.Tuple [.Name x px, .Name y py] kt pt] (.Tuple [a, b] k2 pt2) G.X.env = pure (some [x, y]) := by rfl)
    (hs : swapsWithSole [.Tuple [.Name x px, .Name y py] kt pt] (.Tuple [a, b] k2 pt2) pos.line G.X.env = pure false := by rfl) :
    SS G (.Assign [.Tuple [.Name x px, .Name y py] kt pt] (.Tuple [a, b] k2 pt2) pos) (sPar mA i j) :=
  ps_imp (ps_par hc hN hi hj hij hx hy ha hw hs) fun E σ H h => by
    obtain ⟨ρ, μ, S, at', q⟩ := h
    refine ⟨ρ, μ, S, at', po_to (Rel := relDs G.g) at' q fun μ1 H1 S1 ds vs n a1 d1 q1 => ?_⟩
    match ds, vs, d1, q1 with
    | [d, e], [v, w], .cons r1 (.cons r2 .nil), q1 => exact ⟨v, w, rfl, q1 μ1 H1 _ (Nx.refl μ1 H1) a1.rs ((a1.re.set i r1).set j r2)⟩
    | [], _, .nil, q1 => exact q1.elim
    | [d], _, .cons r1 .nil, q1 => exact q1.elim
    | d :: e :: f :: r, _, .cons r1 (.cons r2 (.cons r3 r4)), q1 => exact q1.elim
end
end Dn
namespace Dn
open PySem PySem.Spec PyProof.Rows L2 RZ
/-! ## a def of the text, with its mirror, to be called -/
def BindsOk (x : Str) (st : Stmt) (ps : List Str) : Prop := ∀ (kV doc pm : Value) (an : Option Addr) (cdv ct : Value) (us : List Value), us.length = ps.length → bindArgs (PySem.W.fnOf x x (defArgs st) (defBody st) (defScope st) .none kV doc pm an cdv ct) ⟨us, []⟩ = pure (ps.zip us)
def KwOk (x : Str) (st : Stmt) (ps ks : List Str) (g : List Value → List Value → List Value) : Prop := ∀ (kV doc pm : Value) (an : Option Addr) (cdv ct : Value) (us ws : List Value), (g us ws).length = ps.length → bindArgs (PySem.W.fnOf x x (defArgs st) (defBody st) (defScope st) .none kV doc pm an cdv ct) ⟨us, ks.zip ws⟩ = pure (ps.zip (g us ws))
structure Cal (P : Program) (w : World) (K : Kx) (mg : Str → Option Value) (base : Heap) (x : Str) (st : Stmt) (k : Nat) (ps : List Str) (m : List D → Sto → R D) : Prop where
  ex : ∃ (a : Addr) (fd : FuncData), Fun K.K x x st a fd ∧ mg x = some (.ref a) ∧ FnOk P w K.K mg base (L2.CX P w) k a fd ps (spD K m ps.length)
section
variable {G : Fx} {e : Expr} {es : List Expr} {mA mK : ML} {pos p : Pos} {x : Str} {k j n : Nat} {st : Stmt} {ps : List Str} {m : List D → Sto → R D}
def callD (n : Nat) (m : List D → Sto → R D) (ds : List D) (S : Sto) : R D := if ds.length = n then m ds S else .stuck
theorem se_callC (C : Cal G.X.prog G.X.w G.k G.X.mg G.X.base x st k ps m) (b : BindsOk x st ps) (hr : Room j G.X.A) (hj : k ≤ j) (hg : Gl G.X x) (ha : SA G (e :: es) mA)
    (hdb : (x == ("__debug__" : Str)) = false := by decide) (he : starEach (e :: es) G.X.env = (false, eval e G.X.env) :: starEach es G.X.env := by rfl) (hpl : (backTo pos (starEach es G.X.env)).any (·.1) = false := by rfl) :
    SE G (.Call (.Name x p) (e :: es) [] pos) (mL (callD ps.length m) mA) := by
  obtain ⟨a, fd, F, hm, ok⟩ := C.ex
  refine pe_imp (pe_callS ok (hr.mono hj) hg hm F.kp (F.binds b) (passAt G.tk) ha hdb he hpl) fun σ H Q h => tA_1 h fun μ H S ds vs rs r q => ?_
  unfold callD at q
  split at q
  · rename_i hn
    exact ⟨ds, μ, S, by rw [← r.length]; exact hn, rs, r, po_fn q⟩
  · exact q.elim
theorem se_callCKw {ks : List Str} {g : List Value → List Value → List Value} {gV : List V → List V → List V} {gD : List D → List D → List D} {kws : List Keyword} (C : Cal G.X.prog G.X.w G.k G.X.mg G.X.base x st k ps m) (b : KwOk x st ps ks g)
    (hV : ∀ {vs : List V} {us : List Value} {zs : List V} {ws : List Value}, Vals vs us → Vals zs ws → Vals (gV vs zs) (g us ws)) (hD : ∀ {μ : Mp} {H : Hp} {ds : List D} {vs : List V} {es : List D} {ws : List V}, RDs G.k μ H ds vs → RDs G.k μ H es ws → RDs G.k μ H (gD ds es) (gV vs ws))
    (hr : Room j G.X.A) (hj : k ≤ j) (hg : Gl G.X x) (hkw : SK G kws mK)
    (hall : (backToKw pos (keywordEach kws G.X.env)).all (·.1.isSome) = true := by rfl) (hks : (backToKw pos (keywordEach kws G.X.env)).filterMap (·.1) = ks := by rfl) (hdb : (x == ("__debug__" : Str)) = false := by decide)
    (hpl : ((backTo pos (starEach [] G.X.env)).any (·.1) || (backToKw pos (keywordEach kws G.X.env)).any (·.1.isNone)) = false := by rfl) :
    SE G (.Call (.Name x p) [] kws pos) (mKw gD m ps.length mNil mK) := by
  obtain ⟨a, fd, F, hm, ok⟩ := C.ex
  exact se_callKw ok (hr.mono hj) hg hm F.kp (Fun.kw F b hV hD) hkw hall hks hdb hpl
end
/-- how a def stands in the written part -/
structure FunK (K : PySem.W.Frag) (x : Str) (st : Stmt) (f : Addr) : Prop where
  ns : PySem.W.nsIn K mainGlobals x = some (some (.ref f))
  ex : ∃ (oc : Value) (od : Option Addr) (kV doc pm : Value) (an : Option Addr) (cdv ct : Value) (osl : Array (Option Value)),
    K.lookup f = some ⟨oc, od, .func (PySem.W.fnOf x x (defArgs st) (defBody st) (defScope st) .none kV doc pm an cdv ct), osl⟩ ∧ PySem.W.codeIn K cdv x = true
  kp : PySem.W.keepIn K (.ref f) = true
theorem FunK.fn {K : PySem.W.Frag} {x : Str} {st : Stmt} {f : Addr} (F : FunK K x st f) : ∃ fd, Fun K x x st f fd := by
  obtain ⟨oc, od, kV, doc, pm, an, cdv, ct, osl, l, c⟩ := F.ex
  exact ⟨_, fun_mk l c F.kp⟩
theorem Cal.mk' {P : Program} {w : World} {K : Kx} {mg : Str → Option Value} {base h : Heap} {x : Str} {st : Stmt} {k : Nat} {ps : List Str} {m : List D → Sto → R D} {f : Addr} (F : FunK K.K x st f) (X : K.K.In h) (G : h.Ns mainGlobals mg)
    (ok : ∀ fd, Fun K.K x x st f fd → FnOk P w K.K mg base (L2.CX P w) k f fd ps (spD K m ps.length)) : Cal P w K mg base x st k ps m := by
  obtain ⟨fd, ff⟩ := F.fn
  exact ⟨f, fd, ff, PySem.W.mg_of X G F.ns, ok fd ff⟩
theorem cx_none {P : Program} {w : World} {H : Hp} {s : Shared} {e : Value} {s' : Shared} (h : L2.CX P w [] H s (fun _ _ _ => False) e s') : False := by
  obtain ⟨_, _, _, _, _, _, _, _, _, _, _, _, z⟩ := h
  exact z
end Dn

set_option Elab.async false
set_option linter.all false
set_option maxRecDepth 100000
set_option maxHeartbeats 2000000
namespace Dn
open PySem PySem.Spec PyProof.Rows L2 RZ
/-! ## a call in a store of its own -/
mutual
/-- what stands at a place is put in; rl: whether other lists may stand in it -/
def mapR (lk : Nat → Option D) (rl : Bool) : D → Option D
  | .non => some .non
  | .bl b => some (.bl b)
  | .int i => some (.int i)
  | .str x => some (.str x)
  | .tup xs => (mapRs lk rl xs).map .tup
  | .twk xs => (mapRs lk rl xs).map .twk
  | .rol xs => if rl then (mapRs lk rl xs).map .rol else none
  | .obj c ns ds => (mapRs lk rl ds).map (.obj c ns)
  | .ref i => lk i
  | .adr i => some (.adr i)
  | .raw _ => none
def mapRs (lk : Nat → Option D) (rl : Bool) : List D → Option (List D)
  | [] => some []
  | d :: ds => match mapR lk rl d with
    | some e => (mapRs lk rl ds).map (e :: ·)
    | none => none
end
/-- lists (and instances, where ai) of the store, but those of ex -/
def lkX (S : Sto) (ai rl : Bool) (ex : List Nat) : Nat → Nat → Option D
  | 0, _ => none
  | n + 1, i => if i ∈ ex then none else match S[i]? with
    | some (.lst xs) => (mapRs (lkX S ai rl ex n) rl xs).map .rol
    | some (.ins c ns ds) => if ai then (mapRs (lkX S ai rl ex n) rl ds).map (.obj c ns) else none
    | _ => none
section
variable {K : Kx} {μ μ0 : Mp} {H : Hp} {S : Sto} {lk : Nat → Option D} {ai rl : Bool} {ex : List Nat}
mutual
theorem mapR_gen (h1 : ∀ a C dx gs, H a = some (.ins C dx gs) → μ.Off a → μ0.Off a) (h2 : rl = true → ∀ a, μ.Off a → μ0.Off a) (h3 : ∀ i a d', μ.m[i]? = some a → lk i = some d' → RD K μ0 H d' (.ref a)) :
    ∀ {d : D} {v : V} {d' : D}, RD K μ H d v → mapR lk rl d = some d' → RD K μ0 H d' v
  | _, _, _, .non, e => by simp only [mapR] at e; cases e; exact .non
  | _, _, _, .bl b, e => by simp only [mapR] at e; cases e; exact .bl b
  | _, _, _, .int b, e => by simp only [mapR] at e; cases e; exact .int b
  | _, _, _, .str b, e => by simp only [mapR] at e; cases e; exact .str b
  | _, _, _, .tup h r, e => by
    simp only [mapR, Option.map_eq_some_iff] at e
    obtain ⟨ds, e1, rfl⟩ := e
    exact .tup h (mapRs_gen h1 h2 h3 r e1)
  | _, _, _, .twk h r, e => by
    simp only [mapR, Option.map_eq_some_iff] at e
    obtain ⟨ds, e1, rfl⟩ := e
    exact .twk h (mapRs_gen h1 h2 h3 r e1)
  | _, _, _, .rol h r, e => by
    simp only [mapR] at e
    split at e
    · rename_i hr
      simp only [Option.map_eq_some_iff] at e
      obtain ⟨ds, e1, rfl⟩ := e
      refine .rol ?_ (mapRs_gen h1 h2 h3 r e1)
      rcases h with h | h | h
      · exact .inl h
      · exact .inr (.inl h)
      · exact .inr (.inr ⟨h.1, h2 hr _ h.2⟩)
    · cases e
  | _, _, _, .obj hc h f hn hl r, e => by
    simp only [mapR, Option.map_eq_some_iff] at e
    obtain ⟨ds, e1, rfl⟩ := e
    exact .obj hc h (h1 _ _ _ _ h f) hn hl (mapRs_gen h1 h2 h3 r e1)
  | _, _, _, .ref h, e => by simp only [mapR] at e; exact h3 _ _ _ h e
  | _, _, _, .adr h, e => by simp only [mapR] at e; cases e; exact .adr h
  | _, _, _, .raw a, e => by simp only [mapR] at e; cases e
theorem mapRs_gen (h1 : ∀ a C dx gs, H a = some (.ins C dx gs) → μ.Off a → μ0.Off a) (h2 : rl = true → ∀ a, μ.Off a → μ0.Off a) (h3 : ∀ i a d', μ.m[i]? = some a → lk i = some d' → RD K μ0 H d' (.ref a)) :
    ∀ {ds : List D} {vs : List V} {ds' : List D}, RDs K μ H ds vs → mapRs lk rl ds = some ds' → RDs K μ0 H ds' vs
  | _, _, _, .nil, e => by simp only [mapRs] at e; cases e; exact .nil
  | _, _, _, .cons r t, e => by
    simp only [mapRs] at e
    split at e
    · rename_i d1 e1
      simp only [Option.map_eq_some_iff] at e
      obtain ⟨ds, e2, rfl⟩ := e
      exact .cons (mapR_gen h1 h2 h3 r e1) (mapRs_gen h1 h2 h3 t e2)
    · cases e
end
theorem lkX_ok (rs : RS K μ S H) (h1 : ∀ a C dx gs, H a = some (.ins C dx gs) → μ.Off a → μ0.Off a) (h2 : rl = true → ∀ a, μ.Off a → μ0.Off a)
    (h3 : ∀ i a, i ∉ ex → μ.m[i]? = some a → ((∃ vs, H a = some (.lst vs)) ∨ (ai = true ∧ ∃ C dx gs, H a = some (.ins C dx gs))) → μ0.Off a) :
    ∀ (n : Nat) (i : Nat) (a : Addr) (d' : D), μ.m[i]? = some a → lkX S ai rl ex n i = some d' → RD K μ0 H d' (.ref a)
  | 0, _, _, _, _, e => by cases e
  | n + 1, i, a, d', hi, e => by
    simp only [lkX] at e
    split at e
    · cases e
    rename_i hx
    split at e
    · rename_i xs e1
      simp only [Option.map_eq_some_iff] at e
      obtain ⟨ys, e2, rfl⟩ := e
      obtain ⟨vs, g, r⟩ := rs.lst hi e1
      exact .rol (.inr (.inr ⟨g, h3 i a hx hi (.inl ⟨vs, g⟩)⟩)) (mapRs_gen h1 h2 (lkX_ok rs h1 h2 h3 n) r e2)
    · rename_i c ns ds e1
      split at e
      · rename_i hai
        simp only [Option.map_eq_some_iff] at e
        obtain ⟨ys, e2, rfl⟩ := e
        obtain ⟨C, dx, vs, hc, g, hl, r⟩ := rs.ob i a _ hi e1
        exact .obj hc g (h3 i a hx hi (.inr ⟨hai, C, dx, _, g⟩)) rfl hl (mapRs_gen h1 h2 (lkX_ok rs h1 h2 h3 n) r e2)
      · cases e
    · cases e
end
/-! what is kept of an object -/
def mapO' (lk : Nat → Option D) (rl : Bool) : Ob → Option Ob
  | .lst xs => (mapRs lk rl xs).map .lst
  | .ins c ns ds => (mapRs lk rl ds).map (.ins c ns)
  | .dk kvs => (mapRs lk rl (kvs.map (·.2))).map fun ds => .dk ((kvs.map (·.1)).zip ds)
  | .dt kvs => (mapRs lk rl (kvs.map (·.2))).map fun ds => .dt ((kvs.map (·.1)).zip ds)
  | .hid => none
theorem mapRs_length {lk : Nat → Option D} {rl : Bool} : ∀ {ds ds' : List D}, mapRs lk rl ds = some ds' → ds'.length = ds.length
  | [], _, e => by simp only [mapRs] at e; cases e; rfl
  | d :: ds, _, e => by
    simp only [mapRs] at e
    split at e
    · simp only [Option.map_eq_some_iff] at e
      obtain ⟨es, e2, rfl⟩ := e
      simp [mapRs_length e2]
    · cases e
theorem zip_fst {α β : Type} : ∀ {xs : List α} {ys : List β}, xs.length = ys.length → (xs.zip ys).map (·.1) = xs ∧ (xs.zip ys).map (·.2) = ys
  | [], [], _ => ⟨rfl, rfl⟩
  | x :: xs, y :: ys, h => by
    obtain ⟨a, b⟩ := zip_fst (xs := xs) (ys := ys) (by simpa using h)
    exact ⟨by simp [a], by simp [b]⟩
theorem mapO_ok' {K : Kx} {μ μ0 : Mp} {H : Hp} {lk : Nat → Option D} {rl : Bool} {a : Addr} (h : ∀ {ds : List D} {vs : List V} {ds' : List D}, RDs K μ H ds vs → mapRs lk rl ds = some ds' → RDs K μ0 H ds' vs) :
    ∀ {o o' : Ob}, ObR K μ H a o → mapO' lk rl o = some o' → ObR K μ0 H a o'
  | .lst xs, o', r, e => by
    simp only [mapO', Option.map_eq_some_iff] at e
    obtain ⟨ys, e1, rfl⟩ := e
    obtain ⟨vs, g, r⟩ := r
    exact ⟨vs, g, h r e1⟩
  | .ins c ns ds, o', r, e => by
    simp only [mapO', Option.map_eq_some_iff] at e
    obtain ⟨ys, e1, rfl⟩ := e
    obtain ⟨C, dx, vs, hc, g, hl, r⟩ := r
    exact ⟨C, dx, vs, hc, g, hl, h r e1⟩
  | .dk kvs, o', r, e => by
    simp only [mapO', Option.map_eq_some_iff] at e
    obtain ⟨ys, e1, rfl⟩ := e
    obtain ⟨ws, g, ek, r⟩ := r
    have hz := zip_fst (xs := kvs.map (·.1)) (ys := ys) (by have := mapRs_length e1; simpa using this.symm)
    exact ⟨ws, g, by rw [hz.1]; exact ek, by rw [hz.2]; exact h r e1⟩
  | .dt kvs, o', r, e => by
    simp only [mapO', Option.map_eq_some_iff] at e
    obtain ⟨ys, e1, rfl⟩ := e
    obtain ⟨ws, g, ek, r⟩ := r
    have hz := zip_fst (xs := kvs.map (·.1)) (ys := ys) (by have := mapRs_length e1; simpa using this.symm)
    exact ⟨ws, g, by rw [hz.1]; exact ek, by rw [hz.2]; exact h r e1⟩
  | .hid, o', r, e => by simp only [mapO'] at e; cases e
end Dn

set_option Elab.async false
set_option linter.all false
set_option maxRecDepth 100000
set_option maxHeartbeats 2000000
namespace Dn
open PySem PySem.Spec PyProof.Rows L2 RZ
def refsM : List Bool → List D → List Nat
  | true :: bs, .ref i :: ds => i :: refsM bs ds
  | _ :: bs, _ :: ds => refsM bs ds
  | _, _ => []
def argsM (lk : Nat → Option D) : List Bool → List D → Nat → Option (List D)
  | true :: bs, .ref _ :: ds, p => (argsM lk bs ds (p + 1)).map (.ref p :: ·)
  | false :: bs, d :: ds, p => match mapR lk true d with
    | some d' => (argsM lk bs ds p).map (d' :: ·)
    | none => none
  | [], [], _ => some []
  | _, _, _ => none
def objM (S : Sto) (i : Nat) : Option Ob := match S[i]? with
  | some o => mapO' (fun _ => none) true o
  | none => none
def upto : Nat → List Nat
  | 0 => []
  | n + 1 => n :: upto n
theorem mem_upto {i : Nat} : ∀ {k : Nat}, i ∈ upto k ↔ i < k
  | 0 => by simp [upto]
  | k + 1 => by rw [upto, List.mem_cons, mem_upto]; omega
def exM (k : Nat) : D → List Nat
  | .ref j => j :: upto k
  | _ => upto k
def backM (lk : Nat → Option D) (S' : Sto) : List Nat → Nat → Sto → Option Sto
  | [], _, S => some S
  | i :: is, p, S => match S'[p]? with
    | some o => match mapO' lk false o with
      | some o' => backM lk S' is (p + 1) (S.set i o')
      | none => none
    | none => none
def impM (fz : Bool) (lk : Nat → Option D) (S' : Sto) (is : List Nat) (d : D) (S1 : Sto) : R D := match d with
  | .ref j => match is[j]? with
    | some i => .ok (.ref i) S1
    | none => match S'[j]? with
      | some o => match mapO' lk false o with
        | some o' => match o' with
          | .ins c ns es => if fz then .ok (.obj c ns es) S1 else .ok (.ref S1.length) (S1 ++ [.ins c ns es])
          | o' => .ok (.ref S1.length) (S1 ++ [o'])
        | none => .stuck
      | none => .stuck
  | d => match mapR lk false d with
    | some e => .ok e S1
    | none => .stuck
/-- the frame's fuel: how deep lists stand in lists -/
abbrev fuelM : Nat := 8
def endM (fz : Bool) (S : Sto) (is : List Nat) : R D → R D
  | .ok d S' => match backM (lkX S' true false (exM is.length d) fuelM) S' is 0 S with
    | some S1 => impM fz (lkX S' true false (exM is.length d) fuelM) S' is d S1
    | none => .stuck
  | .exc c fs S' => match backM (lkX S' true false (upto is.length) fuelM) S' is 0 S with
    | some S1 => match mapRs (lkX S' true false (upto is.length) fuelM) false (fs.map (·.2)) with
      | some es => .exc c ((fs.map (·.1)).zip es) S1
      | none => .stuck
    | none => .stuck
  | .stuck => .stuck
/-- a call where only what stands at the marked arguments may change, and nothing else is kept -/
def callM (fz : Bool) (mask : List Bool) (m : List D → Sto → R D) (ds : List D) (S : Sto) : R D :=
  if (refsM mask ds).Nodup then match argsM (lkX S false true (refsM mask ds) fuelM) mask ds 0, mapO (objM S) (refsM mask ds) with
    | some es, some S0 => endM fz S (refsM mask ds) (m es S0)
    | _, _ => .stuck
  else .stuck
/-- what a call tells of a promise -/
def Tri (K : Kx) (c : List D → Sto → R D) (T : Sp) : Prop := ∀ (μ : Mp) (S : Sto) (H : Hp) (ds : List D) (vs : List V) (Q : VK) (E : XK), RS K μ S H → RDs K μ H ds vs → PoF K μ H Q E (c ds S) → T vs H Q E
theorem Tri.sp {K : Kx} {m : List D → Sto → R D} {n : Nat} : Tri K (fun ds S => if ds.length = n then m ds S else .stuck) (spD K m n) := fun μ S H ds vs Q E rs rd q => by
  dsimp only at q
  split at q
  · rename_i h
    exact ⟨ds, μ, S, by rw [← rd.length]; exact h, rs, rd, q⟩
  · exact q.elim
section
variable {K : Kx} {μ : Mp} {S : Sto} {H : Hp} {is : List Nat} {S0 : Sto}
theorem mapO_get {α β : Type} {f : α → Option β} : ∀ {xs : List α} {ys : List β}, mapO f xs = some ys → ys.length = xs.length ∧ ∀ (p : Nat) (y : β), ys[p]? = some y → ∃ x, xs[p]? = some x ∧ f x = some y
  | [], ys, h => by cases h; exact ⟨rfl, fun p y e => by simp at e⟩
  | x :: xs, ys, h => by
    unfold mapO at h
    split at h
    · rename_i y e
      simp only [Option.map_eq_some_iff] at h
      obtain ⟨zs, e1, rfl⟩ := h
      obtain ⟨hl, hg⟩ := mapO_get e1
      refine ⟨by simp [hl], fun p w ew => ?_⟩
      cases p with
      | zero => simp at ew; subst ew; exact ⟨x, rfl, e⟩
      | succ p => simpa using hg p w (by simpa using ew)
    · cases h
/-- the callee's places -/
def subA (μ : Mp) (is : List Nat) : List Addr := is.map fun i => μ.m.getD i 0
def subZ (μ : Mp) (H : Hp) (is : List Nat) (a : Addr) : Prop := μ.z a ∨ (a ∈ μ.m ∧ a ∉ subA μ is ∧ ∀ vs, H a ≠ some (.lst vs))
def subM (μ : Mp) (H : Hp) (is : List Nat) : Mp := ⟨subA μ is, subZ μ H is⟩
theorem getD_some {l : List Addr} {i : Nat} (h : i < l.length) : l[i]? = some (l.getD i 0) := by simp [List.getD, List.getElem?_eq_getElem h]
theorem objs_lt (rs : RS K μ S H) (h : mapO (objM S) is = some S0) : ∀ i ∈ is, i < μ.m.length := fun i hi => by
  obtain ⟨p, hp⟩ := List.getElem?_of_mem hi
  obtain ⟨hl, hg⟩ := mapO_get h
  have hlt : p < S0.length := by rw [hl]; exact (List.getElem?_eq_some_iff.mp hp).1
  obtain ⟨x, hx, e⟩ := hg p _ (List.getElem?_eq_getElem hlt)
  rw [hp] at hx; cases hx
  unfold objM at e
  split at e
  · rename_i o eo
    rw [rs.len]; exact (List.getElem?_eq_some_iff.mp eo).1
  · cases e
theorem subA_get {p i : Nat} (h : ∀ i ∈ is, i < μ.m.length) (e : is[p]? = some i) : (subA μ is)[p]? = μ.m[i]? := by
  unfold subA
  rw [List.getElem?_map, e, getD_some (h i (List.mem_of_getElem? e))]; rfl
theorem subA_mem {a : Addr} (h : ∀ i ∈ is, i < μ.m.length) (ha : a ∈ subA μ is) : ∃ i ∈ is, μ.m[i]? = some a := by
  unfold subA at ha
  obtain ⟨i, hi, rfl⟩ := List.mem_map.mp ha
  exact ⟨i, hi, getD_some (h i hi)⟩
theorem nd_inj {l : List Addr} (nd : l.Nodup) {i j : Nat} {a : Addr} (h : l[i]? = some a) (h' : l[j]? = some a) : i = j := by
  obtain ⟨l1, e1⟩ := List.getElem?_eq_some_iff.mp h
  obtain ⟨l2, e2⟩ := List.getElem?_eq_some_iff.mp h'
  exact (List.getElem_inj nd).mp (e1.trans e2.symm)
theorem subA_nd (rs : RS K μ S H) (hd : is.Nodup) (h : ∀ i ∈ is, i < μ.m.length) : (subA μ is).Nodup := by
  unfold List.Nodup subA
  rw [List.pairwise_map]
  refine List.Pairwise.imp_of_mem (fun {a b} ha hb hne e => hne ?_) hd
  exact nd_inj rs.nd (getD_some (h a ha)) (by rw [e]; exact getD_some (h b hb))
theorem sub_off {a : Addr} (hi : ∀ i ∈ is, i < μ.m.length) (h : μ.Off a) : (subM μ H is).Off a := by
  refine ⟨fun z => ?_, fun z => ?_⟩
  · obtain ⟨i, _, e⟩ := subA_mem hi z
    exact h.1 (List.mem_of_getElem? e)
  · rcases z with z | ⟨z, _⟩
    · exact h.2 z
    · exact h.1 z
theorem sub_offL (rs : RS K μ S H) {i : Nat} {a : Addr} (hi : ∀ i ∈ is, i < μ.m.length) (hx : i ∉ is) (e : μ.m[i]? = some a) (hl : ∃ vs, H a = some (.lst vs)) : (subM μ H is).Off a := by
  refine ⟨fun z => ?_, fun z => ?_⟩
  · obtain ⟨j, hj, e2⟩ := subA_mem hi z
    rw [nd_inj rs.nd e e2] at hx
    exact hx hj
  · rcases z with z | ⟨_, _, z⟩
    · exact rs.dz a (List.mem_of_getElem? e) z
    · obtain ⟨vs, g⟩ := hl; exact z vs g
theorem sub_rs (rs : RS K μ S H) (hd : is.Nodup) (h : mapO (objM S) is = some S0) : RS K (subM μ H is) S0 H where
  len := by rw [(mapO_get h).1]; simp [subM, subA]
  nd := subA_nd rs hd (objs_lt rs h)
  dz := fun a ha z => by
    rcases z with z | ⟨_, z, _⟩
    · obtain ⟨i, _, e⟩ := subA_mem (objs_lt rs h) ha
      exact rs.dz a (List.mem_of_getElem? e) z
    · exact z ha
  zt := fun a z => by
    rcases z with z | ⟨z, _⟩
    · exact rs.zt a z
    · obtain ⟨u, g, _⟩ := rs.taken z
      exact ⟨u, g⟩
  ob := fun p a o h1 h2 => by
    obtain ⟨i, hi, e⟩ := (mapO_get h).2 p o h2
    have h1' : (subA μ is)[p]? = some a := h1
    rw [subA_get (objs_lt rs h) hi] at h1'
    unfold objM at e
    split at e
    · rename_i o1 e1
      exact mapO_ok' (mapRs_gen (fun _ _ _ _ _ f => sub_off (objs_lt rs h) f) (fun _ _ f => sub_off (objs_lt rs h) f) fun _ _ _ _ z => by cases z) (rs.ob i a o1 h1' e1) e
    · cases e
theorem args_ok (rs : RS K μ S H) (hi : ∀ i ∈ is, i < μ.m.length) : ∀ {mask : List Bool} {ds ds' : List D} {vs : List V} {p : Nat}, RDs K μ H ds vs → argsM (lkX S false true is fuelM) mask ds p = some ds' → (∀ q i, (refsM mask ds)[q]? = some i → is[p + q]? = some i) → RDs K (subM μ H is) H ds' vs
  | true :: bs, .ref i :: ds, ds', _, p, .cons (.ref hr) t, e, hp => by
    simp only [argsM, Option.map_eq_some_iff] at e
    obtain ⟨es, e1, rfl⟩ := e
    refine .cons (.ref ?_) (args_ok rs hi t e1 fun q j hq => ?_)
    · show (subA μ is)[p]? = _
      have h0 : is[p]? = some i := hp 0 i rfl
      rw [subA_get hi h0]; exact hr
    · rw [show p + 1 + q = p + (q + 1) by omega]; exact hp (q + 1) j (by simpa [refsM] using hq)
  | false :: bs, d :: ds, ds', _, p, .cons r t, e, hp => by
    simp only [argsM] at e
    split at e
    · rename_i d1 e0
      simp only [Option.map_eq_some_iff] at e
      obtain ⟨es, e1, rfl⟩ := e
      refine .cons (mapR_gen (fun _ _ _ _ _ f => sub_off hi f) (fun _ _ f => sub_off hi f) (lkX_ok rs (fun _ _ _ _ _ f => sub_off hi f) (fun _ _ f => sub_off hi f) (fun i a hx e hl => ?_) fuelM) r e0) (args_ok rs hi t e1 fun q j hq => hp q j (by simpa [refsM] using hq))
      rcases hl with hl | ⟨z, _⟩
      · exact sub_offL rs hi hx e hl
      · cases z
    · cases e
  | [], [], ds', _, p, .nil, e, hp => by simp only [argsM] at e; cases e; exact .nil
  | true :: bs, .non :: ds, _, _, _, _, e, _ => by simp only [argsM] at e; cases e
  | true :: bs, .bl _ :: ds, _, _, _, _, e, _ => by simp only [argsM] at e; cases e
  | true :: bs, .int _ :: ds, _, _, _, _, e, _ => by simp only [argsM] at e; cases e
  | true :: bs, .str _ :: ds, _, _, _, _, e, _ => by simp only [argsM] at e; cases e
  | true :: bs, .tup _ :: ds, _, _, _, _, e, _ => by simp only [argsM] at e; cases e
  | true :: bs, .twk _ :: ds, _, _, _, _, e, _ => by simp only [argsM] at e; cases e
  | true :: bs, .rol _ :: ds, _, _, _, _, e, _ => by simp only [argsM] at e; cases e
  | true :: bs, .obj _ _ _ :: ds, _, _, _, _, e, _ => by simp only [argsM] at e; cases e
  | true :: bs, .adr _ :: ds, _, _, _, _, e, _ => by simp only [argsM] at e; cases e
  | true :: bs, .raw _ :: ds, _, _, _, _, e, _ => by simp only [argsM] at e; cases e
  | true :: bs, [], _, _, _, _, e, _ => by simp only [argsM] at e; cases e
  | false :: bs, [], _, _, _, _, e, _ => by simp only [argsM] at e; cases e
  | [], d :: ds, _, _, _, _, e, _ => by simp only [argsM] at e; cases e
end
end Dn

set_option Elab.async false
set_option linter.all false
set_option maxRecDepth 100000
set_option maxHeartbeats 2000000
namespace Dn
open PySem PySem.Spec PyProof.Rows L2 RZ
def Mp.plus (μ : Mp) (e : List Addr) : Mp := ⟨μ.m ++ e, μ.z⟩
section
variable {K : Kx} {μ μ' : Mp} {S S' S0 : Sto} {H H' : Hp} {is : List Nat} {e : List Addr}
theorem obj_back (rs : RS K μ S H) (hi : ∀ i ∈ is, i < μ.m.length) (n : Nx (subM μ H is) μ' H H') {a C dx : Addr} {gs : List (Str × V)} (h : H' a = some (.ins C dx gs)) (f : μ'.Off a) : μ.Off a := by
  have hz : μ'.z = subZ μ H is := n.zz
  refine ⟨fun ha => ?_, fun ha => f.2 (by rw [hz]; exact .inl ha)⟩
  by_cases hs : a ∈ subA μ is
  · exact f.1 (n.pre.subset hs)
  · obtain ⟨u, hu, _⟩ := rs.taken ha
    have hk := n.keep a u hu hs
    rw [h] at hk
    have hz2 : subZ μ H is a := .inr ⟨ha, hs, fun vs hv => by rw [hu] at hv; cases hv; cases hk⟩
    exact f.2 (by rw [hz]; exact hz2)
theorem new_none (rs' : RS K μ' S' H') (n : Nx (subM μ H is) μ' H H') {i : Nat} {a : Addr} (hi : ¬ i < is.length) (e : μ'.m[i]? = some a) : H a = none := by
  rcases n.new a (List.mem_of_getElem? e) with h | h
  · obtain ⟨p, hp⟩ := List.getElem?_of_mem (show a ∈ subA μ is from h)
    have hl : p < is.length := by
      have := (List.getElem?_eq_some_iff.mp hp).1
      simpa [subA] using this
    have := nd_inj rs'.nd e (n.at hp)
    omega
  · exact h
theorem none_off (rs : RS K μ S H) {a : Addr} (h : H a = none) : μ.Off a := by
  refine ⟨fun ha => ?_, fun ha => ?_⟩
  · obtain ⟨u, hu, _⟩ := rs.taken ha
    rw [h] at hu; cases hu
  · obtain ⟨u, hu⟩ := rs.zt a ha
    rw [h] at hu; cases hu
/-- the caller's places behind the call: those that it had, and e -/
structure Aft (K : Kx) (μ μ' : Mp) (S S' : Sto) (H H' : Hp) (is : List Nat) (e : List Addr) (ex : List Nat) : Prop where
  rs : RS K μ S H
  hi : ∀ i ∈ is, i < μ.m.length
  n : Nx (subM μ H is) μ' H H'
  rs' : RS K μ' S' H'
  up : ∀ i, i ∉ ex → ¬ i < is.length
  en : ∀ a ∈ e, H a = none
  ei : ∀ a ∈ e, ∃ i, μ'.m[i]? = some a ∧ i ∈ ex
  ed : e.Nodup
theorem Aft.nx {ex : List Nat} (A : Aft K μ μ' S S' H H' is e ex) : Nx μ (μ.plus e) H H' where
  pre := List.prefix_append _ _
  zz := rfl
  keep := fun b o h hb => A.n.keep b o h fun z => by
    obtain ⟨i, _, q⟩ := subA_mem A.hi z
    exact hb (List.mem_of_getElem? q)
  new := fun a ha => by
    rcases List.mem_append.mp ha with h | h
    · exact .inl h
    · exact .inr (A.en a h)
  hard := A.n.hard
  dom := A.n.dom
theorem Aft.offP {ex : List Nat} (A : Aft K μ μ' S S' H H' is e ex) {a : Addr} (h : μ.Off a) (he : a ∉ e) : (μ.plus e).Off a :=
  And.intro (fun z => by
    rcases List.mem_append.mp z with z | z
    · exact h.1 z
    · exact he z) h.2
theorem Aft.map {ex : List Nat} (A : Aft K μ μ' S S' H H' is e ex) (fu : Nat) : ∀ {ds : List D} {vs : List V} {ds' : List D}, RDs K μ' H' ds vs → mapRs (lkX S' true false ex fu) false ds = some ds' → RDs K (μ.plus e) H' ds' vs := by
  have h1 : ∀ a C dx gs, H' a = some (.ins C dx gs) → μ'.Off a → (μ.plus e).Off a := fun a C dx gs h f => A.offP (obj_back A.rs A.hi A.n h f) fun z => by
    obtain ⟨i, q, _⟩ := A.ei a z
    exact f.1 (List.mem_of_getElem? q)
  intro ds vs dsq r0 r1
  refine mapRs_gen (rl := false) h1 (fun z => nomatch z) (lkX_ok (ai := true) (rl := false) A.rs' h1 (fun z => nomatch z) (fun i a hx q _ => A.offP (none_off A.rs (new_none A.rs' A.n (A.up i hx) q)) fun z => by
    obtain ⟨j, q2, hj⟩ := A.ei a z
    rw [nd_inj A.rs'.nd q q2] at hx
    exact hx hj) fu) r0 r1
theorem Aft.map1 {ex : List Nat} (A : Aft K μ μ' S S' H H' is e ex) (fu : Nat) {d : D} {v : V} {d' : D} (r : RD K μ' H' d v) (h : mapR (lkX S' true false ex fu) false d = some d') : RD K (μ.plus e) H' d' v := by
  have h2 : mapRs (lkX S' true false ex fu) false [d] = some [d'] := by simp only [mapRs, h]; rfl
  cases A.map fu (.cons r .nil) h2 with
  | cons h t => exact h
theorem Aft.back {ex : List Nat} (A : Aft K μ μ' S S' H H' is e ex) (fu : Nat) : ∀ (isr : List Nat) (p : Nat) (S1 S2 : Sto), (∀ q i, isr[q]? = some i → ∃ a, μ.m[i]? = some a ∧ μ'.m[p + q]? = some a) → S1.length = S.length →
    (∀ (i : Nat) (a : Addr) (o : Ob), i ∉ isr → μ.m[i]? = some a → S1[i]? = some o → ObR K (μ.plus e) H' a o) → backM (lkX S' true false ex fu) S' isr p S1 = some S2 → S2.length = S.length ∧ ∀ (i : Nat) (a : Addr) (o : Ob), μ.m[i]? = some a → S2[i]? = some o → ObR K (μ.plus e) H' a o
  | [], p, S1, S2, hp, hl, h, q => by
    simp only [backM] at q; cases q
    exact ⟨hl, fun i a o => h i a o (by simp)⟩
  | j :: isr, p, S1, S2, hp, hl, h, q => by
    simp only [backM] at q
    split at q
    · rename_i o eo
      split at q
      · rename_i o' eo'
        refine A.back fu isr (p + 1) _ S2 (fun r i hr => ?_) (by simp [hl]) (fun i a u hx ha hu => ?_) q
        · rw [show p + 1 + r = p + (r + 1) by omega]; exact hp (r + 1) i (by simpa using hr)
        · by_cases hj : j = i
          · subst hj
            obtain ⟨b, hb1, hb2⟩ := hp 0 j rfl
            rw [ha] at hb1; cases hb1
            rw [List.getElem?_set_self (by rw [hl, ← A.rs.len]; exact (List.getElem?_eq_some_iff.mp ha).1)] at hu
            cases hu
            exact mapO_ok' (A.map fu) (A.rs'.ob p a o (by simpa using hb2) eo) eo'
          · rw [List.getElem?_set_ne hj] at hu
            exact h i a u (by simp; exact ⟨fun z => hj z.symm, hx⟩) ha hu
      · cases q
    · cases q
theorem Aft.rsB {ex : List Nat} {S1 es : Sto} (A : Aft K μ μ' S S' H H' is e ex) (fu : Nat) (q : backM (lkX S' true false ex fu) S' is 0 S = some S1) (hes : e.length = es.length) (heo : ∀ (p : Nat) (a : Addr) (o : Ob), e[p]? = some a → es[p]? = some o → ObR K (μ.plus e) H' a o) : RS K (μ.plus e) (S1 ++ es) H' := by
  obtain ⟨hl, hb⟩ := A.back fu is 0 S S1 (fun r i hr => by
    have h1 := subA_get (μ := μ) A.hi hr
    have h2 := getD_some (A.hi i (List.mem_of_getElem? hr))
    refine ⟨_, h2, ?_⟩
    rw [Nat.zero_add]
    exact A.n.at (h1.trans h2)) rfl (fun i a o hx ha ho => (A.rs.ob i a o ha ho).mono A.nx fun u hu => A.n.keep a u hu fun z => by
      obtain ⟨j, hj, q⟩ := subA_mem A.hi z
      rw [nd_inj A.rs.nd ha q] at hx
      exact hx hj) q
  have hk : ∀ a u, H a = some u → a ∉ μ.m → H' a = some u := fun a u h z => A.nx.keep a u h z
  refine ⟨by show (μ.m ++ e).length = _; simp [A.rs.len, hl, hes], ?_, fun a ha z => ?_, fun a z => ?_, fun i a o h1 h2 => ?_⟩
  · refine List.nodup_append.mpr ⟨A.rs.nd, A.ed, fun a ha b hb2 q => ?_⟩
    subst q
    obtain ⟨u, hu, _⟩ := A.rs.taken ha
    rw [A.en a hb2] at hu; cases hu
  · rcases List.mem_append.mp ha with h | h
    · exact A.rs.dz a h z
    · obtain ⟨u, hu⟩ := A.rs.zt a z
      rw [A.en a h] at hu; cases hu
  · obtain ⟨u, hu⟩ := A.rs.zt a z
    exact ⟨u, hk a u hu fun h => A.rs.dz a h z⟩
  · have h1' : (μ.m ++ e)[i]? = some a := h1
    by_cases hlt : i < μ.m.length
    · rw [List.getElem?_append_left hlt] at h1'
      rw [List.getElem?_append_left (by rw [hl, ← A.rs.len]; exact hlt)] at h2
      exact hb i a o h1' h2
    · rw [List.getElem?_append_right (Nat.le_of_not_lt hlt)] at h1'
      rw [List.getElem?_append_right (by rw [hl, ← A.rs.len]; exact Nat.le_of_not_lt hlt)] at h2
      rw [hl, ← A.rs.len] at h2
      exact heo _ a o h1' h2
end
end Dn

set_option Elab.async false
set_option linter.all false
set_option maxRecDepth 100000
set_option maxHeartbeats 2000000
namespace Dn
open PySem PySem.Spec PyProof.Rows L2 RZ
section
variable {K : Kx} {μ μ' : Mp} {S S' S0 : Sto} {H H' : Hp} {is : List Nat} {e : List Addr}
theorem aft0 (rs : RS K μ S H) (hi : ∀ i ∈ is, i < μ.m.length) (n : Nx (subM μ H is) μ' H H') (rs' : RS K μ' S' H') {ex : List Nat} (up : ∀ i, i ∉ ex → ¬ i < is.length) : Aft K μ μ' S S' H H' is [] ex :=
  ⟨rs, hi, n, rs', up, fun a h => by simp at h, fun a h => by simp at h, List.nodup_nil⟩
theorem not_upto {i k : Nat} (h : i ∉ upto k) : ¬ i < k := fun z => h (mem_upto.mpr z)
theorem not_exM {i k : Nat} {d : D} (h : i ∉ exM k d) : ¬ i < k := by
  cases d <;> first | exact not_upto h | skip
  case ref j => exact not_upto fun z => h (List.mem_cons_of_mem _ z)
theorem Tri.callM {m : List D → Sto → R D} {T : Sp} {fz : Bool} {mask : List Bool} (hT : Tri K m T) : Tri K (callM fz mask m) T := by
  intro μ S H ds vs Q E rs rd q
  unfold Dn.callM at q
  split at q
  rotate_left
  · exact q.elim
  rename_i hnd
  split at q
  rotate_left
  · exact q.elim
  rename_i es S0 hes hS0
  have hi := objs_lt rs hS0
  refine hT (subM μ H (refsM mask ds)) S0 H es vs Q E (sub_rs rs hnd hS0) (args_ok rs hi rd hes fun r i hr => by rw [Nat.zero_add]; exact hr) ?_
  generalize hk : refsM mask ds = is at *
  revert q
  cases hr : m es S0 with
  | stuck => exact fun q => q
  | exc c fs S' =>
    intro q μ' H' d C n rs' xd hC
    simp only [endM] at q
    split at q
    rotate_left
    · exact q.elim
    rename_i S1 hS1
    split at q
    rotate_left
    · exact q.elim
    rename_i fs' hfs
    have A := aft0 rs hi n rs' (ex := upto is.length) fun i h => not_upto h
    refine q (μ.plus []) H' d C A.nx (by simpa using A.rsB fuelM hS1 (es := []) rfl fun p a o h => by simp at h) ?_ hC
    obtain ⟨vs, h1, h2, h3⟩ := xd.ex
    have hz := zip_fst (xs := fs.map (·.1)) (ys := fs') (by have := mapRs_length hfs; simpa using this.symm)
    exact ⟨vs, h1, by rw [hz.1]; exact h2, by rw [hz.2]; exact A.map fuelM h3 hfs⟩
  | ok d S' =>
    intro q μ' H' v n rs' rd'
    simp only [endM] at q
    split at q
    rotate_left
    · exact q.elim
    rename_i S1 hS1
    have A := aft0 rs hi n rs' (ex := exM is.length d) fun i h => not_exM h
    have R0 : RS K (μ.plus []) S1 H' := by simpa using A.rsB fuelM hS1 (es := []) rfl fun p a o h => by simp at h
    unfold impM at q
    split at q
    · rename_i j
      cases rd' with
      | @ref _ a ha =>
        split at q
        · rename_i i hj
          refine q (μ.plus []) H' _ A.nx R0 (.ref ?_)
          have h1 := subA_get (μ := μ) hi hj
          have h2 := getD_some (hi i (List.mem_of_getElem? hj))
          have h3 := n.at (show (subM μ H is).m[j]? = _ from h1.trans h2)
          rw [ha] at h3; cases h3
          show (μ.m ++ [])[i]? = _
          rw [List.append_nil]; exact h2
        · rename_i hj
          have hge : ¬ j < is.length := fun z => by rw [List.getElem?_eq_getElem z] at hj; cases hj
          have hn := new_none rs' n hge ha
          split at q
          rotate_left
          · exact q.elim
          rename_i o ho
          split at q
          rotate_left
          · exact q.elim
          rename_i o' ho'
          have fin : PoF K μ H Q E (.ok (.ref S1.length) (S1 ++ [o'])) → Q (.ref a) H' := fun q => by
            have A2 : Aft K μ μ' S S' H H' is [a] (exM is.length (.ref j)) :=
              ⟨rs, hi, n, rs', fun i h => not_exM h, fun b hb => by rw [List.mem_singleton.mp hb]; exact hn, fun b hb => by rw [List.mem_singleton.mp hb]; exact ⟨j, ha, by simp [exM]⟩, by simp⟩
            have R1 := A2.rsB fuelM hS1 (es := [o']) rfl fun p b u h1 h2 => by
              cases p with
              | zero =>
                simp at h1 h2
                subst h1 h2
                exact mapO_ok' (A2.map fuelM) (rs'.ob j a o ha ho) ho'
              | succ p => simp at h1
            refine q (μ.plus [a]) H' _ A2.nx R1 (.ref ?_)
            have hl := R1.len
            simp [Mp.plus] at hl
            show (μ.m ++ [a])[S1.length]? = _
            rw [← hl]; simp
          split at q
          · rename_i c ns cs
            split at q
            · obtain ⟨C, dx, ws, hc, g, hl, r⟩ := mapO_ok' (A.map fuelM) (rs'.ob j a o ha ho) ho'
              exact q (μ.plus []) H' _ A.nx R0 (.obj hc g (A.offP (none_off rs hn) (by simp)) rfl hl r)
            · exact fin q
          · exact fin q
    · split at q
      rotate_left
      · exact q.elim
      rename_i e2 he2
      exact q (μ.plus []) H' _ A.nx R0 (A.map1 fuelM rd' he2)
end
theorem Po.mono {α β : Type} {G : Gx} {Rel : Mp → Hp → α → β → Prop} {μ : Mp} {H : Hp} {σ : L2.St} {Q Q' : β → Hp → Prop} (i : ∀ b H', Q b H' → Q' b H') : ∀ {r : R α}, Po G Rel μ H σ Q r → Po G Rel μ H σ Q' r
  | .ok _ _, h => fun μ' H' b n r q => i _ _ (h μ' H' b n r q)
  | .exc _ _ _, h => h
  | .stuck, h => h
end Dn

set_option Elab.async false
set_option linter.all false
set_option maxRecDepth 100000
set_option maxHeartbeats 2000000
namespace Dn
open PySem PySem.Spec PyProof.Rows L2
/-! methods of texts -/
section
variable {G : Fx} {o e : Expr} {es : List Expr} {mo : ME} {mA : ML} {apos pos : Pos}
def strsD : List D → Option (List Str)
  | [] => some []
  | .str x :: r => (strsD r).map (x :: ·)
  | _ => none
theorem strsD_map (xs : List Str) : strsD (xs.map D.str) = some xs := by
  induction xs with
  | nil => rfl
  | cons x xs ih => simp [strsD, ih]
theorem strsD_of : ∀ {ds : List D} {xs : List Str}, strsD ds = some xs → ds = xs.map D.str
  | [], _, h => by cases h; rfl
  | .str x :: r, xs, h => by
    unfold strsD at h
    cases e : strsD r with
    | none => rw [e] at h; cases h
    | some ys => rw [e] at h; cases h; rw [strsD_of e]; rfl
  | .non :: _, _, h | .bl _ :: _, _, h | .int _ :: _, _, h | .tup _ :: _, _, h | .twk _ :: _, _, h | .rol _ :: _, _, h | .ref _ :: _, _, h | .adr _ :: _, _, h => by cases h
theorem rds_strs {K : Kx} {μ : Mp} {H : Hp} : ∀ (xs : List Str), RDs K μ H (xs.map D.str) (xs.map V.str)
  | [] => .nil
  | x :: xs => .cons (.str x) (rds_strs xs)
theorem rds_strs_inv {K : Kx} {μ : Mp} {H : Hp} : ∀ {xs : List Str} {vs : List V}, RDs K μ H (xs.map D.str) vs → vs = xs.map V.str
  | [], _, .nil => rfl
  | x :: xs, _, .cons (.str _) r => by rw [rds_strs_inv r]; rfl
def splitD (o : D) (ds : List D) (S : Sto) : R D := match o, ds with
  | .str a, [.str b] => if (b.length == 0) = false ∧ a.length + 2 ≤ sizeLine then .ok (.ref S.length) (S ++ [.lst ((Txt.split a b).map D.str)]) else .stuck
  | _, _ => .stuck
theorem split_ok : MethS G (fun x xs H Q => ∃ a b, x = .str a ∧ xs = [.str b] ∧ (b.length == 0) = false ∧ a.length + 2 ≤ sizeLine ∧ rNewStrs (Txt.split a b) H Q) splitD := by
  intro μ H σ S d v xs vs Q rs r1 r2 q
  unfold splitD at q
  split at q
  · split at q
    · rename_i a b h
      cases r1
      cases r2 with
      | cons rb rn =>
        cases rb
        cases rn
        refine ⟨a, b, rfl, rfl, h.1, h.2, fun p hp => ?_⟩
        exact q _ _ _ (Nx.new1 hp) (rs.new1 hp ⟨_, upd_same, rds_strs _⟩) (.ref (by simp [← rs.len]))
    · exact q.elim
  · exact q.elim
def joinD (o : D) (ds : List D) (S : Sto) : R D := match o, ds with
  | .str a, [.ref i] => match S[i]? with
    | some (.lst xs) => match strsD xs with
      | some ys => if (ys.map (·.length)).sum + ys.length * a.length ≤ 16777216 then .ok (.str (Txt.join a ys)) S else .stuck
      | none => .stuck
    | _ => .stuck
  | _, _ => .stuck
theorem join_ok : MethS G (fun x xs H Q => ∃ a p, ∃ ys : List Str, x = .str a ∧ xs = [.ref p] ∧ (SqL G.X.K H p (ys.map V.str) ∨ SqT G.X.K H p (ys.map V.str)) ∧ (ys.map (·.length)).sum + ys.length * a.length ≤ 16777216 ∧ Q (.str (Txt.join a ys)) H) joinD := by
  intro μ H σ S d v xs vs Q rs r1 r2 q
  unfold joinD at q
  split at q
  · split at q
    · split at q
      · split at q
        · rename_i a i _ zs e1 _ ys e2 hl
          cases r1
          cases r2 with
          | cons rb rn =>
            cases rb with
            | ref h1 =>
              cases rn
              obtain ⟨ws, g, dd⟩ := rs.lst h1 e1
              rw [strsD_of e2] at dd
              have := rds_strs_inv dd
              subst this
              exact ⟨a, _, ys, rfl, rfl, .inl (SqL.of g), hl, q μ H _ (Nx.refl μ H) rs (.str _)⟩
        · exact q.elim
      · exact q.elim
    · exact q.elim
  · exact q.elim
def startsD (o : D) (ds : List D) (S : Sto) : R D := match o, ds with
  | .str a, [.str b] => .ok (.bl (Txt.startswith a b)) S
  | _, _ => .stuck
theorem starts_ok : MethS G (fun x xs H Q => ∃ a b, x = .str a ∧ xs = [.str b] ∧ Q (.bl (Txt.startswith a b)) H) startsD := by
  intro μ H σ S d v xs vs Q rs r1 r2 q
  unfold startsD at q
  split at q
  · cases r1
    cases r2 with
    | cons rb rn =>
      cases rb
      cases rn
      exact ⟨_, _, rfl, rfl, q μ H _ (Nx.refl μ H) rs (.bl _)⟩
  · exact q.elim
theorem se_split (ho : SE G o mo) (ha : SA G [e] mA) (hbase : attributeBase o "split" G.X.env (eval o G.X.env) = eval o G.X.env := by rfl)
    (hfew : ((backTo pos (starEach [e] G.X.env)).all (fun x => !x.1) && (backToKw pos (keywordEach [] G.X.env)).all (fun x => x.1.isSome) && decide (([e] : List Expr).length + ([] : List Keyword).length + (if ([] : List Keyword).isEmpty then 0 else 1) < 30)) = true := by rfl)
    (hline : (apos.endLine == pos.line) = true := by rfl) (hs : starEach [e] G.X.env = (false, eval e G.X.env) :: starEach [] G.X.env := by rfl) (hplain : (backTo pos (starEach [] G.X.env)).any (·.1) = false := by rfl) :
    SE G (.Call (.Attribute o "split" apos) [e] [] pos) (mMeth "str" splitD mo mA) := se_bm PySem.F.plainAttrs_str PySem.F.slot_str_split PySem.F.type_str_split mt_split split_ok ho ha hbase hfew hline hs hplain
theorem se_join (ho : SE G o mo) (ha : SA G [e] mA) (hbase : attributeBase o "join" G.X.env (eval o G.X.env) = eval o G.X.env := by rfl)
    (hfew : ((backTo pos (starEach [e] G.X.env)).all (fun x => !x.1) && (backToKw pos (keywordEach [] G.X.env)).all (fun x => x.1.isSome) && decide (([e] : List Expr).length + ([] : List Keyword).length + (if ([] : List Keyword).isEmpty then 0 else 1) < 30)) = true := by rfl)
    (hline : (apos.endLine == pos.line) = true := by rfl) (hs : starEach [e] G.X.env = (false, eval e G.X.env) :: starEach [] G.X.env := by rfl) (hplain : (backTo pos (starEach [] G.X.env)).any (·.1) = false := by rfl) :
    SE G (.Call (.Attribute o "join" apos) [e] [] pos) (mMeth "str" joinD mo mA) := se_bm PySem.F.plainAttrs_str PySem.F.slot_str_join PySem.F.type_str_join mt_join join_ok ho ha hbase hfew hline hs hplain
theorem se_starts (ho : SE G o mo) (ha : SA G [e] mA) (hbase : attributeBase o "startswith" G.X.env (eval o G.X.env) = eval o G.X.env := by rfl)
    (hfew : ((backTo pos (starEach [e] G.X.env)).all (fun x => !x.1) && (backToKw pos (keywordEach [] G.X.env)).all (fun x => x.1.isSome) && decide (([e] : List Expr).length + ([] : List Keyword).length + (if ([] : List Keyword).isEmpty then 0 else 1) < 30)) = true := by rfl)
    (hline : (apos.endLine == pos.line) = true := by rfl) (hs : starEach [e] G.X.env = (false, eval e G.X.env) :: starEach [] G.X.env := by rfl) (hplain : (backTo pos (starEach [] G.X.env)).any (·.1) = false := by rfl) :
    SE G (.Call (.Attribute o "startswith" apos) [e] [] pos) (mMeth "str" startsD mo mA) := se_bm PySem.F.plainAttrs_str PySem.F.slot_str_startswith PySem.F.type_str_startswith mt_startswith starts_ok ho ha hbase hfew hline hs hplain
def mM0 (f : Str → Sto → R D) (mo : ME) : ME := fun ρ S => (mo ρ S).bind fun x S1 => match x with
  | .str a => f a S1
  | _ => .stuck
theorem se_m0b {name : Str} {id : String} {g : Str → Bool} (slot : Slot "str" name id) (hty : typeOf (.builtin id) = pure (.type "method_descriptor")) (hm : MtR G.X id (fun x xs H Q => ∃ a, x = .str a ∧ xs = [] ∧ True ∧ Q (.bl (g a)) H)) (ho : SE G o mo)
    (hbase : attributeBase o name G.X.env (eval o G.X.env) = eval o G.X.env := by rfl) (hline : (apos.endLine == pos.line) = true := by rfl) :
    SE G (.Call (.Attribute o name apos) [] [] pos) (mM0 (fun a S => .ok (.bl (g a)) S) mo) :=
  pe_imp (pe_m0 slot hty hm ho hbase hline) fun σ H Q h => by
    obtain ⟨ρ, μ, S, at', q⟩ := h
    refine ⟨ρ, μ, S, at', po_1 at' q fun μ1 H1 S1 d v n a1 d1 q1 => ?_⟩
    split at q1
    · cases d1
      exact ⟨⟨_, rfl⟩, _, rfl, rfl, trivial, q1 μ1 H1 _ (Nx.refl μ1 H1) a1.rs (.bl _)⟩
    · exact q1.elim
end
end Dn

set_option Elab.async false
set_option linter.all false
set_option maxRecDepth 100000
set_option maxHeartbeats 2000000
namespace Dn
open PySem PySem.Spec PyProof.Rows L2
/-! dicts of the store, their keys ints and texts -/
def keyD : D → Option Key
  | .int i => some (.inl i)
  | .str x => some (.inr x)
  | _ => none
theorem keyD_ok {K : Kx} {μ : Mp} {H : Hp} {d : D} {v : V} {k : Key} (h : keyD d = some k) (r : RD K μ H d v) : v = kV k := by
  cases r <;> first | cases h; rfl | cases h
def valD (kvs : List (Key × D)) (k : Key) : Option D := (kvs.find? fun kv => decide (kv.1 = k)).map (·.2)
def putKD (kvs : List (Key × D)) (k : Key) (d : D) : List (Key × D) :=
  if (kvs.any fun kv => decide (kv.1 = k)) = true then kvs.map (fun kv => if kv.1 = k then (kv.1, d) else kv) else kvs ++ [(k, d)]
section
variable {K : Kx} {μ : Mp} {H : Hp}
theorem val_some {k : Key} {d : D} : ∀ {kvs : List (Key × D)} {ws : List (Key × V)}, ws.map (·.1) = kvs.map (·.1) → RDs K μ H (kvs.map (·.2)) (ws.map (·.2)) → valD kvs k = some d → ∃ v, valV ws k = some v ∧ RD K μ H d v
  | [], [], _, _, h => by cases h
  | (x, y) :: kvs, (z, u) :: ws, e, r, h => by
    simp only [List.map_cons, List.cons.injEq] at e
    obtain ⟨rfl, e⟩ := e
    cases r with
    | cons r0 r1 =>
      by_cases c : z = k
      · subst c
        have : valD ((z, y) :: kvs) z = some y := by simp [valD, List.find?_cons]
        rw [this] at h
        cases h
        exact ⟨u, valV_pos rfl, r0⟩
      · have : valD ((z, y) :: kvs) k = valD kvs k := by simp [valD, List.find?_cons, c]
        rw [this] at h
        rw [valV_neg c]
        exact val_some e r1 h
  | [], _ :: _, e, _, _ => by simp at e
  | _ :: _, [], e, _, _ => by simp at e
theorem val_none {k : Key} : ∀ {kvs : List (Key × D)} {ws : List (Key × V)}, ws.map (·.1) = kvs.map (·.1) → valD kvs k = none → valV ws k = none
  | [], [], _, _ => rfl
  | (x, y) :: kvs, (z, u) :: ws, e, h => by
    simp only [List.map_cons, List.cons.injEq] at e
    obtain ⟨rfl, e⟩ := e
    by_cases c : z = k
    · subst c
      have : valD ((z, y) :: kvs) z = some y := by simp [valD, List.find?_cons]
      rw [this] at h
      cases h
    · have : valD ((z, y) :: kvs) k = valD kvs k := by simp [valD, List.find?_cons, c]
      rw [this] at h
      rw [valV_neg c]
      exact val_none e h
  | [], _ :: _, e, _ => by simp at e
  | _ :: _, [], e, _ => by simp at e
theorem any_keys {k : Key} : ∀ {kvs : List (Key × D)} {ws : List (Key × V)}, ws.map (·.1) = kvs.map (·.1) → (ws.any fun kv => decide (kv.1 = k)) = (kvs.any fun kv => decide (kv.1 = k))
  | [], [], _ => rfl
  | (x, y) :: kvs, (z, u) :: ws, e => by
    simp only [List.map_cons, List.cons.injEq] at e
    obtain ⟨rfl, e⟩ := e
    simp only [List.any_cons, any_keys e]
  | [], _ :: _, e => by simp at e
  | _ :: _, [], e => by simp at e
theorem put_map {k : Key} {d : D} {v : V} (rv : RD K μ H d v) : ∀ {kvs : List (Key × D)} {ws : List (Key × V)}, ws.map (·.1) = kvs.map (·.1) → RDs K μ H (kvs.map (·.2)) (ws.map (·.2)) →
    (ws.map (fun kv => if kv.1 = k then (kv.1, v) else kv)).map (·.1) = (kvs.map (fun kv => if kv.1 = k then (kv.1, d) else kv)).map (·.1) ∧
      RDs K μ H ((kvs.map (fun kv => if kv.1 = k then (kv.1, d) else kv)).map (·.2)) ((ws.map (fun kv => if kv.1 = k then (kv.1, v) else kv)).map (·.2))
  | [], [], _, _ => ⟨rfl, .nil⟩
  | (x, y) :: kvs, (z, u) :: ws, e, r => by
    simp only [List.map_cons, List.cons.injEq] at e
    obtain ⟨rfl, e⟩ := e
    cases r with
    | cons r0 r1 =>
      obtain ⟨h1, h2⟩ := put_map rv e r1
      by_cases c : z = k
      · simp only [List.map_cons, if_pos c]
        exact ⟨by rw [h1], .cons rv h2⟩
      · simp only [List.map_cons, if_neg c]
        exact ⟨by rw [h1], .cons r0 h2⟩
  | [], _ :: _, e, _ => by simp at e
  | _ :: _, [], e, _ => by simp at e
theorem put_rel {k : Key} {d : D} {v : V} {kvs : List (Key × D)} {ws : List (Key × V)} (rv : RD K μ H d v) (e : ws.map (·.1) = kvs.map (·.1)) (r : RDs K μ H (kvs.map (·.2)) (ws.map (·.2))) :
    (putK ws k v).map (·.1) = (putKD kvs k d).map (·.1) ∧ RDs K μ H ((putKD kvs k d).map (·.2)) ((putK ws k v).map (·.2)) := by
  unfold putK putKD
  rw [any_keys e]
  by_cases c : (kvs.any fun kv => decide (kv.1 = k)) = true
  · rw [if_pos c, if_pos c]
    exact put_map rv e r
  · rw [if_neg c, if_neg c]
    simp only [List.map_append, List.map_cons, List.map_nil]
    exact ⟨by rw [e], r.append (.cons rv .nil)⟩
end
/-- d[k] -/
def dgetD (o y : D) (S : Sto) : R D := match o with
  | .ref i => match S[i]? with
    | some (.dk kvs) => match keyD y with
      | some k => match valD kvs k with
        | some d => .ok d S
        | none => .stuck
      | none => .stuck
    | _ => .stuck
  | _ => .stuck
section
variable {G : Fx} {o i value : Expr} {mo mi mv : ME} {pos pos' : Pos}
theorem dget_ok {μ : Mp} {H : Hp} {σ : L2.St} {S : Sto} {x y : D} {v u : V} {Q : VK} (rs : RS G.k μ S H) (r1 : RD G.k μ H x v) (r2 : RD G.k μ H y u) (q : Po G.g (relD G.g) μ H σ Q (dgetD x y S)) : ∃ a w, v = .ref a ∧ DGet H a u (some w) ∧ Q w H := by
  unfold dgetD at q
  split at q
  · split at q
    · split at q
      · split at q
        · rename_i j _ kvs e1 _ k e2 _ d e3
          cases r1 with
          | @ref _ a h1 =>
            obtain ⟨ws, g, e4, e5⟩ := rs.ob j _ _ h1 e1
            obtain ⟨w, e6, rw_⟩ := val_some e4 e5 e3
            have e7 := keyD_ok e2 r2
            exact ⟨_, w, rfl, .inl ⟨ws, k, .inl g, e7, e6.symm⟩, q μ H w (Nx.refl μ H) rs rw_⟩
        · exact q.elim
      · exact q.elim
    · exact q.elim
  · exact q.elim
theorem se_dget (hu : G.X.A.units + 1 < cLine) (ho : SE G o mo) (hi : SE G i mi) (hs : NoSl i) : SE G (.Subscript o i pos) (m2 dgetD mo mi) :=
  pe_imp (pe_dget hu ho hi hs) fun σ H Q h => tE_2 h fun μ H S x y v u r1 d1 d2 q => dget_ok r1 d1 d2 q
/-- d[k] = e -/
def dputD (o y : D) (S : Sto) (d : D) : Option Sto := match o with
  | .ref i => match S[i]? with
    | some (.dk kvs) => match keyD y with
      | some k => if kvs.length < sizeLine then some (S.set i (.dk (putKD kvs k d))) else none
      | none => none
    | _ => none
  | _ => none
def sDPutD (mo mi mv : ME) : MS := fun ρ S => (mv ρ S).to ρ fun d S1 => (mo ρ S1).to ρ fun o S2 => (mi ρ S2).to ρ fun y S3 => match dputD o y S3 d with
  | some S4 => .nx ρ S4
  | none => .stuck
theorem po_s {α β : Type} {Rel : Mp → Hp → α → β → Prop} {μ : Mp} {H : Hp} {σ : L2.St} {ρ : Ev} {S : Sto} {E : Ends} {Rr : β → Hp → Prop} {f : α → Sto → F} {r : R α} (at' : At G.g μ H ρ σ S)
    (q : PoS G.g μ H E (r.to ρ f)) (k : ∀ (μ' : Mp) (H' : Hp) (S : Sto) (x : α) (v : β), Nx μ μ' H H' → At G.g μ' H' ρ σ S → Rel μ' H' x v → PoS G.g μ' H' E (f x S) → Rr v H') : Po G.g Rel μ H σ Rr r :=
  Po.mono (fun b H1 h1 => by
    obtain ⟨a, μ1, S1, n1, r1, d1, q1⟩ := h1
    exact k μ1 H1 S1 a b n1 (at'.nx n1 r1) d1 q1) (Po.to (Rel := Rel) at'.re q)
theorem ss_dput (hu : G.X.A.units + 1 < cLine) (ho : SE G o mo) (hi : SE G i mi) (hv : SE G value mv) (hs : swapsWith value (some (.Subscript o i pos')) pos.line G.X.env = pure false := by rfl) :
    SS G (.Assign [.Subscript o i pos'] value pos) (sDPutD mo mi mv) :=
  ps_imp (ps_dput hu ho hi hv hs) fun D σ H h => by
    obtain ⟨ρ, μ, S, at', q⟩ := h
    refine ⟨ρ, μ, S, at', po_s (Rel := relD G.g) at' q fun μ1 H1 S1 d v n1 a1 d1 q1 => ?_⟩
    refine ⟨ρ, μ1, S1, a1, po_s (Rel := relD G.g) a1 q1 fun μ2 H2 S2 x u n2 a2 d2 q2 => ?_⟩
    refine ⟨ρ, μ2, S2, a2, po_s (Rel := relD G.g) a2 q2 fun μ3 H3 S3 y w n3 a3 d3 q3 => ?_⟩
    have rx := d2.mono n3
    have rv := (d1.mono n2).mono n3
    split at q3
    · rename_i S4 e0
      unfold dputD at e0
      split at e0
      · split at e0
        · split at e0
          · split at e0
            · rename_i j _ kvs e1 _ k e2 hl
              cases e0
              cases rx with
              | @ref _ a h1 =>
                obtain ⟨ws, g, e4, e5⟩ := a3.rs.ob j _ _ h1 e1
                have e7 := keyD_ok e2 d3
                obtain ⟨p1, p2⟩ := put_rel (k := k) rv e4 e5
                have nx : Nx μ3 μ3 H3 (upd H3 a (.dK (putK ws k v))) := Nx.put (List.mem_of_getElem? h1) g fun z => z
                have hlw : ws.length < sizeLine := by
                  have : ws.length = kvs.length := by simpa using congrArg List.length e4
                  rw [this]; exact hl
                exact ⟨a, _, rfl, .inl ⟨ws, k, g, e7, hlw, rfl⟩, q3 μ3 _ σ nx (a3.rs.put h1 g (fun z => z) ⟨_, upd_same, p1, p2.mono nx⟩) (a3.re.mono nx)⟩
            · cases e0
          · cases e0
        · cases e0
      · cases e0
    · exact q3.elim
end
end Dn

set_option Elab.async false
set_option linter.all false
set_option maxRecDepth 100000
set_option maxHeartbeats 2000000
namespace Dn
open PySem PySem.Spec PyProof.Rows L2 RZ
/-! more that is walked: the signs of a text, enumerate; *e among arguments -/
section
variable {G : Fx} {e tg : Expr} {es : List Expr} {ma : ME} {mA : ML} {pos p : Pos}
def itS (x : Str) : Wk := ⟨x.cps.size, fun k _ => (x.cps[k]?).map fun c => .str ⟨#[c]⟩, fun _ => true⟩
theorem ri_str {K : Kx} {μ : Mp} {H : Hp} {x : Str} : RI K μ H (itS x) (Its x) where
  go := fun μ1 H1 S k d n rs hk e => by
    have hk' : k < x.cps.size := hk
    have e1 : x.cps[k]? = some x.cps[k] := Array.getElem?_eq_getElem hk'
    simp only [itS, e1, Option.map_some] at e
    cases e
    refine ⟨hk', fun v H' y => ?_⟩
    obtain ⟨rfl, c, h1, rfl⟩ := y
    rw [e1] at h1
    cases h1
    exact ⟨Nx.refl _ _, rs, .str _⟩
  stop := fun μ1 H1 S n rs _ => Nat.le_refl _
/-- a sequence or a text -/
def walkX (S : Sto) (d : D) : Option Wk := match d with
  | .str x => some (itS x)
  | _ => walkD S d
def mIx (ma : ME) : MI := fun ρ S => (ma ρ S).bind fun d S1 => match walkX S1 d with
  | some it => .ok it S1
  | none => .stuck
theorem pi_or {X : Cx} {t1 t2 : TI} (h1 : PI X tg e t1) (h2 : PI X tg e t2) : PI X tg e (fun σ H R => t1 σ H R ∨ t2 σ H R) := ⟨fun pp st ss HH RR J hq => hq.elim (h1.run pp st ss HH RR J) (h2.run pp st ss HH RR J)⟩
theorem si_any (ha : SE G e ma) : SI G tg e (mIx ma) := pi_imp (pi_or (si_seq (tg := tg) ha) (pi_str ha)) fun σ H Rr h => by
  obtain ⟨ρ, μ, S, at', q⟩ := h
  cases hm : ma ρ S with
  | stuck => simp only [mIx, hm] at q; exact q.elim
  | exc c fs S1 => exact .inl ⟨ρ, μ, S, at', by simp only [mIx, hm] at q; simp only [mI, hm]; exact q⟩
  | ok d S1 =>
    by_cases hs : ∃ x, d = .str x
    · obtain ⟨x, rfl⟩ := hs
      refine .inr ⟨ρ, μ, S, at', ?_⟩
      simp only [mIx, hm, R.bind, walkX] at q
      rw [hm]
      intro μ1 H1 v n1 r1 d1
      cases d1
      exact ⟨x, rfl, q μ1 H1 _ n1 r1 ri_str⟩
    · refine .inl ⟨ρ, μ, S, at', ?_⟩
      have e1 : walkX S1 d = walkD S1 d := by
        cases d <;> first | rfl | exact absurd ⟨_, rfl⟩ hs
      simp only [mIx, hm, R.bind, e1] at q
      simp only [mI, hm, R.bind]
      exact q
def seqX (S : Sto) (d : D) : Option (List D) := match d with
  | .tup xs => some xs
  | .twk xs => some xs
  | .rol xs => some xs
  | .ref i => match S[i]? with
    | some (.lst xs) => some xs
    | _ => none
  | _ => none
theorem seqX_ok {K : Kx} {μ : Mp} {H : Hp} {S : Sto} {d : D} {v : V} {xs : List D} (rs : RS K μ S H) (r : RD K μ H d v) (h : seqX S d = some xs) : ∃ p vs, v = .ref p ∧ (SqT K.K H p vs ∨ SqL K.K H p vs) ∧ RDs K μ H xs vs := by
  unfold seqX at h
  split at h
  · cases h
    cases r with
    | tup h1 r1 => exact ⟨_, _, rfl, .inl h1.sq, r1⟩
  · cases h
    cases r with
    | twk h1 r1 => exact ⟨_, _, rfl, .inl h1, r1⟩
  · cases h
    cases r with
    | rol h1 r1 => exact ⟨_, _, rfl, .inr h1.sq, r1⟩
  · split at h
    · rename_i i _ ys e1
      cases h
      cases r with
      | ref h1 =>
        obtain ⟨vs, g, r2⟩ := rs.lst h1 e1
        exact ⟨_, vs, rfl, .inr (SqL.of g), r2⟩
    · cases h
  · cases h
def mStar (ma : ME) (mA : ML) : ML := fun ρ S => (ma ρ S).bind fun d S1 => match seqX S1 d with
  | some xs => (mA ρ S1).bind fun ys S2 => .ok (xs ++ ys) S2
  | none => .stuck
theorem sa_star (he : SE G e ma) (hr : SA G es mA) (hs : starEach (.Starred e p :: es) G.X.env = (true, eval e G.X.env) :: starEach es G.X.env := by rfl) : SA G (.Starred e p :: es) (mStar ma mA) :=
  pa_imp (StX.pa_star he hr hs) fun σ H Q h => by
    obtain ⟨ρ, μ, S, at', q⟩ := h
    refine ⟨ρ, μ, S, at', po_1 (Rel' := relDs G.g) at' q fun μ1 H1 S1 d v n1 a1 d1 q1 => ?_⟩
    split at q1
    · rename_i xs e1
      obtain ⟨p, vs, rfl, h1, r1⟩ := seqX_ok a1.rs d1 e1
      refine ⟨p, vs, rfl, h1, ρ, μ1, S1, a1, po_1 (Rel := relDs G.g) (Rel' := relDs G.g) a1 q1 fun μ2 H2 S2 ys ws n2 a2 d2 q2 => ?_⟩
      exact q2 μ2 H2 _ (Nx.refl _ _) a2.rs ((r1.mono n2).append d2)
    · exact q1.elim
end
end Dn

set_option Elab.async false
set_option linter.all false
set_option maxRecDepth 100000
set_option maxHeartbeats 2000000
namespace Dn
open PySem PySem.Spec PyProof.Rows L2 RZ
/-! isinstance with two built-in classes -/
section
variable {G : Fx} {a : Expr} {ma : ME} {pos p tpos : Pos} {kk : Nat}
def isi2D (T1 T2 : String) (d : D) (S : Sto) : R D := match tyD S d with
  | some t => if isKnown t T1 ∧ isKnown t T2 then .ok (.bl (isT t T1 || isT t T2)) S else .stuck
  | none => .stuck
theorem se_isi2 {T1 T2 : String} {z1 z2 : Str} {p1 p2 : Pos} (hg : Gl G.X "isinstance") (hm : G.X.mg "isinstance" = none) (hg1 : Gl G.X z1) (hm1 : G.X.mg z1 = none) (hv1 : bootBuiltins z1 = some (.type T1)) (hg2 : Gl G.X z2) (hm2 : G.X.mg z2 = none) (hv2 : bootBuiltins z2 = some (.type T2)) (ha : SE G a ma)
    (hn1 : z1 ≠ "__name__" := by decide) (hdb1 : (z1 == ("__debug__" : Str)) = false := by decide) (hn2 : z2 ≠ "__name__" := by decide) (hdb2 : (z2 == ("__debug__" : Str)) = false := by decide)
    (he : starEach [a, .Tuple [.Name z1 p1, .Name z2 p2] kk tpos] G.X.env = (false, eval a G.X.env) :: starEach [.Tuple [.Name z1 p1, .Name z2 p2] kk tpos] G.X.env := by rfl)
    (he2 : starEach [.Tuple [.Name z1 p1, .Name z2 p2] kk tpos] G.X.env = (false, eval (.Tuple [.Name z1 p1, .Name z2 p2] kk tpos) G.X.env) :: starEach [] G.X.env := by rfl)
    (he3 : starEach [.Name z1 p1, .Name z2 p2] G.X.env = (false, eval (.Name z1 p1) G.X.env) :: starEach [.Name z2 p2] G.X.env := by rfl)
    (he4 : starEach [.Name z2 p2] G.X.env = (false, eval (.Name z2 p2) G.X.env) :: starEach [] G.X.env := by rfl)
    (hpl : (backTo pos (starEach [.Tuple [.Name z1 p1, .Name z2 p2] kk tpos] G.X.env)).any (·.1) = false := by rfl) :
    SE G (.Call (.Name "isinstance" p) [a, .Tuple [.Name z1 p1, .Name z2 p2] kk tpos] [] pos) (m1 (isi2D T1 T2) ma) :=
  pe_imp (pe_callB call_isiT hg hm (by decide +kernel) (pa_cons ha (pa_cons (pe_tup (pa_cons (pe_bltn (v := .ty T1) hg1 hm1 hv1 rfl hn1 hdb1) (pa_cons (pe_bltn (v := .ty T2) hg2 hm2 hv2 rfl hn2 hdb2) pa_nil he4) he3)) pa_nil he2) he) (by decide) (by decide) he hpl) fun σ H Q h => tE_1 h fun μ H S d v rs r q => by
    unfold isi2D at q
    split at q
    · rename_i t e1
      split at q
      · rename_i hk
        obtain ⟨h1, h2⟩ := hk
        simp only [isKnown, Bool.and_eq_true, List.contains_iff_mem] at h1 h2
        refine ⟨by rw [sizeLine_eq]; exact (by decide : 2 ≤ 16777216), fun pt hp => ?_⟩
        have nx : Nx μ μ H (upd H pt (.tup [.ty T1, .ty T2])) := Nx.hardNew hp
        have k1 : PySem.W.kitOne G.X.K (.type t) (.type T1) = some (isT t T1) := kit_ty (kitB_is t h1.1 T1 h1.2)
        have k2 : PySem.W.kitOne G.X.K (.type t) (.type T2) = some (isT t T2) := kit_ty (kitB_is t h2.1 T2 h2.2)
        refine ⟨v, pt, [.ty T1, .ty T2], .type t, [.type T1, .type T2], isT t T1 || isT t T2, rfl, upd_same, .cons (.ty T1) (.cons (.ty T2) .nil), ty_ok (rs.hardNew hp) (r.mono nx) e1, ?_, q μ _ _ nx (rs.hardNew hp) (.bl _)⟩
        unfold PySem.W.kitAny
        rw [k1]
        cases isT t T1 with
        | true => rfl
        | false =>
          unfold PySem.W.kitAny
          simp only [k2]
          cases isT t T2 <;> rfl
      · exact q.elim
    · exact q.elim
end
end Dn

set_option Elab.async false
set_option linter.all false
set_option maxRecDepth 100000
set_option maxHeartbeats 2000000
namespace Dn
open PySem PySem.Spec PyProof.Rows L2 RZ
/-! two rules for one expression: which one, its mirror tells -/
section
variable {G : Fx} {a b e o i : Expr} {ma mb mo mi : ME} {pos p : Pos}
theorem tE_or {f f1 f2 : D → D → Sto → R D} {σ : L2.St} {H : Hp} {Q : VK} (hf : ∀ x y S, f x y S = f1 x y S ∨ f x y S = f2 x y S) (h : tE G.g (m2 f ma mb) σ H Q) : tE G.g (m2 f1 ma mb) σ H Q ∨ tE G.g (m2 f2 ma mb) σ H Q := by
  obtain ⟨ρ, μ, S, at', q⟩ := h
  cases e1 : ma ρ S with
  | stuck => simp only [m2, e1, R.bind] at q; exact q.elim
  | exc c fs S1 => exact .inl ⟨ρ, μ, S, at', by simp only [m2, e1, R.bind] at q ⊢; exact q⟩
  | ok x S1 =>
    cases e2 : mb ρ S1 with
    | stuck => simp only [m2, e1, e2, R.bind] at q; exact q.elim
    | exc c fs S2 => exact .inl ⟨ρ, μ, S, at', by simp only [m2, e1, e2, R.bind] at q ⊢; exact q⟩
    | ok y S2 =>
      rcases hf x y S2 with e | e
      · exact .inl ⟨ρ, μ, S, at', by simp only [m2, e1, e2, R.bind, e] at q ⊢; exact q⟩
      · exact .inr ⟨ρ, μ, S, at', by simp only [m2, e1, e2, R.bind, e] at q ⊢; exact q⟩
theorem se_two {f f1 f2 : D → D → Sto → R D} (hf : ∀ x y S, f x y S = f1 x y S ∨ f x y S = f2 x y S) (h1 : SE G e (m2 f1 ma mb)) (h2 : SE G e (m2 f2 ma mb)) : SE G e (m2 f ma mb) := ⟨fun p s σ H Q I h => by
  rcases tE_or hf h with h | h
  · exact h1.run p s σ H Q I h
  · exact h2.run p s σ H Q I h⟩
/-! d[k], xs[k] -/
def isDk (S : Sto) (o : D) : Bool := match o with
  | .ref i => match S[i]? with
    | some (.dk _) => true
    | _ => false
  | _ => false
def itemX (x y : D) (S : Sto) : R D := if isDk S x then dgetD x y S else itemD x y S
theorem se_itemX (h1 : SE G e (m2 dgetD ma mb)) (h2 : SE G e (m2 itemD ma mb)) : SE G e (m2 itemX ma mb) := se_two (fun x y S => by
  unfold itemX
  by_cases c : isDk S x = true
  · exact .inl (if_pos c)
  · exact .inr (if_neg c)) h1 h2
/-! k in d -/
def dinD (neg : Bool) (y x : D) (S : Sto) : R D := match x with
  | .ref i => match S[i]? with
    | some (.dk kvs) => match keyD y with
      | some k => .ok (.bl (if neg then (valD kvs k).isNone else (valD kvs k).isSome)) S
      | none => .stuck
    | _ => .stuck
  | _ => .stuck
theorem din_get {μ : Mp} {H : Hp} {S : Sto} {neg : Bool} {σ : L2.St} {x y : D} {v u : V} {Q : VK} (rs : RS G.k μ S H) (r2 : RD G.k μ H y u) (r1 : RD G.k μ H x v) (q : Po G.g (relD G.g) μ H σ Q (dinD neg y x S)) : ∃ a w, v = .ref a ∧ DGet H a u w ∧ Q (.bl (if neg then w.isNone else w.isSome)) H := by
  unfold dinD at q
  split at q
  · split at q
    · split at q
      · rename_i j _ kvs e1 _ k e2
        cases r1 with
        | @ref _ a h1 =>
          obtain ⟨ws, g, e4, e5⟩ := rs.ob j _ _ h1 e1
          have e7 := keyD_ok e2 r2
          refine ⟨_, valV ws k, rfl, .inl ⟨ws, k, .inl g, e7, rfl⟩, ?_⟩
          have e8 : (valV ws k).isSome = (valD kvs k).isSome := by
            cases c : valD kvs k with
            | none => rw [val_none e4 c]; rfl
            | some d => obtain ⟨w, h, _⟩ := val_some e4 e5 c; rw [h]; rfl
          have e9 : (valV ws k).isNone = (valD kvs k).isNone := by
            cases c : valD kvs k with
            | none => rw [val_none e4 c]; rfl
            | some d => obtain ⟨w, h, _⟩ := val_some e4 e5 c; rw [h]; rfl
          rw [e8, e9]
          exact q μ H _ (Nx.refl μ H) rs (.bl _)
      · exact q.elim
    · exact q.elim
  · exact q.elim
theorem se_din (hu : G.X.A.units + 1 < cLine) (ha : SE G a ma) (hb : SE G b mb) (hm : behindInMarks .In b = false) : SE G (.Compare a [.In] [b] pos) (m2 (dinD false) ma mb) :=
  pe_imp (pe_cmp (pc_din hu ha hb) hm) fun σ H Q h => tE_2 h fun μ H S y x u v rs r2 r1 q => by
    obtain ⟨a, w, e, g, q⟩ := din_get rs r2 r1 q
    exact ⟨a, w, e, g, q⟩
theorem se_dnotin (hu : G.X.A.units + 1 < cLine) (ha : SE G a ma) (hb : SE G b mb) (hm : behindInMarks .NotIn b = false) : SE G (.Compare a [.NotIn] [b] pos) (m2 (dinD true) ma mb) :=
  pe_imp (pe_cmp (pc_dnotin hu ha hb) hm) fun σ H Q h => tE_2 h fun μ H S y x u v rs r2 r1 q => by
    obtain ⟨a, w, e, g, q⟩ := din_get rs r2 r1 q
    exact ⟨a, w, e, g, by cases w <;> exact q⟩
/-! a sign in a text -/
def sinD (neg : Bool) (x y : D) (S : Sto) : R D := match x, y with
  | .str x, .str z => if x.cps.size = 1 then .ok (.bl (if neg then !decide (x.cps.getD 0 0 ∈ z.cps.toList) else decide (x.cps.getD 0 0 ∈ z.cps.toList))) S else .stuck
  | _, _ => .stuck
theorem sin_get {μ : Mp} {H : Hp} {S : Sto} {neg : Bool} {σ : L2.St} {x y : D} {v u : V} {Q : VK} (rs : RS G.k μ S H) (r1 : RD G.k μ H x v) (r2 : RD G.k μ H y u) (q : Po G.g (relD G.g) μ H σ Q (sinD neg x y S)) : ∃ (c : Nat) (z : Str), v = .str ⟨#[c]⟩ ∧ u = .str z ∧ Q (.bl (if neg then !decide (c ∈ z.cps.toList) else decide (c ∈ z.cps.toList))) H := by
  unfold sinD at q
  split at q
  · split at q
    · rename_i x z hs
      cases r1
      cases r2
      refine ⟨x.cps.getD 0 0, z, ?_, rfl, q μ H _ (Nx.refl μ H) rs (.bl _)⟩
      obtain ⟨⟨l⟩⟩ := x
      match l, hs with
      | [c], _ => rfl
    · exact q.elim
  · exact q.elim
/-- in: a list, a dict, a sign in a text -/
def inX (neg : Bool) (x y : D) (S : Sto) : R D := if isDk S y then dinD neg x y S else match y with
  | .str _ => sinD neg x y S
  | _ => inD neg x y S
theorem se_inX {neg : Bool} (h1 : SE G e (m2 (dinD neg) ma mb)) (h2 : SE G e (m2 (sinD neg) ma mb)) (h3 : SE G e (m2 (inD neg) ma mb)) : SE G e (m2 (inX neg) ma mb) :=
  se_two (f1 := dinD neg) (f2 := fun x y S => match y with | .str _ => sinD neg x y S | _ => inD neg x y S) (fun x y S => by
    unfold inX
    by_cases c : isDk S y = true
    · exact .inl (if_pos c)
    · exact .inr (if_neg c)) h1 (se_two (f1 := sinD neg) (f2 := inD neg) (fun x y S => by
      cases y <;> first | exact .inl rfl | exact .inr rfl) h2 h3)
end
end Dn

set_option Elab.async false
set_option linter.all false
set_option maxRecDepth 100000
set_option maxHeartbeats 2000000
namespace Dn
open PySem PySem.Spec PyProof.Rows L2 RZ
/-! while: at most so many turns -/
section
variable {G : Fx} {c : Expr} {body : List Stmt} {tc : MB} {mb : MS} {pos : Pos}
def whileF (tc : MB) (body : MS) : Nat → Ev → Sto → F
  | 0, _, _ => .stuck
  | r + 1, ρ, S => (tc ρ S).to ρ fun b S1 => if b then (match body ρ S1 with
    | .nx ρ2 S2 => whileF tc body r ρ2 S2
    | .ct ρ2 S2 => whileF tc body r ρ2 S2
    | .bk ρ2 S2 => .nx ρ2 S2
    | .rt d S2 => .rt d S2
    | .ex c fs ρ2 S2 => .ex c fs ρ2 S2
    | .stuck => .stuck) else .nx ρ S1
/-- enough turns for every loop of a law -/
def turns : Nat := 1000000
theorem turns_eq : turns = 1000000 := rfl
def sWhile (tc : MB) (body : MS) : MS := fun ρ S => whileF tc body turns ρ S
theorem ss_while (hp : PassesOwn (model G.X.prog G.X.w) G.X.A G.X.env G.X.xe) (hc : SB G c tc) (hb : SSs G body mb) : SS G (.While c body [] pos) (sWhile tc mb) :=
  ps_imp (ps_while hp hc hb) fun E σ H h => by
    obtain ⟨ρ, μ1, S, at1, q⟩ := h
    refine ⟨fun m σ H => ∃ ρ μ S, At G.g μ H ρ σ S ∧ PoS G.g μ H E (whileF tc mb m ρ S), ⟨turns, ρ, μ1, S, at1, q⟩, ?_⟩
    rintro m σ2 H2 ⟨ρ2, μ2, S2, a2, q2⟩
    cases m with
    | zero => exact q2.elim
    | succ r =>
      refine ⟨ρ2, μ2, S2, a2, po_s (Rel := relB) a2 q2 fun μ3 H3 S3 x v n3 a3 d3 q3 => ?_⟩
      subst d3
      cases x with
      | false =>
        simp only [Bool.false_eq_true, if_false] at q3 ⊢
        exact q3 μ3 H3 _ (Nx.refl _ _) a3.rs a3.re
      | true =>
        simp only [if_true] at q3 ⊢
        refine ⟨fun σ' H' => ∃ ρ μ S, At G.g μ H' ρ σ' S ∧ PoS G.g μ H' E (whileF tc mb r ρ S), fun σ' H' h => ⟨r, Nat.lt_succ_self r, h⟩, ρ2, μ3, S3, a3, ?_⟩
        revert q3
        cases mb ρ2 S3 with
        | stuck => exact fun q => q
        | nx ρ5 S5 => exact fun q μ5 H5 σ5 n5 rs5 re5 => ⟨ρ5, μ5, S5, ⟨re5, rs5, G.pinK _ _ _ _ n5 a3.pin⟩, q.nx n5⟩
        | ct ρ5 S5 => exact fun q μ5 H5 σ5 n5 rs5 re5 => ⟨ρ5, μ5, S5, ⟨re5, rs5, G.pinK _ _ _ _ n5 a3.pin⟩, q.nx n5⟩
        | bk ρ5 S5 => exact fun q => q
        | rt d5 S5 => exact fun q => q
        | ex c fs ρ5 S5 => exact fun q => q
/-- the rule for such a loop: an invariant and a measure -/
theorem whileF_nx (P : Nat → Ev → Sto → Prop)
    (hs : ∀ k ρ S, P k ρ S → ∃ b S1, tc ρ S = .ok b S1 ∧ (b = true → ∃ ρ2 S2 j, (mb ρ S1 = .nx ρ2 S2 ∨ mb ρ S1 = .ct ρ2 S2) ∧ j < k ∧ P j ρ2 S2) ∧ (b = false → P 0 ρ S1)) :
    ∀ r k, k < r → ∀ ρ S, P k ρ S → ∃ ρ' S', whileF tc mb r ρ S = .nx ρ' S' ∧ P 0 ρ' S'
  | 0, k, h, _, _, _ => absurd h (Nat.not_lt_zero k)
  | r + 1, k, h, ρ, S, hP => by
    obtain ⟨b, S1, e1, ht, hf⟩ := hs k ρ S hP
    cases b with
    | false => exact ⟨ρ, S1, by simp only [whileF, e1, R.to]; rfl, hf rfl⟩
    | true =>
      obtain ⟨ρ2, S2, j, h2, hj, hP2⟩ := ht rfl
      obtain ⟨ρ', S', h5, h6⟩ := whileF_nx P hs r j (by omega) ρ2 S2 hP2
      refine ⟨ρ', S', ?_, h6⟩
      rcases h2 with h2 | h2 <;> simp only [whileF, e1, R.to, if_true, h2, h5]
end
end Dn

set_option Elab.async false
set_option linter.all false
set_option maxRecDepth 100000
set_option maxHeartbeats 2000000
namespace Dn
open PySem PySem.Spec PyProof.Rows L2 RZ
/-! int of a text -/
section
variable {G : Fx}
def intX (ds : List D) (S : Sto) : R D := match ds with
  | [.str a] => match PySem.intText? a with
    | some n => if a.length ≤ 640 then .ok (.int n) S else .stuck
    | none => .stuck
  | _ => intC ds S
theorem callS_or {r1 r2 : List V → Hp → VK → Prop} {f f1 f2 : List D → Sto → R D} (h1 : CallS G r1 f1) (h2 : CallS G r2 f2) (hf : ∀ ds S, f ds S = f1 ds S ∨ f ds S = f2 ds S) : CallS G (fun xs H Q => r1 xs H Q ∨ r2 xs H Q) f := by
  intro μ H σ S xs vs Q rs r q
  rcases hf xs S with e | e
  · rw [e] at q; exact .inl (h1 μ H σ S xs vs Q rs r q)
  · rw [e] at q; exact .inr (h2 μ H σ S xs vs Q rs r q)
def intStrD (ds : List D) (S : Sto) : R D := match ds with
  | [.str a] => match PySem.intText? a with
    | some n => if a.length ≤ 640 then .ok (.int n) S else .stuck
    | none => .stuck
  | _ => .stuck
theorem intStr_ok : CallS G (fun xs H Q => ∃ a n, xs = [.str a] ∧ PySem.intText? a = some n ∧ a.length ≤ 640 ∧ Q (.int n) H) intStrD := by
  intro μ H σ S xs vs Q rs r q
  unfold intStrD at q
  split at q
  · split at q
    · split at q
      · rename_i a _ n e h
        cases r with
        | cons r1 r2 => cases r2; cases r1; exact ⟨a, n, rfl, e, h, Po.same rs (.int _) q⟩
      · exact q.elim
    · exact q.elim
  · exact q.elim
theorem intX_ok : CallS G (fun xs H Q => ((∃ i, xs = [.int i] ∧ Q (.int i) H) ∨ ∃ k, xs = [.bl k] ∧ Q (.int (if k then 1 else 0)) H) ∨ ∃ a n, xs = [.str a] ∧ PySem.intText? a = some n ∧ a.length ≤ 640 ∧ Q (.int n) H) intX :=
  callS_or int1_ok intStr_ok fun ds S => by
    unfold intX
    split
    · exact .inr rfl
    · exact .inl rfl
theorem call_intX {X : Cx} : CallR X (.type "int") (fun xs H Q => ((∃ i, xs = [.int i] ∧ Q (.int i) H) ∨ ∃ k, xs = [.bl k] ∧ Q (.int (if k then 1 else 0)) H) ∨ ∃ a n, xs = [.str a] ∧ PySem.intText? a = some n ∧ a.length ≤ 640 ∧ Q (.int n) H) := CallR.or call_int1 call_int_str
/-! str of a text -/
def strX (ds : List D) (S : Sto) : R D := match ds with
  | [.str a] => .ok (.str a) S
  | _ => strC ds S
def strStrD (ds : List D) (S : Sto) : R D := match ds with
  | [.str a] => .ok (.str a) S
  | _ => .stuck
theorem strStr_ok : CallS G (fun xs H Q => ∃ a, xs = [.str a] ∧ Q (.str a) H) strStrD := by
  intro μ H σ S xs vs Q rs r q
  unfold strStrD at q
  split at q
  · cases r with
    | cons r1 r2 => cases r2; cases r1; exact ⟨_, rfl, Po.same rs (.str _) q⟩
  · exact q.elim
theorem strX_ok : CallS G (fun xs H Q => (∃ i, xs = [.int i] ∧ i.natAbs.log2 < 1920 ∧ Q (.str (toString i)) H) ∨ ∃ a, xs = [.str a] ∧ Q (.str a) H) strX :=
  callS_or str1_ok strStr_ok fun ds S => by
    unfold strX
    split
    · exact .inr rfl
    · exact .inl rfl
theorem call_strX {X : Cx} : CallR X (.type "str") (fun xs H Q => (∃ i, xs = [.int i] ∧ i.natAbs.log2 < 1920 ∧ Q (.str (toString i)) H) ∨ ∃ a, xs = [.str a] ∧ Q (.str a) H) := CallR.or call_str_int SkE.call_str_str
end
end Dn

set_option Elab.async false
set_option linter.all false
set_option maxRecDepth 100000
set_option maxHeartbeats 2000000
namespace Dn
open PySem PySem.Spec PyProof.Rows L2 RZ
/-! enumerate of a list -/
section
variable {G : Fx} {a : Expr} {mA : ML} {pos p : Pos}
def itE (i n : Nat) : Wk := ⟨n, fun k S => match S[i]? with
  | some (.lst xs) => if xs.length = n then (xs[k]?).map fun d => .twk [.int (k : Nat), d] else none
  | _ => none, fun S => lenL S i == some n⟩
def itER (ds : List D) : Wk := ⟨ds.length, fun k _ => (ds[k]?).map fun d => .twk [.int (k : Nat), d], fun _ => true⟩
theorem ri_enumL {K : Kx} {μ : Mp} {H : Hp} {p : Addr} {i n : Nat} (h : μ.m[i]? = some p) : RI K μ H (itE i n) (Ite K.K p) where
  go := fun μ1 H1 S k d nx rs hk e => by
    simp only [itE] at e
    split at e
    · rename_i xs e1
      split at e
      · obtain ⟨vs, g1, r⟩ := rs.lst (nx.at h) e1
        cases e2 : xs[k]? with
        | none => rw [e2] at e; cases e
        | some y =>
          rw [e2] at e
          cases e
          obtain ⟨v, hv, rv⟩ := r.get e2
          refine ⟨⟨vs, v, SqL.of g1, hv⟩, fun z H' yy => ?_⟩
          obtain ⟨T, x', rfl, hT, rfl, f1⟩ := yy
          have e3 := f1 vs (SqL.of g1)
          rw [hv] at e3; cases e3
          have n3 : Nx μ1 μ1 H1 (upd H1 T (.tup [.int (k : Nat), v])) := Nx.hardNew hT
          exact ⟨n3, rs.hardNew hT, .twk (SqT.of upd_same) (.cons (.int _) (.cons (rv.mono n3) .nil))⟩
      · cases e
    · cases e
  stop := fun μ1 H1 S nx rs hf => by
    have hf' : lenL S i = some n := by simpa [itE] using hf
    obtain ⟨xs, e1, hl⟩ := lenL_some hf'
    obtain ⟨vs, g1, r⟩ := rs.lst (nx.at h) e1
    exact ⟨vs, SqL.of g1, by rw [← r.length, hl]; exact Nat.le_refl _⟩
theorem ri_enumR {K : Kx} {μ : Mp} {H : Hp} {p : Addr} {vs : List V} {ds : List D} (h : RoL K.K μ H p vs) (r : RDs K μ H ds vs) : RI K μ H (itER ds) (Ite K.K p) where
  go := fun μ1 H1 S k d nx rs hk e => by
    have g1 := (nx.roL h).sq
    simp only [itER] at e
    cases e2 : ds[k]? with
    | none => rw [e2] at e; cases e
    | some y =>
      rw [e2] at e
      cases e
      obtain ⟨v, hv, rv⟩ := r.get e2
      refine ⟨⟨vs, v, g1, hv⟩, fun z H' yy => ?_⟩
      obtain ⟨T, x', rfl, hT, rfl, f1⟩ := yy
      have e3 := f1 vs g1
      rw [hv] at e3; cases e3
      have n3 : Nx μ1 μ1 H1 (upd H1 T (.tup [.int (k : Nat), v])) := Nx.hardNew hT
      exact ⟨n3, rs.hardNew hT, .twk (SqT.of upd_same) (.cons (.int _) (.cons ((rv.mono nx).mono n3) .nil))⟩
  stop := fun μ1 H1 S nx rs _ => ⟨vs, (nx.roL h).sq, by rw [← r.length]; exact Nat.le_refl _⟩
def enumI (ds : List D) (S : Sto) : Option Wk := match ds with
  | [.ref i] => match lenL S i with
    | some n => some (itE i n)
    | none => none
  | [.rol xs] => some (itER xs)
  | _ => none
theorem si_enum {elts : List Expr} {kk : Nat} {tpos : Pos} (hg : Gl G.X "enumerate") (hm : G.X.mg "enumerate" = none) (ha : SA G [a] mA) (hs : starEach [a] G.X.env = [(false, eval a G.X.env)] := by rfl) :
    SI G (.Tuple elts kk tpos) (.Call (.Name "enumerate" p) [a] [] pos) (mIA enumI mA) :=
  pi_imp (pi_enum hg hm ha hs) fun σ H Rr h => tI_A h fun μ H S ds vs it rs r e k => by
    unfold enumI at e
    split at e
    · rename_i i
      split at e
      · rename_i n e1
        injection e with e
        subst e
        obtain ⟨xs, f1, _⟩ := lenL_some e1
        cases r with
        | cons r1 r2 =>
          cases r2
          cases r1 with
          | ref h1 =>
            obtain ⟨ws, g, _⟩ := rs.lst h1 f1
            exact ⟨_, ws, rfl, SqL.of g, k _ (ri_enumL h1)⟩
      · cases e
    · rename_i xs
      injection e with e
      subst e
      cases r with
      | cons r1 r2 =>
        cases r2
        cases r1 with
        | rol h1 r1 => exact ⟨_, _, rfl, h1.sq, k _ (ri_enumR h1 r1)⟩
    · cases e
end
end Dn

set_option Elab.async false
set_option linter.all false
set_option maxRecDepth 100000
set_option maxHeartbeats 2000000
namespace Dn
open PySem PySem.Spec PyProof.Rows L2 RZ
/-! abs, sum, any -/
section
variable {G : Fx}
def absC (ds : List D) (S : Sto) : R D := match ds with
  | [.int i] => .ok (.int (if i < 0 then -i else i)) S
  | _ => .stuck
theorem abs_ok : CallS G (fun xs H Q => ∃ i, xs = [.int i] ∧ Q (.int (if i < 0 then -i else i)) H) absC := by
  intro μ H σ S xs vs Q rs r q
  unfold absC at q
  split at q
  · cases r with
    | cons r1 r2 => cases r2; cases r1; exact ⟨_, rfl, Po.same rs (.int _) q⟩
  · exact q.elim
def intsOf : List D → Option (List Int)
  | [] => some []
  | .int x :: r => (intsOf r).map (x :: ·)
  | _ => none
theorem intsOf_map (xs : List Int) : intsOf (xs.map D.int) = some xs := by
  induction xs with
  | nil => rfl
  | cons x xs ih => simp [intsOf, ih]
theorem intsOf_of : ∀ {ds : List D} {xs : List Int}, intsOf ds = some xs → ds = xs.map D.int
  | [], _, h => by cases h; rfl
  | .int x :: r, xs, h => by
    unfold intsOf at h
    cases e : intsOf r with
    | none => rw [e] at h; cases h
    | some ys => rw [e] at h; cases h; rw [intsOf_of e]; rfl
  | .non :: _, _, h | .bl _ :: _, _, h | .str _ :: _, _, h | .tup _ :: _, _, h | .twk _ :: _, _, h | .rol _ :: _, _, h | .ref _ :: _, _, h | .adr _ :: _, _, h => by cases h
theorem rds_ints_inv {K : Kx} {μ : Mp} {H : Hp} : ∀ {xs : List Int} {vs : List V}, RDs K μ H (xs.map D.int) vs → vs = xs.map V.int
  | [], _, .nil => rfl
  | x :: xs, _, .cons (.int _) r => by rw [rds_ints_inv r]; rfl
def sumC (ds : List D) (S : Sto) : R D := match ds with
  | [.ref i] => match S[i]? with
    | some (.lst xs) => match intsOf xs with
      | some ns => .ok (.int ns.sum) S
      | none => .stuck
    | _ => .stuck
  | _ => .stuck
theorem sum_ok : CallS G (rSum G.X.K) sumC := by
  intro μ H σ S xs vs Q rs r q
  unfold sumC at q
  split at q
  · split at q
    · split at q
      · rename_i i _ ys e1 _ bs e2
        cases r with
        | cons r1 r2 =>
          cases r2
          cases r1 with
          | ref h1 =>
            obtain ⟨ws, g, d⟩ := rs.lst h1 e1
            rw [intsOf_of e2] at d
            have ew := rds_ints_inv d
            subst ew
            exact ⟨_, bs, rfl, SqL.of g, Po.same rs (.int _) q⟩
      · exact q.elim
    · exact q.elim
  · exact q.elim
def anyC (ds : List D) (S : Sto) : R D := match ds with
  | [.ref i] => match S[i]? with
    | some (.lst xs) => match boolsOf xs with
      | some bs => .ok (.bl (bs.any id)) S
      | none => .stuck
    | _ => .stuck
  | _ => .stuck
theorem any_ok : CallS G (rAny G.X.K) anyC := by
  intro μ H σ S xs vs Q rs r q
  unfold anyC at q
  split at q
  · split at q
    · split at q
      · rename_i i _ ys e1 _ bs e2
        cases r with
        | cons r1 r2 =>
          cases r2
          cases r1 with
          | ref h1 =>
            obtain ⟨ws, g, d⟩ := rs.lst h1 e1
            have ew := bools_ok e2 d
            subst ew
            exact ⟨_, bs, rfl, SqL.of g, Po.same rs (.bl _) q⟩
      · exact q.elim
    · exact q.elim
  · exact q.elim
end
end Dn

set_option Elab.async false
set_option linter.all false
set_option maxRecDepth 100000
set_option maxHeartbeats 2000000
namespace Dn
open PySem PySem.Spec PyProof.Rows L2 RZ
/-! xs[i] = e, d[k] = e: which one, the mirror tells -/
section
variable {G : Fx} {st : Stmt} {mo mi mv : ME}
def sPutX (mo mi mv : ME) : MS := fun ρ S => (mv ρ S).to ρ fun d S1 => (mo ρ S1).to ρ fun o S2 => (mi ρ S2).to ρ fun y S3 => match (if isDk S3 o then dputD o y S3 d else putD o y S3 d) with
  | some S4 => .nx ρ S4
  | none => .stuck
theorem ss_putX (h1 : SS G st (sDPutD mo mi mv)) (h2 : SS G st (sAsg mv (gSub mo mi))) : SS G st (sPutX mo mi mv) := ⟨fun p s σ H D I h => by
  obtain ⟨ρ, μ, S, at', q⟩ := h
  cases e1 : mv ρ S with
  | stuck => simp only [sPutX, e1, R.to] at q; exact q.elim
  | exc c fs S1 => exact h1.run p s σ H D I ⟨ρ, μ, S, at', by simp only [sPutX, e1, R.to] at q; simp only [sDPutD, e1, R.to]; exact q⟩
  | ok d S1 =>
    cases e2 : mo ρ S1 with
    | stuck => simp only [sPutX, e1, e2, R.to] at q; exact q.elim
    | exc c fs S2 => exact h1.run p s σ H D I ⟨ρ, μ, S, at', by simp only [sPutX, e1, e2, R.to] at q; simp only [sDPutD, e1, e2, R.to]; exact q⟩
    | ok o S2 =>
      cases e3 : mi ρ S2 with
      | stuck => simp only [sPutX, e1, e2, e3, R.to] at q; exact q.elim
      | exc c fs S3 => exact h1.run p s σ H D I ⟨ρ, μ, S, at', by simp only [sPutX, e1, e2, e3, R.to] at q; simp only [sDPutD, e1, e2, e3, R.to]; exact q⟩
      | ok y S3 =>
        by_cases c : isDk S3 o = true
        · refine h1.run p s σ H D I ⟨ρ, μ, S, at', ?_⟩
          simp only [sPutX, e1, e2, e3, R.to] at q
          rw [if_pos c] at q
          simp only [sDPutD, e1, e2, e3, R.to]
          exact q
        · refine h2.run p s σ H D I ⟨ρ, μ, S, at', ?_⟩
          simp only [sPutX, e1, e2, e3, R.to] at q
          rw [if_neg c] at q
          simp only [sAsg, gSub, e1, e2, e3, R.to, R.bind]
          cases e4 : putD o y S3 d with
          | none => rw [e4] at q; exact q.elim
          | some S4 => rw [e4] at q; exact q⟩
/-! the same for tests -/
section
variable {e a b : Expr} {ma mb : ME} {pos : Pos}
theorem tB_or {f f1 f2 : D → D → Sto → R D} {σ : L2.St} {H : Hp} {Q : Bool → Hp → Prop} (hf : ∀ x y S, f x y S = f1 x y S ∨ f x y S = f2 x y S) (h : tB G.g (mTb (m2 f ma mb)) σ H Q) : tB G.g (mTb (m2 f1 ma mb)) σ H Q ∨ tB G.g (mTb (m2 f2 ma mb)) σ H Q := by
  obtain ⟨ρ, μ, S, at', q⟩ := h
  cases e1 : ma ρ S with
  | stuck => simp only [mTb, m2, e1, R.bind] at q; exact q.elim
  | exc c fs S1 => exact .inl ⟨ρ, μ, S, at', by simp only [mTb, m2, e1, R.bind] at q ⊢; exact q⟩
  | ok x S1 =>
    cases e2 : mb ρ S1 with
    | stuck => simp only [mTb, m2, e1, e2, R.bind] at q; exact q.elim
    | exc c fs S2 => exact .inl ⟨ρ, μ, S, at', by simp only [mTb, m2, e1, e2, R.bind] at q ⊢; exact q⟩
    | ok y S2 =>
      rcases hf x y S2 with e | e
      · exact .inl ⟨ρ, μ, S, at', by simp only [mTb, m2, e1, e2, R.bind, e] at q ⊢; exact q⟩
      · exact .inr ⟨ρ, μ, S, at', by simp only [mTb, m2, e1, e2, R.bind, e] at q ⊢; exact q⟩
theorem sb_two {f f1 f2 : D → D → Sto → R D} (hf : ∀ x y S, f x y S = f1 x y S ∨ f x y S = f2 x y S) (h1 : SB G e (mTb (m2 f1 ma mb))) (h2 : SB G e (mTb (m2 f2 ma mb))) : SB G e (mTb (m2 f ma mb)) := ⟨fun p s σ H Q I h => by
  rcases tB_or hf h with h | h
  · exact h1.run p s σ H Q I h
  · exact h2.run p s σ H Q I h⟩
theorem sb_inX {neg : Bool} (h1 : SB G e (mTb (m2 (dinD neg) ma mb))) (h2 : SB G e (mTb (m2 (sinD neg) ma mb))) (h3 : SB G e (mTb (m2 (inD neg) ma mb))) : SB G e (mTb (m2 (inX neg) ma mb)) :=
  sb_two (f1 := dinD neg) (f2 := fun x y S => match y with | .str _ => sinD neg x y S | _ => inD neg x y S) (fun x y S => by
    unfold inX
    by_cases c : isDk S y = true
    · exact .inl (if_pos c)
    · exact .inr (if_neg c)) h1 (sb_two (f1 := sinD neg) (f2 := inD neg) (fun x y S => by
      cases y <;> first | exact .inl rfl | exact .inr rfl) h2 h3)
theorem sb_din (hu : G.X.A.units + 1 < cLine) (ha : SE G a ma) (hb : SE G b mb) (hm : behindInMarks .In b = false) : SB G (.Compare a [.In] [b] pos) (mTb (m2 (dinD false) ma mb)) :=
  pt_imp (pt_cmp (pc_din hu ha hb) hm) fun σ H Q h => tE_2 (tB_b h) fun μ H S y x u v rs r2 r1 q => by
    obtain ⟨a, w, e, g, q⟩ := din_get rs r2 r1 q
    exact ⟨a, w, e, g, q⟩
theorem sb_dnotin (hu : G.X.A.units + 1 < cLine) (ha : SE G a ma) (hb : SE G b mb) (hm : behindInMarks .NotIn b = false) : SB G (.Compare a [.NotIn] [b] pos) (mTb (m2 (dinD true) ma mb)) :=
  pt_imp (pt_cmp (pc_dnotin hu ha hb) hm) fun σ H Q h => tE_2 (tB_b h) fun μ H S y x u v rs r2 r1 q => by
    obtain ⟨a, w, e, g, q⟩ := din_get rs r2 r1 q
    exact ⟨a, w, e, g, by cases w <;> exact q⟩
end
/-! rules that the printer uses -/
theorem units1 {X : Cx} {k : Nat} (hr : Room k X.A) : X.A.units + 1 < cLine := hu_of hr
theorem sin_ok : OpS G (fun x y H Q => ∃ (c : Nat) (z : Str), x = .str ⟨#[c]⟩ ∧ y = .str z ∧ Q (.bl (decide (c ∈ z.cps.toList))) H) (sinD false) := by
  intro μ H σ S x y v u Q rs r1 r2 q
  obtain ⟨c, z, e1, e2, q⟩ := sin_get rs r1 r2 q
  exact ⟨c, z, e1, e2, q⟩
theorem sninD_ok : OpS G (fun x y H Q => ∃ (c : Nat) (z : Str), x = .str ⟨#[c]⟩ ∧ y = .str z ∧ Q (.bl (!decide (c ∈ z.cps.toList))) H) (sinD true) := by
  intro μ H σ S x y v u Q rs r1 r2 q
  obtain ⟨c, z, e1, e2, q⟩ := sin_get rs r1 r2 q
  exact ⟨c, z, e1, e2, q⟩
end
end Dn

set_option Elab.async false
set_option linter.all false
set_option maxRecDepth 100000
set_option maxHeartbeats 2000000
namespace Dn
open PySem PySem.Spec PyProof.Rows L2 RZ
/-! ## instances: attributes -/
def lookN : List Str → List D → Str → Option D
  | n :: ns, d :: ds, f => if f == n then some d else lookN ns ds f
  | _, _, _ => none
def putN (f : Str) (d : D) : List Str → List D → List Str × List D
  | n :: ns, e :: ds => if n = f then (n :: ns, d :: ds) else (n :: (putN f d ns ds).1, e :: (putN f d ns ds).2)
  | _, _ => ([f], [d])
theorem lookN_ok {K : Kx} {μ : Mp} {H : Hp} {f : Str} {d : D} : ∀ {ns : List Str} {ds : List D} {vs : List V}, RDs K μ H ds vs → lookN ns ds f = some d → ∃ v, (ns.zip vs).lookup f = some v ∧ RD K μ H d v
  | n :: ns, _, _, .cons r t, h => by
    simp only [lookN] at h
    rw [List.zip_cons_cons, List.lookup_cons]
    split at h
    · rename_i c; cases h; rw [c]; exact ⟨_, rfl, r⟩
    · rename_i c
      rw [Bool.not_eq_true] at c
      rw [c]; exact lookN_ok t h
  | [], _, _, .cons _ _, h => by simp only [lookN] at h; cases h
  | [], _, _, .nil, h => by simp only [lookN] at h; cases h
  | _ :: _, _, _, .nil, h => by simp only [lookN] at h; cases h
theorem putN_ok {K : Kx} {μ : Mp} {H : Hp} {f : Str} {d : D} {v : V} (rv : RD K μ H d v) : ∀ {ns : List Str} {ds : List D} {vs : List V}, ns.length = vs.length → RDs K μ H ds vs → ∃ ws, putF f v (ns.zip vs) = (putN f d ns ds).1.zip ws ∧ (putN f d ns ds).1.length = ws.length ∧ RDs K μ H (putN f d ns ds).2 ws
  | n :: ns, e :: ds, u :: us, hl, .cons r t => by
    rw [List.zip_cons_cons]
    simp only [putF, putN]
    by_cases c : n = f
    · rw [if_pos c, if_pos c]
      exact ⟨v :: us, by rw [List.zip_cons_cons, c], by simpa using hl, .cons rv t⟩
    · rw [if_neg c, if_neg c]
      obtain ⟨ws, h1, h2, h3⟩ := putN_ok rv (by simpa using hl) t
      exact ⟨u :: ws, by rw [h1, List.zip_cons_cons], by simp [h2], .cons r h3⟩
  | [], _, _, hl, .nil => ⟨[v], rfl, rfl, .cons rv .nil⟩
  | _ :: _, [], [], hl, .nil => by cases hl
/-- the instance's class, names, fields -/
def insD (S : Sto) : D → Option (Nat × List Str × List D)
  | .obj c ns ds => some (c, ns, ds)
  | .ref i => match S[i]? with
    | some (.ins c ns ds) => some (c, ns, ds)
    | _ => none
  | _ => none
theorem insD_ok {K : Kx} {μ : Mp} {H : Hp} {S : Sto} {d : D} {v : V} {c : Nat} {ns : List Str} {ds : List D} (rs : RS K μ S H) (r : RD K μ H d v) (h : insD S d = some (c, ns, ds)) :
    ∃ a C dx vs, v = .ref a ∧ K.c[c]? = some C ∧ H a = some (.ins C dx (ns.zip vs)) ∧ ns.length = vs.length ∧ RDs K μ H ds vs := by
  cases r <;> simp only [insD] at h <;> first | (cases h; done) | skip
  case obj C a dx gs ns' vs' ds' hc hh f hn hl r1 =>
    cases h
    subst hn
    exact ⟨a, C, dx, _, rfl, hc, hh, hl, r1⟩
  case ref i a hi =>
    split at h
    · rename_i e1
      cases h
      obtain ⟨C, dx, vs, hc, g, hl, r1⟩ := rs.ob i a _ hi e1
      exact ⟨a, C, dx, vs, rfl, hc, g, hl, r1⟩
    · cases h
def attrD (tab : List (Nat × Str)) (d : D) (S : Sto) : R D := match insD S d with
  | some (c, ns, ds) => match tab.lookup c with
    | some g => match lookN ns ds g with
      | some e => .ok e S
      | none => .stuck
    | none => .stuck
  | none => .stuck
/-- an attribute's name f of class number c gives the field g -/
structure Att (P : Program) (w : World) (K : Kx) (mg : Str → Option Value) (base : Heap) (c : Nat) (f g : Str) : Prop where
  ex : ∃ C, K.c[c]? = some C ∧ Cls K.K C ∧ ((f = g ∧ NoAttr K.K C f) ∨ ∃ p gt fd, PropOf K.K C f p gt ∧ FnOk P w K.K mg base CX0 1 gt fd ["self"] (getSp C g) ∧ Binds K.K fd ["self"] [])
def Atts (P : Program) (w : World) (K : Kx) (mg : Str → Option Value) (base : Heap) (f : Str) (tab : List (Nat × Str)) : Prop := ∀ c g, tab.lookup c = some g → Att P w K mg base c f g
theorem Atts.nil {P : Program} {w : World} {K : Kx} {mg : Str → Option Value} {base : Heap} {f : Str} : Atts P w K mg base f [] := fun _ _ h => nomatch h
theorem Atts.cons {P : Program} {w : World} {K : Kx} {mg : Str → Option Value} {base : Heap} {f g : Str} {c : Nat} {tab : List (Nat × Str)} (h : Att P w K mg base c f g) (t : Atts P w K mg base f tab) : Atts P w K mg base f ((c, g) :: tab) := fun c' g' q => by
  rw [List.lookup_cons] at q
  split at q
  · rename_i hb
    cases q
    rw [eq_of_beq hb]; exact h
  · exact t c' g' q
section
variable {G : Fx} {e value : Expr} {ma mv : ME} {pos pos' tpos : Pos} {f : Str} {tab : List (Nat × Str)} {j : Nat}
def tAtt (K : Kx) (ta : TE) (tab : List (Nat × Str)) : TE := fun σ H Q => ta σ H fun x H1 => ∃ c g C a dx fs v, tab.lookup c = some g ∧ K.c[c]? = some C ∧ x = .ref a ∧ H1 a = some (.ins C dx fs) ∧ fs.lookup g = some v ∧ Q v H1
theorem pe_att {ta : TE} (he : PE G.X e ta) (A : Atts G.X.prog G.X.w G.k G.X.mg G.X.base f tab) (hr : Room j G.X.A) (hj : 2 ≤ j) (hb : attributeBase e f G.X.env (eval e G.X.env) = eval e G.X.env) : PE G.X (.Attribute e f pos) (tAtt G.k ta tab) := by
  refine ⟨fun pins s σ H Q I h => ?_⟩
  refine attr_of hb (thn (he.run pins s σ H _ I h) fun u s1 ⟨x, H1, I1, rx, c, g, C, a, dx, fs, v, hl, hc, ex, ea, l, q⟩ => ?_)
  subst ex
  obtain rfl : u = Value.ref a := rx
  obtain ⟨C', hc', cl, h⟩ := (A c g hl).ex
  rw [hc] at hc'; cases hc'
  rcases h with ⟨rfl, n⟩ | ⟨p, gt, fd, hp, F, hb⟩
  · exact getattr_ok I1 ea cl n l fun u' s2 I2 ru => ⟨v, H1, I2, ru, q⟩
  · exact getprop_ok (E := E0) I1 ea cl hp F (hr.mono hj) hb .nil pass0 ⟨a, dx, fs, v, rfl, ea, l, q⟩
theorem se_att (ha : SE G e ma) (A : Atts G.X.prog G.X.w G.k G.X.mg G.X.base f tab) (hr : Room j G.X.A) (hj : 2 ≤ j) (hb : attributeBase e f G.X.env (eval e G.X.env) = eval e G.X.env := by rfl) : SE G (.Attribute e f pos) (m1 (attrD tab) ma) :=
  pe_imp (pe_att ha A hr hj hb) fun σ H Q h => tE_1 h fun μ H S d v rs r q => by
    unfold attrD at q
    split at q
    · rename_i c ns ds h1
      split at q
      · rename_i g h2
        split at q
        · rename_i e h3
          obtain ⟨a, C, dx, vs, rfl, hc, hh, hl, rr⟩ := insD_ok rs r h1
          obtain ⟨v, lv, rv⟩ := lookN_ok rr h3
          exact ⟨c, g, C, a, dx, _, v, h2, hc, rfl, hh, lv, Po.same rs rv q⟩
        · exact q.elim
      · exact q.elim
    · exact q.elim
/-! o.f = e -/
/-- a field that may be stored -/
structure Fld (K : Kx) (c : Nat) (f : Str) : Prop where
  ex : ∃ C, K.c[c]? = some C ∧ Cls K.K C ∧ NoAttr K.K C f
def Flds (K : Kx) (f : Str) (cs : List Nat) : Prop := ∀ c ∈ cs, Fld K c f
theorem Flds.nil {K : Kx} {f : Str} : Flds K f [] := fun _ h => nomatch h
theorem Flds.cons {K : Kx} {f : Str} {c : Nat} {cs : List Nat} (h : Fld K c f) (t : Flds K f cs) : Flds K f (c :: cs) := fun c' q => by
  rcases List.mem_cons.mp q with q | q
  · rw [q]; exact h
  · exact t c' q
def putA (cs : List Nat) (f : Str) (o : D) (S : Sto) (d : D) : Option Sto := match o with
  | .ref i => match S[i]? with
    | some (.ins c ns ds) => if c ∈ cs ∧ ns.length < 1000 then some (S.set i (.ins c (putN f d ns ds).1 (putN f d ns ds).2)) else none
    | _ => none
  | _ => none
def sFldD (cs : List Nat) (f : Str) (mo mv : ME) : MS := fun ρ S => (mv ρ S).to ρ fun d S1 => (mo ρ S1).to ρ fun o S2 => match putA cs f o S2 d with
  | some S3 => .nx ρ S3
  | none => .stuck
theorem putA_ok {μ : Mp} {H : Hp} {S S' : Sto} {cs : List Nat} {o d : D} {x y : V} {K : Kx} (rs : RS K μ S H) (A : Flds K f cs) (ro : RD K μ H o x) (rd : RD K μ H d y) (h : putA cs f o S d = some S') :
    ∃ a C dx fs, x = .ref a ∧ H a = some (.ins C dx fs) ∧ Cls K.K C ∧ NoAttr K.K C f ∧ fs.length < 1000 ∧ Nx μ μ H (upd H a (.ins C dx (putF f y fs))) ∧ RS K μ S' (upd H a (.ins C dx (putF f y fs))) := by
  unfold putA at h
  split at h
  · rename_i i
    split at h
    · rename_i c ns ds h1
      split at h
      · rename_i hc
        cases h
        cases ro with
        | @ref _ a ha =>
          obtain ⟨C, dx, vs, kc, g, hl, r⟩ := rs.ob i a _ ha h1
          obtain ⟨C', kc', cl, na⟩ := (A c hc.1).ex
          rw [kc] at kc'; cases kc'
          have hlen : (ns.zip vs).length < 1000 := by rw [List.length_zip, ← hl, Nat.min_self]; exact hc.2
          obtain ⟨ws, e1, e2, e3⟩ := putN_ok rd hl r
          have nx : Nx μ μ H (upd H a (.ins C dx (putF f y (ns.zip vs)))) := Nx.put (List.mem_of_getElem? ha) g fun z => z
          exact ⟨a, C, dx, _, rfl, g, cl, na, hlen, nx, rs.put ha g (fun z => z) ⟨C, dx, ws, kc, by rw [upd_same, e1], e2, e3.mono nx⟩⟩
      · cases h
    · cases h
  · cases h
theorem ss_fld {cs : List Nat} {o : Expr} {mo : ME} (ho : SE G o mo) (hv : SE G value mv) (A : Flds G.k f cs) (hs : swapsWith value (some (.Attribute o f pos')) pos.line G.X.env = pure false := by rfl) : SS G (.Assign [.Attribute o f pos'] value pos) (sFldD cs f mo mv) :=
  ps_imp (ps_fld ho hv hs) fun D σ H h => by
    obtain ⟨ρ, μ, S, at', q⟩ := h
    refine ⟨ρ, μ, S, at', po_s (Rel := relD G.g) at' q fun μ1 H1 S1 d y n1 a1 d1 q1 => ?_⟩
    refine ⟨ρ, μ1, S1, a1, po_s (Rel := relD G.g) a1 q1 fun μ2 H2 S2 o x n2 a2 d2 q2 => ?_⟩
    split at q2
    · rename_i S3 h3
      obtain ⟨a, C, dx, fs, rfl, g, cl, na, hl, nx, r3⟩ := putA_ok a2.rs A d2 (d1.mono n2) h3
      exact ⟨a, C, dx, fs, rfl, g, cl, na, hl, q2 μ2 _ σ nx r3 (a2.re.mono nx)⟩
    · exact q2.elim
/-- o.f += e, ints -/
def sFldAdd (cs : List Nat) (f : Str) (mo mv : ME) : MS := fun ρ S => (mo ρ S).to ρ fun o S1 => match o with
  | .ref i => match S1[i]? with
    | some (.ins c ns ds) => match lookN ns ds f with
      | some (.int x) => if c ∈ cs then (mv ρ S1).to ρ fun d S2 => match d with
          | .int y => match S2[i]? with
            | some (.ins c2 ns2 ds2) => if c2 = c ∧ ns2.length < 1000 then .nx ρ (S2.set i (.ins c2 (putN f (.int (x + y)) ns2 ds2).1 (putN f (.int (x + y)) ns2 ds2).2)) else .stuck
            | _ => .stuck
          | _ => .stuck
        else .stuck
      | _ => .stuck
    | _ => .stuck
  | _ => .stuck
theorem ss_fldadd {cs : List Nat} {o : Expr} {mo : ME} (ho : SE G o mo) (hv : SE G value mv) (A : Flds G.k f cs) : SS G (.AugAssign (.Attribute o f tpos) .Add value pos) (sFldAdd cs f mo mv) :=
  ps_imp (ps_fldaug ho hv in_add) fun D σ H h => by
    obtain ⟨ρ, μ, S, at', q⟩ := h
    refine ⟨ρ, μ, S, at', po_s (Rel := relD G.g) at' q fun μ1 H1 S1 o x n1 a1 d1 q1 => ?_⟩
    split at q1
    rotate_left
    · exact q1.elim
    rename_i i
    split at q1
    rotate_left
    · exact q1.elim
    rename_i c ns ds h1
    split at q1
    rotate_left
    · exact q1.elim
    rename_i xi hl
    split at q1
    rotate_left
    · exact q1.elim
    rename_i hc
    cases d1 with
    | @ref _ a ha =>
      obtain ⟨C, dx, vs, kc, g, hle, r⟩ := a1.rs.ob i a _ ha h1
      obtain ⟨C', kc', cl, na⟩ := (A c hc).ex
      rw [kc] at kc'; cases kc'
      obtain ⟨v, lv, rv⟩ := lookN_ok r hl
      cases rv
      refine ⟨a, C, dx, _, _, rfl, g, cl, na, lv, ρ, μ1, S1, a1, po_s (Rel := relD G.g) a1 q1 fun μ2 H2 S2 d y n2 a2 d2 q2 => ?_⟩
      split at q2
      rotate_left
      · exact q2.elim
      rename_i yi
      cases d2
      split at q2
      rotate_left
      · exact q2.elim
      rename_i c2 ns2 ds2 h2
      split at q2
      rotate_left
      · exact q2.elim
      rename_i hc2
      obtain ⟨rfl, hlt⟩ := hc2
      have ha2 := n2.at ha
      obtain ⟨C2, dx2, vs2, kc2, g2, hl2, r2⟩ := a2.rs.ob i a _ ha2 h2
      rw [kc] at kc2; cases kc2
      obtain ⟨ws, e1, e2, e3⟩ := putN_ok (f := f) (d := .int (xi + yi)) (v := .int (xi + yi)) (.int _) hl2 r2
      have nx : Nx μ2 μ2 H2 (upd H2 a (.ins C dx2 (putF f (.int (xi + yi)) (ns2.zip vs2)))) := Nx.put (List.mem_of_getElem? ha2) g2 fun z => z
      refine ⟨xi, yi, rfl, rfl, dx2, _, g2, by rw [List.length_zip, ← hl2, Nat.min_self]; exact hlt, ?_⟩
      exact q2 μ2 _ σ nx (a2.rs.put ha2 g2 (fun z => z) ⟨C, dx2, ws, kc, by rw [upd_same, e1], e2, e3.mono nx⟩) (a2.re.mono nx)
end
end Dn

set_option Elab.async false
set_option linter.all false
set_option maxRecDepth 100000
set_option maxHeartbeats 2000000
namespace Dn
open PySem PySem.Spec PyProof.Rows L2 RZ
/-! ## calls of defs, methods, classes -/
theorem Po.fn {G : Fx} {μ : Mp} {H : Hp} {σ : L2.St} {Q : VK} : ∀ {r : R D}, Po G.g (relD G.g) μ H σ Q r → PoF G.k μ H Q (WE G.W σ) r
  | .ok _ _, h => h
  | .exc _ _ _, h => h
  | .stuck, h => h
section
variable {X : Cx} {k : Nat} {f C : Addr} {fd : FuncData} {ps ks : List Str} {sp : Sp} {E : XK} {σ : L2.St} {H : Hp} {s : Shared} {Q : VK} {us ws : List Value} {vs zs : List V} {pins : List (Addr × Obj)}
/-- what a new instance's making promises -/
def spMk (C : Addr) (sp : Sp) : Sp := fun vs H Q E => ∀ x dx, H x = none → H dx = none → dx ≠ x → sp (.ref x :: vs) (upd (upd H dx (.own x)) x (.ins C dx [])) (fun v H2 => v = .non ∧ Q (.ref x) H2) E
theorem run_mkAt {n : Nat} {g : List Value → List Value → List Value} {gV gR : List V → List V → List V} (M : Mk X.K C f) (F : FnOk X.prog X.w X.K X.mg X.base (L2.CX X.prog X.w) k f fd ps sp) (hr : Room (k + 1) X.A) (hb : KBn X.K fd ps (n + 1) ks g gV)
    (gs : ∀ (x : V) (vs zs : List V), vs.length = n → zs.length = ks.length → gV (x :: vs) zs = x :: gR vs zs) (hx : PassesAt (L2.CX X.prog X.w) X σ E) (I : Inv X pins σ H s) (r : Vals vs us) (rz : Vals zs ws) (l1 : vs.length = n) (l2 : zs.length = ks.length)
    (h : spMk C sp (gR vs zs) H Q E) : wpAny (model X.prog X.w) X.A (call (.ref C) us (ks.zip ws)) (EP X pins σ Q) X.xe s := by
  have hq := h (s.heap.objs.size + 1) s.heap.objs.size (I.hok.fresh (Nat.le_succ _)) (I.hok.fresh (Nat.le_refl _)) (Nat.ne_of_lt (Nat.lt_succ_self _))
  rw [← gs (.ref (s.heap.objs.size + 1)) vs zs l1 l2] at hq
  have I2 := Inv.made (C := C) I
  have r1 : Vals (V.ref (s.heap.objs.size + 1) :: vs) (Value.ref (s.heap.objs.size + 1) :: us) := .cons rfl r
  have r2 := hb.rel r1 rz
  have n1 : (Value.ref (s.heap.objs.size + 1) :: us).length = n + 1 := by
    rw [List.length_cons, ← r.length, l1]
  refine wpAny_call (make_map (f := f) I.kIn M.makes M.init (beq_iff_eq.mp M.fn) (codeAny_mono (F.run _ X.stack _ _ ⟨Value.ref (s.heap.objs.size + 1) :: us, ks.zip ws⟩ (g (Value.ref (s.heap.objs.size + 1) :: us) ws) _ _ E (hr.make C us (ks.zip ws))
    (I2.env0.make C us (ks.zip ws)) (hb.to _ (Value.ref (s.heap.objs.size + 1) :: us) ws I2.kIn n1 (rz.length.symm.trans l2)) r2 hq) fun r s' hq' => ?_))
  cases r with
  | error e => exact hx pins _ _ e s' I2 hq'
  | ok fl =>
    cases fl with
    | ret u =>
      obtain ⟨v, H', I3, rv, ev, q3⟩ := I2.after hq'
      subst ev
      exact ⟨rv, ⟨V.ref (s.heap.objs.size + 1), H', I3, rfl, q3⟩⟩
    | next => exact False.elim hq'
    | brk => exact False.elim hq'
    | cont => exact False.elim hq'
/-- every parameter is written -/
theorem kbn_all {K : PySem.W.Frag} (hb : Binds K fd ps []) (n : Nat) (hn : n = ps.length) : KBn K fd ps n [] (fun us _ => us) (fun vs _ => vs) :=
  ⟨fun s us ws X l1 l2 => by
    have h := hb s us X (by rw [List.append_nil, l1, hn])
    rw [List.append_nil] at h
    exact h, fun r _ => r⟩
end
/-! defs by their names -/
section
variable {G : Fx} {e : Expr} {es : List Expr} {kws : List Keyword} {mA mK : ML} {pos p : Pos} {x : Str} {k j : Nat} {st : Stmt} {ps ks : List Str} {m cm : List D → Sto → R D}
theorem Tri.call {K : Kx} {m : List D → Sto → R D} {n : Nat} : Tri K (callD n m) (spD K m n) := Tri.sp
theorem se_callT (C : Cal G.X.prog G.X.w G.k G.X.mg G.X.base x st k ps m) (T : Tri G.k cm (spD G.k m ps.length)) (b : BindsOk x st ps) (hr : Room j G.X.A) (hj : k ≤ j) (hg : Gl G.X x) (ha : SA G (e :: es) mA)
    (hdb : (x == ("__debug__" : Str)) = false := by decide) (he : starEach (e :: es) G.X.env = (false, eval e G.X.env) :: starEach es G.X.env := by rfl) (hpl : (backTo pos (starEach es G.X.env)).any (·.1) = false := by rfl) :
    SE G (.Call (.Name x p) (e :: es) [] pos) (mL cm mA) := by
  obtain ⟨a, fd, F, hm, ok⟩ := C.ex
  exact pe_imp (pe_callS ok (hr.mono hj) hg hm F.kp (F.binds b) (passAt G.tk) ha hdb he hpl) fun σ H Q h => tA_1 h fun μ H S ds vs rs r q => T μ S H ds vs Q _ rs r q.fn
theorem se_callT0 (C : Cal G.X.prog G.X.w G.k G.X.mg G.X.base x st k ps m) (T : Tri G.k cm (spD G.k m ps.length)) (b : BindsOk x st ps) (hr : Room j G.X.A) (hj : k ≤ j) (hg : Gl G.X x) (hdb : (x == ("__debug__" : Str)) = false := by decide) :
    SE G (.Call (.Name x p) [] [] pos) (mL cm mNil) := by
  obtain ⟨a, fd, F, hm, ok⟩ := C.ex
  refine ⟨fun pins s σ H Q I h => ?_⟩
  obtain ⟨ρ, μ, S, at', q⟩ := h
  refine wpAny_Call_Name_kw (ld_glob I hg hm ?_ hdb)
  exact PySem.W.callWith_K0 I.kIn F.kp (run_fnS (us := []) (E := WE G.W) ok (hr.mono hj) (F.binds b) (passAt G.tk σ) I .nil (T μ S H [] [] Q _ at'.rs .nil q.fn))
/-- a local name that holds a def -/
structure Dsp (P : Program) (w : World) (K : Kx) (mg : Str → Option Value) (base : Heap) (j i n : Nat) (cm : List D → Sto → R D) : Prop where
  ex : ∃ (a : Addr) (fd : FuncData) (k : Nat) (ps : List Str) (sp : Sp), K.c[i]? = some a ∧ FnOk P w K.K mg base (L2.CX P w) k a fd ps sp ∧ k ≤ j ∧ PySem.W.keepIn K.K (.ref a) = true ∧ Binds K.K fd ps [] ∧ Tri K cm sp
def Dsps (P : Program) (w : World) (K : Kx) (mg : Str → Option Value) (base : Heap) (j n : Nat) (tab : List (Nat × (List D → Sto → R D))) : Prop := ∀ i cm, tab.lookup i = some cm → Dsp P w K mg base j i n cm
theorem Dsps.nil {P : Program} {w : World} {K : Kx} {mg : Str → Option Value} {base : Heap} {j n : Nat} : Dsps P w K mg base j n [] := fun _ _ h => nomatch h
theorem Dsps.cons {P : Program} {w : World} {K : Kx} {mg : Str → Option Value} {base : Heap} {j n i : Nat} {cm : List D → Sto → R D} {tab : List (Nat × (List D → Sto → R D))} (h : Dsp P w K mg base j i n cm) (t : Dsps P w K mg base j n tab) : Dsps P w K mg base j n ((i, cm) :: tab) := fun c' g' q => by
  rw [List.lookup_cons] at q
  split at q
  · rename_i hb
    cases q
    rw [eq_of_beq hb]; exact h
  · exact t c' g' q
theorem Cal.dsp {P : Program} {w : World} {K : Kx} {mg : Str → Option Value} {base : Heap} {i n : Nat} (C : Cal P w K mg base x st k ps m) (T : Tri K cm (spD K m ps.length)) (b : BindsOk x st ps) (hj : k ≤ j) {a : Addr} (hi : K.c[i]? = some a) (hm : mg x = some (.ref a)) : Dsp P w K mg base j i n cm := by
  obtain ⟨a', fd, F, hm', ok⟩ := C.ex
  rw [hm] at hm'; cases hm'
  exact ⟨a, fd, k, ps, _, hi, ok, hj, F.kp, F.binds b, T⟩
def mDsp (tab : List (Nat × (List D → Sto → R D))) (i : Nat) (mA : ML) : ME := fun ρ S => match ρ[i]? with
  | some (some (.adr c)) => match tab.lookup c with
    | some cm => (mA ρ S).bind fun ds S1 => cm ds S1
    | none => .stuck
  | _ => .stuck
theorem se_dsp (i : Nat) {n : Nat} {tab : List (Nat × (List D → Sto → R D))} (A : Dsps G.X.prog G.X.w G.k G.X.mg G.X.base j n tab) (hr : Room j G.X.A) (ha : SA G (e :: es) mA) (hN : G.X.N[i]? = some x := by rfl) (hv : Vis G.X.env.scope x := by first | exact Or.inl rfl | exact Or.inr (Or.inl rfl) | exact Or.inr (Or.inr rfl))
    (hdb : (x == ("__debug__" : Str)) = false := by decide) (hcd : (x == ("__classdict__" : Str)) = false := by decide)
    (he : starEach (e :: es) G.X.env = (false, eval e G.X.env) :: starEach es G.X.env := by rfl) (hpl : (backTo pos (starEach es G.X.env)).any (·.1) = false := by rfl) : SE G (.Call (.Name x p) (e :: es) [] pos) (mDsp tab i mA) := by
  refine ⟨fun pins s σ H Q I h => ?_⟩
  obtain ⟨ρ, μ, S, at', q⟩ := h
  unfold mDsp at q
  split at q
  rotate_left
  · exact q.elim
  rename_i c hc
  split at q
  rotate_left
  · exact q.elim
  rename_i cm hcm
  obtain ⟨v, hv1, rv⟩ := at'.re.2 i _ hc
  obtain ⟨a, fd, k, ps, sp, hi, F, hk, kp, hb, T⟩ := (A c cm hcm).ex
  cases rv with
  | @adr _ a' ha' =>
    rw [hi] at ha'; cases ha'
    refine wpAny_Call_Name_kw (thn ((pe_var (pos := p) hN hv hdb hcd).run pins s σ H (fun v H1 => v = .ref a ∧ H1 = H) I ⟨.ref a, hv1, rfl, rfl⟩) fun u s1 ⟨v, H1, I1, r1, q1⟩ => ?_)
    obtain ⟨rfl, rfl⟩ := q1
    cases r1
    refine PySem.W.callWith_K (h₀ := G.X.base) I.ok.mod.kin kp (thn (ha.run pos pins s1 σ _ (fun vs H2 => sp vs H2 Q (WE G.W σ)) I1 ⟨ρ, μ, S, at', po_1 (Rel := relDs G.g) at' q fun μ1 H1 S1 ds vs n a1 d1 q1 => T μ1 S1 H1 ds vs Q _ a1.rs d1 q1.fn⟩) fun us s2 ⟨vs, H2, I2, r, q⟩ => ⟨I2.kIn, ?_⟩) he hpl
    exact run_fnS (E := WE G.W) F (hr.mono hk) hb (passAt G.tk σ) I2 r q
end
/-! methods -/
structure Mtd (P : Program) (w : World) (K : Kx) (mg : Str → Option Value) (base : Heap) (j c : Nat) (name : Str) (cm : List D → Sto → R D) : Prop where
  ex : ∃ (C f : Addr) (fd : FuncData) (ps : List Str) (k : Nat) (sp : Sp), K.c[c]? = some C ∧ Cls K.K C ∧ Meth K.K C name f ∧ FnOk P w K.K mg base (L2.CX P w) k f fd ps sp ∧ k ≤ j ∧ Binds K.K fd ps [] ∧ Tri K cm sp
def Mtds (P : Program) (w : World) (K : Kx) (mg : Str → Option Value) (base : Heap) (j : Nat) (name : Str) (tab : List (Nat × (List D → Sto → R D))) : Prop := ∀ c cm, tab.lookup c = some cm → Mtd P w K mg base j c name cm
theorem Mtds.nil {P : Program} {w : World} {K : Kx} {mg : Str → Option Value} {base : Heap} {j : Nat} {name : Str} : Mtds P w K mg base j name [] := fun _ _ h => nomatch h
theorem Mtds.cons {P : Program} {w : World} {K : Kx} {mg : Str → Option Value} {base : Heap} {j c : Nat} {name : Str} {cm : List D → Sto → R D} {tab : List (Nat × (List D → Sto → R D))} (h : Mtd P w K mg base j c name cm) (t : Mtds P w K mg base j name tab) : Mtds P w K mg base j name ((c, cm) :: tab) := fun c' g' q => by
  rw [List.lookup_cons] at q
  split at q
  · rename_i hb
    cases q
    rw [eq_of_beq hb]; exact h
  · exact t c' g' q
def mMtd (name : Str) (tab : List (Nat × (List D → Sto → R D))) (mo : ME) (mA : ML) : ME := fun ρ S => (mo ρ S).bind fun o S1 => match insD S1 o with
  | some (c, ns, _) => if name ∈ ns then .stuck else match tab.lookup c with
    | some cm => (mA ρ S1).bind fun ds S2 => cm (o :: ds) S2
    | none => .stuck
  | none => .stuck
theorem lookup_zip_none {f : Str} : ∀ {ns : List Str} {vs : List V}, f ∉ ns → (ns.zip vs).lookup f = none
  | [], _, _ => by simp [List.lookup]
  | _ :: _, [], _ => by simp [List.lookup]
  | n :: ns, v :: vs, h => by
    rw [List.zip_cons_cons, List.lookup_cons]
    simp only [List.mem_cons, not_or] at h
    have : (f == n) = false := by simpa using h.1
    rw [this]
    exact lookup_zip_none h.2
section
variable {G : Fx} {o e : Expr} {es : List Expr} {mo : ME} {mA : ML} {pos apos p : Pos} {name : Str} {j : Nat} {tab : List (Nat × (List D → Sto → R D))}
theorem se_meth {pl : Sem Bool} (A : Mtds G.X.prog G.X.w G.k G.X.mg G.X.base j name tab) (hr : Room j G.X.A) (ho : SE G o mo) (ha : SA G (e :: es) mA)
    (hst : starEach (e :: es) G.X.env = (false, eval e G.X.env) :: starEach es G.X.env := by rfl) (hpl : (backTo pos (starEach es G.X.env)).any (·.1) = false := by rfl)
    (ht : eval (.Call (.Attribute o name apos) (e :: es) [] pos) G.X.env = (do
      let ov ← eval o G.X.env
      standAt apos.atName
      let (f, first) ← holding [ov] (getMethod ov name pl)
      callWith pos f first (backTo pos (starEach (e :: es) G.X.env)) (backToKw pos (keywordEach [] G.X.env))) := by rfl) :
    SE G (.Call (.Attribute o name apos) (e :: es) [] pos) (mMtd name tab mo mA) := by
  refine ⟨fun pins s σ H Q I h => ?_⟩
  obtain ⟨ρ, μ, S, at', q⟩ := h
  have h2 : tE G.g mo σ H fun x H1 => ∃ C f fd ps k sp a dx fs, x = .ref a ∧ H1 a = some (.ins C dx fs) ∧ Cls G.X.K C ∧ Meth G.X.K C name f ∧ FnOk G.X.prog G.X.w G.X.K G.X.mg G.X.base (L2.CX G.X.prog G.X.w) k f fd ps sp ∧ k ≤ j ∧ Binds G.X.K fd ps [] ∧ fs.lookup name = none ∧
      tA G.g mA σ H1 fun vs H2 => sp (.ref a :: vs) H2 Q (WE G.W σ) := by
    refine ⟨ρ, μ, S, at', po_1 at' q fun μ1 H1 S1 d v n1 a1 d1 q1 => ?_⟩
    split at q1
    rotate_left
    · exact q1.elim
    rename_i c ns ds hi
    split at q1
    · exact q1.elim
    rename_i hn
    split at q1
    rotate_left
    · exact q1.elim
    rename_i cm hcm
    obtain ⟨a, C, dx, vs, rfl, hc, hh, hl, rr⟩ := insD_ok a1.rs d1 hi
    obtain ⟨C', f, fd, ps, k, sp, hc', cl, me, F, hk, hb, T⟩ := (A c cm hcm).ex
    have hc2 : G.k.c[c]? = some C := hc
    rw [hc'] at hc2; cases hc2
    refine ⟨C, f, fd, ps, k, sp, a, dx, _, rfl, hh, cl, me, F, hk, hb, lookup_zip_none hn, ρ, μ1, S1, a1, po_1 (Rel := relDs G.g) a1 q1 fun μ2 H2 S2 es vs n2 a2 d2 q2 => ?_⟩
    exact T μ2 S2 H2 (d :: es) (.ref a :: vs) Q _ a2.rs (.cons (d1.mono n2) d2) q2.fn
  refine PySem.W.methodCall_KW (pl := pl) (thn (ho.run pins s σ H _ I h2) fun u s1 ⟨x, H1, I1, rx, C, f, fd, ps, k, sp, a, dx, fs, ex, ea, cl, me, F, hk, hb, l, q⟩ => ?_) ht
  subst ex
  obtain rfl : u = Value.ref a := rx
  refine getmeth_ok I1 ea cl me l ?_
  refine PySem.W.callWith_K (first := [.ref a]) (h₀ := G.X.base) I.ok.mod.kin me.kp (thn (ha.run pos pins s1 σ H1 _ I1 q) fun us s2 ⟨vs, H2, I2, r, q2⟩ => ⟨I2.kIn, ?_⟩) hst hpl
  exact run_fnS (us := .ref a :: us) (vs := .ref a :: vs) (E := WE G.W) F (hr.mono hk) hb (passAt G.tk σ) I2 (.cons rfl r) q2
theorem se_meth0 {pl : Sem Bool} (A : Mtds G.X.prog G.X.w G.k G.X.mg G.X.base j name tab) (hr : Room j G.X.A) (ho : SE G o mo)
    (ht : eval (.Call (.Attribute o name apos) [] [] pos) G.X.env = (do
      let ov ← eval o G.X.env
      standAt apos.atName
      let (f, first) ← holding [ov] (getMethod ov name pl)
      callWith pos f first (backTo pos (starEach [] G.X.env)) (backToKw pos (keywordEach [] G.X.env))) := by rfl) :
    SE G (.Call (.Attribute o name apos) [] [] pos) (mMtd name tab mo mNil) := by
  refine ⟨fun pins s σ H Q I h => ?_⟩
  obtain ⟨ρ, μ, S, at', q⟩ := h
  have h2 : tE G.g mo σ H fun x H1 => ∃ C f fd ps k sp a dx fs, x = .ref a ∧ H1 a = some (.ins C dx fs) ∧ Cls G.X.K C ∧ Meth G.X.K C name f ∧ FnOk G.X.prog G.X.w G.X.K G.X.mg G.X.base (L2.CX G.X.prog G.X.w) k f fd ps sp ∧ k ≤ j ∧ Binds G.X.K fd ps [] ∧ fs.lookup name = none ∧
      sp [.ref a] H1 Q (WE G.W σ) := by
    refine ⟨ρ, μ, S, at', po_1 at' q fun μ1 H1 S1 d v n1 a1 d1 q1 => ?_⟩
    split at q1
    rotate_left
    · exact q1.elim
    rename_i c ns ds hi
    split at q1
    · exact q1.elim
    rename_i hn
    split at q1
    rotate_left
    · exact q1.elim
    rename_i cm hcm
    obtain ⟨a, C, dx, vs, rfl, hc, hh, hl, rr⟩ := insD_ok a1.rs d1 hi
    obtain ⟨C', f, fd, ps, k, sp, hc', cl, me, F, hk, hb, T⟩ := (A c cm hcm).ex
    have hc2 : G.k.c[c]? = some C := hc
    rw [hc'] at hc2; cases hc2
    exact ⟨C, f, fd, ps, k, sp, a, dx, _, rfl, hh, cl, me, F, hk, hb, lookup_zip_none hn, T μ1 S1 H1 [d] [.ref a] Q _ a1.rs (.cons d1 .nil) q1.fn⟩
  refine PySem.W.methodCall_KW (pl := pl) (thn (ho.run pins s σ H _ I h2) fun u s1 ⟨x, H1, I1, rx, C, f, fd, ps, k, sp, a, dx, fs, ex, ea, cl, me, F, hk, hb, l, q⟩ => ?_) ht
  subst ex
  obtain rfl : u = Value.ref a := rx
  refine getmeth_ok I1 ea cl me l ?_
  exact PySem.W.callWith_K0 (first := [.ref a]) I1.kIn me.kp (run_fnS (us := [.ref a]) (vs := [.ref a]) (E := WE G.W) F (hr.mono hk) hb (passAt G.tk σ) I1 (.cons rfl .nil) q)
end
/-! new instances -/
/-- in the caller's store -/
def newD (c : Nat) (m : List D → Sto → R D) (ds : List D) (S : Sto) : R D := match m (.ref S.length :: ds) (S ++ [.ins c [] []]) with
  | .ok .non S1 => .ok (.ref S.length) S1
  | .exc c fs S1 => .exc c fs S1
  | _ => .stuck
theorem Tri.newD {K : Kx} {c : Nat} {C : Addr} {m : List D → Sto → R D} {sp : Sp} (hC : K.c[c]? = some C) (T : Tri K m sp) : Tri K (newD c m) (spMk C sp) := by
  intro μ S H ds vs Q E rs rd q x dx hx hdx ne
  have hx1 : upd H dx (.own x) x = none := by rw [upd_ne (fun z => ne z.symm)]; exact hx
  have n1 : Nx μ μ H (upd H dx (.own x)) := Nx.hardNew hdx
  have n2 : Nx μ (μ.add x) (upd H dx (.own x)) (upd (upd H dx (.own x)) x (.ins C dx [])) := Nx.new1 hx1
  have r1 : RS K (μ.add x) (S ++ [.ins c [] []]) (upd (upd H dx (.own x)) x (.ins C dx [])) := (rs.hardNew hdx).new1 hx1 ⟨C, dx, [], hC, upd_same, rfl, .nil⟩
  have hm : (μ.add x).m[S.length]? = some x := by simp [← rs.len]
  refine T (μ.add x) _ _ (.ref S.length :: ds) (.ref x :: vs) _ E r1 (.cons (.ref hm) (rd.mono (n1.trans n2))) ?_
  unfold Dn.newD at q
  revert q
  cases m (.ref S.length :: ds) (S ++ [.ins c [] []]) with
  | stuck => exact fun q => q
  | exc c2 fs S1 => exact fun q μ' H' d C2 n r xd hc => q μ' H' d C2 ((n1.trans n2).trans n) r xd hc
  | ok d S1 =>
    cases d <;> first | exact fun q => q.elim | skip
    intro q μ' H' v n r rv
    cases rv
    exact ⟨rfl, q μ' H' _ ((n1.trans n2).trans n) r (.ref (n.at hm))⟩
structure Cl1 (P : Program) (w : World) (K : Kx) (mg : Str → Option Value) (base : Heap) (x : Str) (c k : Nat) (ps : List Str) (m : List D → Sto → R D) : Prop where
  ex : ∃ (C f : Addr) (fd : FuncData), K.c[c]? = some C ∧ mg x = some (.ref C) ∧ Mk K.K C f ∧ FnOk P w K.K mg base (L2.CX P w) k f fd ps (spD K m ps.length) ∧ Binds K.K fd ps []
section
variable {G : Fx} {e : Expr} {es : List Expr} {mA : ML} {pos p : Pos} {x : Str} {c k j : Nat} {ps : List Str} {m cm : List D → Sto → R D}
theorem se_new (C : Cl1 G.X.prog G.X.w G.k G.X.mg G.X.base x c k ps m) (T : ∀ C sp, G.k.c[c]? = some C → Tri G.k (callD ps.length m) sp → Tri G.k cm (spMk C sp)) (hr : Room j G.X.A) (hj : k + 1 ≤ j) (hg : Gl G.X x) (ha : SA G (e :: es) mA)
    (hn : (e :: es).length + 1 = ps.length := by rfl) (hdb : (x == ("__debug__" : Str)) = false := by decide) (he : starEach (e :: es) G.X.env = (false, eval e G.X.env) :: starEach es G.X.env := by rfl) (hpl : (backTo pos (starEach es G.X.env)).any (·.1) = false := by rfl) :
    SE G (.Call (.Name x p) (e :: es) [] pos) (mL (fun ds S => if ds.length + 1 = ps.length then cm ds S else .stuck) mA) := by
  obtain ⟨C, f, fd, hc, hm, M, ok, hb⟩ := C.ex
  refine ⟨fun pins s σ H Q I h => ?_⟩
  refine wpAny_Call_Name_kw (ld_glob I hg hm ?_ hdb)
  have h2 : tA G.g mA σ H fun vs H1 => vs.length + 1 = ps.length ∧ spMk C (spD G.k m ps.length) vs H1 Q (WE G.W σ) := tA_1 h fun μ H S ds vs rs r q => by
    split at q
    · rename_i hl
      exact ⟨by rw [← r.length]; exact hl, T C _ hc Tri.sp μ S H ds vs Q _ rs r q.fn⟩
    · exact q.elim
  refine PySem.W.callWith_K (h₀ := G.X.base) I.ok.mod.kin M.kp (thn (ha.run pos pins s σ H _ I h2) fun us s1 ⟨vs, H1, I1, r, hl, q⟩ => ⟨I1.kIn, ?_⟩) he hpl
  exact run_mkAt (n := vs.length) (ks := []) (ws := []) (zs := []) (gR := fun vs _ => vs) M ok (hr.mono hj) (kbn_all hb _ hl) (fun _ _ _ _ _ => rfl) (passAt G.tk σ) I1 r .nil rfl rfl q
end
end Dn

set_option Elab.async false
set_option linter.all false
set_option maxRecDepth 100000
set_option maxHeartbeats 2000000
namespace Dn
open PySem PySem.Spec PyProof.Rows L2 RZ
/-! ## keywords -/
section
variable {X : Cx} {k n : Nat} {f : Addr} {fd : FuncData} {ps ks : List Str} {sp : Sp} {E : XK} {σ : L2.St} {H : Hp} {s : Shared} {Q : VK} {us ws : List Value} {vs zs : List V} {pins : List (Addr × Obj)}
theorem run_fnKAt {g : List Value → List Value → List Value} {gV : List V → List V → List V} (F : FnOk X.prog X.w X.K X.mg X.base (L2.CX X.prog X.w) k f fd ps sp) (hr : Room k X.A) (hb : KBn X.K fd ps n ks g gV) (hx : PassesAt (L2.CX X.prog X.w) X σ E)
    (I : Inv X pins σ H s) (r : Vals vs us) (rz : Vals zs ws) (l1 : vs.length = n) (l2 : zs.length = ks.length) (h : sp (gV vs zs) H Q E) : wpAny (model X.prog X.w) X.A (call (.ref f) us (ks.zip ws)) (EP X pins σ Q) X.xe s := by
  refine wpAny_call (codeAny_mono (F.run X.A X.stack s H ⟨us, ks.zip ws⟩ (g us ws) (gV vs zs) Q E hr I.env0 (hb.to s us ws I.kIn (r.length.symm.trans l1) (rz.length.symm.trans l2)) (hb.rel r rz) h) fun r s' hq => ?_)
  cases r with
  | error e => exact hx pins H s e s' I hq
  | ok fl =>
    cases fl with
    | ret u => exact I.after hq
    | next => exact False.elim hq
    | brk => exact False.elim hq
    | cont => exact False.elim hq
end
/-- how keywords come to parameters, for values and for trees -/
structure KwG (K : Kx) (fd : FuncData) (ps : List Str) (n : Nat) (ks : List Str) (gV : List V → List V → List V) (gD : List D → List D → List D) : Prop where
  b : ∃ g, KBn K.K fd ps n ks g gV
  d : ∀ {μ : Mp} {H : Hp} {ds : List D} {vs : List V} {es : List D} {ws : List V}, RDs K μ H ds vs → RDs K μ H es ws → RDs K μ H (gD ds es) (gV vs ws)
def mKwT (gD : List D → List D → List D) (cm : List D → Sto → R D) (n m : Nat) (mA mK : ML) : ME := fun ρ S => (mA ρ S).bind fun ds S1 => (mK ρ S1).bind fun es S2 => if ds.length = n ∧ es.length = m then cm (gD ds es) S2 else .stuck
section
variable {G : Fx} {e o : Expr} {es : List Expr} {kws : List Keyword} {mA mK : ML} {mo : ME} {pos p apos : Pos} {x name : Str} {k j n c : Nat} {st : Stmt} {ps ks : List Str} {m cm : List D → Sto → R D} {gV : List V → List V → List V} {gD : List D → List D → List D}
theorem tA_K {σ : L2.St} {H : Hp} {Q : VK} {T : Sp} (hT : Tri G.k cm T) (hd : ∀ {μ : Mp} {H : Hp} {ds : List D} {vs : List V} {es : List D} {ws : List V}, RDs G.k μ H ds vs → RDs G.k μ H es ws → RDs G.k μ H (gD ds es) (gV vs ws)) (h : tE G.g (mKwT gD cm n ks.length mA mK) σ H Q) :
    tA G.g mA σ H fun vs H1 => tA G.g mK σ H1 fun zs H2 => vs.length = n ∧ zs.length = ks.length ∧ T (gV vs zs) H2 Q (WE G.W σ) := by
  obtain ⟨ρ, μ, S, at', q⟩ := h
  refine ⟨ρ, μ, S, at', po_1 (Rel := relDs G.g) at' q fun μ1 H1 S1 ds vs n1 a1 d1 q1 => ?_⟩
  refine ⟨ρ, μ1, S1, a1, po_1 (Rel := relDs G.g) a1 q1 fun μ2 H2 S2 es ws n2 a2 d2 q2 => ?_⟩
  split at q2
  · rename_i hl
    have d1' := d1.mono n2
    exact ⟨by rw [← d1'.length]; exact hl.1, by rw [← d2.length]; exact hl.2, hT μ2 S2 H2 _ _ Q _ a2.rs (hd d1' d2) q2.fn⟩
  · exact q2.elim
/-- f(e, .., k = v, ..) -/
theorem se_callKT (C : Cal G.X.prog G.X.w G.k G.X.mg G.X.base x st k ps m) (T : Tri G.k cm (spD G.k m ps.length)) (b : ∀ a fd, Fun G.X.K x x st a fd → KwG G.k fd ps n ks gV gD) (hr : Room j G.X.A) (hj : k ≤ j) (hg : Gl G.X x) (ha : SA G (e :: es) mA) (hkw : SK G kws mK)
    (hall : (backToKw pos (keywordEach kws G.X.env)).all (·.1.isSome) = true := by rfl) (hks : (backToKw pos (keywordEach kws G.X.env)).filterMap (·.1) = ks := by rfl) (hdb : (x == ("__debug__" : Str)) = false := by decide)
    (he : starEach (e :: es) G.X.env = (false, eval e G.X.env) :: starEach es G.X.env := by rfl) (hpl : ((backTo pos (starEach (e :: es) G.X.env)).any (·.1) || (backToKw pos (keywordEach kws G.X.env)).any (·.1.isNone)) = false := by rfl) :
    SE G (.Call (.Name x p) (e :: es) kws pos) (mKwT gD cm n ks.length mA mK) := by
  obtain ⟨a, fd, F, hm, ok⟩ := C.ex
  obtain ⟨⟨g, hb⟩, hd⟩ := b a fd F
  refine ⟨fun pins s σ H Q I h => ?_⟩
  refine wpAny_Call_Name_kw (ld_glob I hg hm ?_ hdb)
  refine PySem.W.callWith_KW (h₀ := G.X.base) I.ok.mod.kin F.kp hall (thn (ha.run pos pins s σ H _ I (tA_K T hd h)) fun us s1 ⟨vs, H1, I1, r, q⟩ => ?_) hpl he
  refine thn (hkw.run pos pins s1 σ H1 _ I1 q) fun ws s2 ⟨zs, H2, I2, rz, l1, l2, q2⟩ => ⟨I2.kIn, ?_⟩
  rw [hks]
  exact run_fnKAt ok (hr.mono hj) hb (passAt G.tk σ) I2 r rz l1 l2 q2
/-- f(k = v, ..) -/
theorem se_callK0 (C : Cal G.X.prog G.X.w G.k G.X.mg G.X.base x st k ps m) (T : Tri G.k cm (spD G.k m ps.length)) (b : ∀ a fd, Fun G.X.K x x st a fd → KwG G.k fd ps 0 ks gV gD) (hr : Room j G.X.A) (hj : k ≤ j) (hg : Gl G.X x) (hkw : SK G kws mK)
    (hall : (backToKw pos (keywordEach kws G.X.env)).all (·.1.isSome) = true := by rfl) (hks : (backToKw pos (keywordEach kws G.X.env)).filterMap (·.1) = ks := by rfl) (hdb : (x == ("__debug__" : Str)) = false := by decide)
    (hpl : ((backTo pos (starEach [] G.X.env)).any (·.1) || (backToKw pos (keywordEach kws G.X.env)).any (·.1.isNone)) = false := by rfl) :
    SE G (.Call (.Name x p) [] kws pos) (mKwT gD cm 0 ks.length mNil mK) := by
  obtain ⟨a, fd, F, hm, ok⟩ := C.ex
  obtain ⟨⟨g, hb⟩, hd⟩ := b a fd F
  refine ⟨fun pins s σ H Q I h => ?_⟩
  refine wpAny_Call_Name_kw (ld_glob I hg hm ?_ hdb)
  refine PySem.W.callWith_KW0 (h₀ := G.X.base) I.ok.mod.kin F.kp hall ?_ hpl
  have h2 : tA G.g mK σ H fun zs H2 => zs.length = ks.length ∧ spD G.k m ps.length (gV [] zs) H2 Q (WE G.W σ) := by
    obtain ⟨ρ, μ, S, at', q⟩ := h
    refine ⟨ρ, μ, S, at', po_1 (Rel := relDs G.g) at' q fun μ1 H1 S1 es ws n1 a1 d1 q1 => ?_⟩
    have q2 : Po G.g (relD G.g) μ1 H1 σ Q (if ([] : List D).length = 0 ∧ es.length = ks.length then cm (gD [] es) S1 else .stuck) := q1
    split at q2
    · rename_i hl
      exact ⟨by rw [← d1.length]; exact hl.2, T μ1 S1 H1 _ _ Q _ a1.rs (hd .nil d1) q2.fn⟩
    · exact q2.elim
  refine thn (hkw.run pos pins s σ H _ I h2) fun ws s2 ⟨zs, H2, I2, rz, l2, q2⟩ => ⟨I2.kIn, ?_⟩
  rw [hks]
  exact run_fnKAt (vs := []) ok (hr.mono hj) hb (passAt G.tk σ) I2 .nil rz rfl l2 q2
/-- C(e, .., k = v, ..) -/
structure ClK (P : Program) (w : World) (K : Kx) (mg : Str → Option Value) (base : Heap) (x : Str) (c k n : Nat) (ps ks : List Str) (m : List D → Sto → R D) (gV gR : List V → List V → List V) (gD : List D → List D → List D) : Prop where
  ex : ∃ (C f : Addr) (fd : FuncData) (g : List Value → List Value → List Value), K.c[c]? = some C ∧ mg x = some (.ref C) ∧ Mk K.K C f ∧ FnOk P w K.K mg base (L2.CX P w) k f fd ps (spD K m ps.length) ∧ KBn K.K fd ps (n + 1) ks g gV
  gs : ∀ (x : V) (vs zs : List V), vs.length = n → zs.length = ks.length → gV (x :: vs) zs = x :: gR vs zs
  d : ∀ {μ : Mp} {H : Hp} {ds : List D} {vs : List V} {es : List D} {ws : List V}, RDs K μ H ds vs → RDs K μ H es ws → RDs K μ H (gD ds es) (gR vs ws)
theorem se_newK {gR : List V → List V → List V} (C : ClK G.X.prog G.X.w G.k G.X.mg G.X.base x c k n ps ks m gV gR gD) (T : ∀ C sp, G.k.c[c]? = some C → Tri G.k (callD ps.length m) sp → Tri G.k cm (spMk C sp)) (hr : Room j G.X.A) (hj : k + 1 ≤ j) (hg : Gl G.X x) (ha : SA G (e :: es) mA) (hkw : SK G kws mK)
    (hall : (backToKw pos (keywordEach kws G.X.env)).all (·.1.isSome) = true := by rfl) (hks : (backToKw pos (keywordEach kws G.X.env)).filterMap (·.1) = ks := by rfl) (hdb : (x == ("__debug__" : Str)) = false := by decide)
    (he : starEach (e :: es) G.X.env = (false, eval e G.X.env) :: starEach es G.X.env := by rfl) (hpl : ((backTo pos (starEach (e :: es) G.X.env)).any (·.1) || (backToKw pos (keywordEach kws G.X.env)).any (·.1.isNone)) = false := by rfl) :
    SE G (.Call (.Name x p) (e :: es) kws pos) (mKwT gD cm n ks.length mA mK) := by
  obtain ⟨C0, f, fd, g, hc, hm, M, ok, hb⟩ := C.ex
  refine ⟨fun pins s σ H Q I h => ?_⟩
  refine wpAny_Call_Name_kw (ld_glob I hg hm ?_ hdb)
  refine PySem.W.callWith_KW (h₀ := G.X.base) I.ok.mod.kin M.kp hall (thn (ha.run pos pins s σ H _ I (tA_K (gV := gR) (T C0 _ hc Tri.sp) C.d h)) fun us s1 ⟨vs, H1, I1, r, q⟩ => ?_) hpl he
  refine thn (hkw.run pos pins s1 σ H1 _ I1 q) fun ws s2 ⟨zs, H2, I2, rz, l1, l2, q2⟩ => ⟨I2.kIn, ?_⟩
  rw [hks]
  exact run_mkAt M ok (hr.mono hj) hb C.gs (passAt G.tk σ) I2 r rz l1 l2 q2
/-- C(e, ..), the keyword-only parameters lack -/
theorem se_newP {gR : List V → List V → List V} (C : ClK G.X.prog G.X.w G.k G.X.mg G.X.base x c k n ps [] m gV gR gD) (T : ∀ C sp, G.k.c[c]? = some C → Tri G.k (callD ps.length m) sp → Tri G.k cm (spMk C sp)) (hr : Room j G.X.A) (hj : k + 1 ≤ j) (hg : Gl G.X x) (ha : SA G (e :: es) mA)
    (hdb : (x == ("__debug__" : Str)) = false := by decide) (he : starEach (e :: es) G.X.env = (false, eval e G.X.env) :: starEach es G.X.env := by rfl) (hpl : (backTo pos (starEach es G.X.env)).any (·.1) = false := by rfl) :
    SE G (.Call (.Name x p) (e :: es) [] pos) (mKwT gD cm n 0 mA mNil) := by
  obtain ⟨C0, f, fd, g, hc, hm, M, ok, hb⟩ := C.ex
  refine ⟨fun pins s σ H Q I h => ?_⟩
  refine wpAny_Call_Name_kw (ld_glob I hg hm ?_ hdb)
  have h2 := tA_K (ks := []) (gV := gR) (T C0 _ hc Tri.sp) C.d h
  have h3 : tA G.g mA σ H fun vs H1 => vs.length = n ∧ spMk C0 (spD G.k m ps.length) (gR vs []) H1 Q (WE G.W σ) := by
    obtain ⟨ρ, μ, S, at', q⟩ := h
    refine ⟨ρ, μ, S, at', po_1 (Rel := relDs G.g) at' q fun μ1 H1 S1 ds vs n1 a1 d1 q1 => ?_⟩
    have q2 : Po G.g (relD G.g) μ1 H1 σ Q (if ds.length = n ∧ ([] : List D).length = 0 then cm (gD ds []) S1 else .stuck) := q1
    split at q2
    · rename_i hl
      exact ⟨by rw [← d1.length]; exact hl.1, T C0 _ hc Tri.sp μ1 S1 H1 _ _ Q _ a1.rs (C.d d1 .nil) q2.fn⟩
    · exact q2.elim
  refine PySem.W.callWith_K (h₀ := G.X.base) I.ok.mod.kin M.kp (thn (ha.run pos pins s σ H _ I h3) fun us s1 ⟨vs, H1, I1, r, l1, q⟩ => ⟨I1.kIn, ?_⟩) he hpl
  exact run_mkAt (ks := []) (ws := []) (zs := []) M ok (hr.mono hj) hb C.gs (passAt G.tk σ) I1 r .nil l1 rfl q
end
end Dn

set_option Elab.async false
set_option linter.all false
set_option maxRecDepth 100000
set_option maxHeartbeats 2000000
namespace Dn
open PySem PySem.Spec PyProof.Rows L2
/-! Own exceptions: made, raised. -/
/-- def __init__(self, f): self.f = f -/
def initSp (C : Addr) (f : Str) : Sp := fun vs H Q _ => ∃ (a : Addr) (v : V), vs = [.ref a, v] ∧ H a = some (exo a C none) ∧ ∀ dx, H dx = none → dx ≠ a → Q .non (upd (upd H dx (exd dx [(f, v)])) a (exo a C (some dx)))
theorem init_ok {P : Program} {w : World} {K : PySem.W.Frag} {mg : Str → Option Value} {base : Heap} {qual f : Str} {st : Stmt} {fI C : Addr} {fd : FuncData} {k : Nat} {p1 p2 p3 p4 : Pos} (F : Fun K "__init__" qual st fI fd) (S : FnScope ["self", f] ["self", f] (defScope st)) (T : OexC K C) (hno : PySem.W.findIn K (.ref C) f = some none)
    (hbody : defBody st = [.Assign [.Attribute (.Name "self" p1) f p2] (.Name f p3) p4]) (hd : (f == ("__debug__" : Str)) = false := by decide) (hcd : (f == ("__classdict__" : Str)) = false := by decide)
    (hv1 : Vis (defScope st) "self" := by first | exact Or.inl rfl | exact Or.inr (Or.inl rfl) | exact Or.inr (Or.inr rfl)) (hv2 : Vis (defScope st) f := by first | exact Or.inl rfl | exact Or.inr (Or.inl rfl) | exact Or.inr (Or.inr rfl))
    (hsw : ∀ env : Env, env.scope = defScope st → swapsWith (.Name f p3) (some (.Attribute (.Name "self" p1) f p2)) p4.line env = pure false := by intro env h; rfl) :
    FnOk P w K mg base CX0 (k + 1) fI fd ["self", f] (initSp C f) := by
  refine F.ok S (fun vs H Q E h => ?_) (fun cdv A outer s H vs Q E hr h => ?_)
  · obtain ⟨a, v, rfl, _⟩ := h
    rfl
  · obtain ⟨a, v, rfl, e, q⟩ := h
    rw [hbody]
    refine ⟨_, pss_one (ps_ost (pe_var (i := 0) rfl hv1) (pe_var (i := 1) rfl hv2 hd hcd) (hsw _ rfl)), ?_⟩
    exact ⟨v, rfl, .ref a, rfl, a, C, rfl, T, hno, .inl ⟨e, fun dx h1 h2 => q dx h1 h2⟩⟩
/-- raise C(e) -/
def sRaise (c : Nat) (f : Str) (ma : ME) : MS := fun ρ S => (ma ρ S).to ρ fun d S1 => .ex c [(f, d)] ρ S1
section
variable {G : Fx} {e : Expr} {ma : ME} {pos pos' p : Pos} {x f : Str} {C fI : Addr} {fd : FuncData} {k : Nat}
theorem ss_raise {c : Nat} (hC : G.k.c[c]? = some C) (hc : G.X.calm = true) (T : OexC G.X.K C) (iC : PySem.W.findIn G.X.K (.ref C) "__init__" = some (some (.ref fI))) (tI : PySem.W.typeIn G.X.K (.ref fI) = some (.type "function"))
    (F1 : FnOk G.X.prog G.X.w G.X.K G.X.mg G.X.base CX0 k fI fd ["self", f] (initSp C f)) (hr : Room (k + 1) G.X.A) (hb : Binds G.X.K fd ["self", f] []) (hg : Gl G.X x) (hm : G.X.mg x = some (.ref C)) (ha : SE G e ma)
    (hdb : (x == ("__debug__" : Str)) = false := by decide) (he : starEach [e] G.X.env = (false, eval e G.X.env) :: starEach [] G.X.env := by rfl) (hpl : (backTo pos (starEach [] G.X.env)).any (·.1) = false := by rfl) :
    SS G (.Raise (some (.Call (.Name x p) [e] [] pos)) none pos') (sRaise c f ma) :=
  ps_imp (ps_raise hc G.tk (pmk_oex T iC tI F1 hr hb .nil pass0 hg hm (pa_cons ha pa_nil he) hdb he hpl)) fun D σ H h => by
    obtain ⟨ρ, μ, S, at', q⟩ := h
    have q1 := Po.to (Rel := relD G.g) at'.re q
    refine ⟨ρ, μ, S, at', Po.mono (fun b H1 h1 => ?_) q1⟩
    obtain ⟨d, μ1, S1, n1, r1, d1, q2⟩ := h1
    refine ⟨by simp, fun a ha => ⟨a, b, rfl, upd_same, fun dx h1 h2 => ?_⟩⟩
    have hdx : H1 dx = none := by rw [upd_ne h2] at h1; exact h1
    refine ⟨rfl, dx, [(f, b)], upd_same, ?_, hdx, ?_⟩
    · rw [upd_ne h2, upd_same]
    · have e : upd (del (upd (upd (upd H1 a (exo a C none)) dx (exd dx [(f, b)])) a (exo a C (some dx))) a) dx (.xd [(f, b)]) = upd H1 dx (.xd [(f, b)]) := by
        funext c
        by_cases c1 : c = dx
        · subst c1; rw [upd_same, upd_same]
        · rw [upd_ne c1, upd_ne c1]
          by_cases c2 : c = a
          · subst c2; rw [del_same, ha]
          · rw [del_ne c2, upd_ne c2, upd_ne c1, upd_ne c2]
      rw [e]
      exact q2 μ1 _ σ dx C (Nx.hardNew hdx) (r1.hardNew hdx) (at'.re.mono (n1.trans (Nx.hardNew hdx))) ⟨[(f, b)], upd_same, rfl, .cons (d1.mono (Nx.hardNew (μ := μ1) hdx)) .nil⟩ hC
end
end Dn

set_option Elab.async false
set_option linter.all false
set_option maxRecDepth 100000
set_option maxHeartbeats 2000000
namespace Dn
open PySem PySem.Spec PyProof.Rows L2
/-! try: body, except c as n: suite -/
def wipeF (i : Nat) : F → F
  | .nx ρ S => .nx (ρ.set i none) S
  | .bk ρ S => .bk (ρ.set i none) S
  | .ct ρ S => .ct (ρ.set i none) S
  | .rt d S => .rt d S
  | .ex _ _ _ _ => .stuck
  | .stuck => .stuck
def sTryAs (mt : Nat → Option Bool) (i : Nat) (mb : MS) (ms : Nat → List (Str × D) → Addr → MS) : MS := fun ρ S => match mb ρ S with
  | .ex C fs ρ1 S1 => match mt C with
    | some true => if i < ρ1.length then wipeF i (ms C fs 0 (ρ1.set i (some (.raw 0))) S1) else .stuck
    | some false => .ex C fs ρ1 S1
    | none => .stuck
  | r => r
theorem RE.wipe1 {K : Kx} {μ : Mp} {H : Hp} {ρ : Ev} {σ : L2.St} (r : RE K μ H ρ σ) (i : Nat) : RE K μ H (ρ.set i none) (σ.set i none) := by
  refine ⟨by simp [r.1], fun j e q => ?_⟩
  by_cases hj : i = j
  · subst hj
    by_cases hl : i < ρ.length
    · rw [List.getElem?_set_self hl] at q; cases q
    · rw [List.getElem?_eq_none (by simpa using hl)] at q; cases q
  · rw [List.getElem?_set_ne hj] at q
    rw [List.getElem?_set_ne hj]
    exact r.2 j e q
/-- an exception's own dict stands at d and nothing changes it -/
structure XP (K : Kx) (μ : Mp) (H : Hp) (d : Option Addr) (fs : List (Str × D)) : Prop where
  ex : ∃ (dd : Addr) (vs : List (Str × V)), d = some dd ∧ dd ∉ μ.m ∧ H dd = some (.xd vs) ∧ vs.map (·.1) = fs.map (·.1) ∧ RDs K μ H (fs.map (·.2)) (vs.map (·.2))
theorem XP.nx {K : Kx} {μ μ' : Mp} {H H' : Hp} {d : Option Addr} {fs : List (Str × D)} (h : XP K μ H d fs) (n : Nx μ μ' H H') : XP K μ' H' d fs := by
  obtain ⟨dd, vs, e, nm, hd, h1, h2⟩ := h.ex
  exact ⟨dd, vs, e, fun z => (n.new dd z).elim nm (fun z => by rw [hd] at z; cases z), n.keep _ _ hd nm, h1, h2.mono n⟩
/-- what is told in a suite: the exception's own dict at d -/
def sugx (G : Fx) (d : Option Addr) (fs : List (Str × D)) : Gx where
  K := G.k
  W := fun _ _ _ _ => False
  pin := fun μ H => G.pin μ H ∧ XP G.k μ H d fs
  pinK := fun μ μ' H H' n h => ⟨G.pinK _ _ _ _ n h.1, h.2.nx n⟩
def sufx (G : Fx) (a : Addr) (oe : Obj) (pn : List (Addr × Obj)) (d : Option Addr) (fs : List (Str × D)) : Fx where
  X := G.X.suite a ((a, oe) :: pn)
  cl := G.cl
  cnd := G.cnd
  W := fun _ _ _ _ => False
  tk := fun u s' x => by
    obtain ⟨_, _, _, _, _, _, _, _, _, _, _, _, _, _, _, _, w⟩ := x
    exact w.elim
  pin := (sugx G d fs).pin
  pinK := (sugx G d fs).pinK
abbrev trfx (G : Fx) (W : WX) (pn : List (Addr × Obj)) (xe : Value → Shared → Prop) (tk : Takes (G.X.tr pn xe) W) : Fx := ⟨G.X.tr pn xe, G.cl, G.cnd, W, tk, G.pin, G.pinK⟩
section
variable {G : Fx} {body suite : List Stmt} {b₀ : Stmt} {x n : Str} {c : Value} {i : Nat} {np pos pos' : Pos} {mt : Nat → Option Bool} {mb : MS} {ms : Nat → List (Str × D) → Addr → MS}
theorem ss_try_as (hs : G.X.stack = G.X.env :: G.X.outer) (hf : G.X.env.frame = some G.X.env.locals) (hN : G.X.N.Nodup) (hi : G.X.N[i]? = some n) (hln : G.X.env.kindOf n = some .local) (hc : Names G.X x c)
    (hmt : ∀ k b C, mt k = some b → G.cl[k]? = some C → PySem.W.exmOne G.X.K (.ref C) c = some b)
    (hb : ∀ (W : WX) (pn : List (Addr × Obj)) (xe : Value → Shared → Prop) (tk : Takes (G.X.tr pn xe) W), PassesOwn (model G.X.prog G.X.w) G.X.A G.X.env xe → SSs (trfx G W pn xe tk) body mb)
    (hsu : ∀ (a : Addr) (oe : Obj) (k : Nat) (C : Addr) (d : Option Addr) (fs : List (Str × D)) (pn : List (Addr × Obj)), G.cl[k]? = some C → Zc (.ref C) d oe → (∃ vs, oe.data = .fields vs) → mt k = some true → SSs (sufx G a oe pn d fs) (b₀ :: suite) (ms k fs a))
    (hpar : ∀ C fs a (ρ : Ev) S, i < ρ.length → mt C = some true → wipeF i (ms C fs a (ρ.set i (some (.raw a))) S) = wipeF i (ms C fs 0 (ρ.set i (some (.raw 0))) S)) :
    SS G (.Try body [.ExceptHandler (some (.Name x np)) (some n) (b₀ :: suite) pos'] [] [] pos) (sTryAs mt i mb ms) :=
  ps_imp (ps_try_as (i := i) (tb := fun W => tS ⟨G.k, W, G.pin, G.pinK⟩ mb) (ts := fun a cls d D σ H => ∃ k C fs, cls = .ref C ∧ G.cl[k]? = some C ∧ mt k = some true ∧ tS (sugx G d fs) (ms k fs a) D σ H) (Wout := G.W) hs hf hN hi hln hc G.tk
    (fun W pn xe tk hp => hb W pn xe tk hp)
    (fun a oe cls d pn hz hd => ⟨fun pins s σ H D I h => by
      obtain ⟨k, C, fs, rfl, hk, hm, h⟩ := h
      exact (hsu a oe k C d fs pn hk hz hd hm).run pins s σ H D I h⟩)) fun D σ H h => by
    obtain ⟨ρ, μ, S, at', q⟩ := h
    refine ⟨ρ, μ, S, ⟨at'.re, at'.rs, at'.pin⟩, ?_⟩
    unfold sTryAs at q
    revert q
    cases mb ρ S with
    | nx ρ1 S1 => exact fun q => q
    | bk ρ1 S1 => exact fun q => q
    | ct ρ1 S1 => exact fun q => q
    | rt d1 S1 => exact fun q => q
    | stuck => exact fun q => q
    | ex C fs ρ1 S1 =>
      intro q μ1 H1 σ1 d Ca n1 r1 e1 xd hCa
      dsimp only at q
      cases hm : mt C with
      | none => rw [hm] at q; exact q.elim
      | some b =>
        rw [hm] at q
        refine ⟨b, hmt C b Ca hm hCa, fun hb1 a na => ?_, fun hb1 => ?_⟩
        · subst hb1
          dsimp only at q
          by_cases hl : i < ρ1.length
          · rw [if_pos hl, ← hpar C fs a ρ1 S1 hl hm] at q
            obtain ⟨vs, h1, h2, h3⟩ := xd.ex
            have nm : d ∉ μ1.m := fun z => by
              obtain ⟨k, hk⟩ := List.getElem?_of_mem z
              obtain ⟨o, _, ho⟩ := r1.atA hk
              cases o with
              | lst ds => obtain ⟨w, h, _⟩ := ho; rw [h1] at h; cases h
              | ins C' ns' fs' => obtain ⟨w, w2, w3, _, h, _⟩ := ho; rw [h1] at h; cases h
              | dk ds => obtain ⟨w, h, _⟩ := ho; rw [h1] at h; cases h
              | dt ds => obtain ⟨w, h, _⟩ := ho; rw [h1] at h; cases h
              | hid => obtain ⟨w, w2, h⟩ := ho; rw [h1] at h; cases h
            refine ⟨C, Ca, fs, rfl, hCa, hm, ρ1.set i (some (.raw a)), μ1, S1, ⟨e1.set i (.raw a), r1, G.pinK _ _ _ _ n1 at'.pin, ⟨d, vs, rfl, nm, h1, h2, h3⟩⟩, ?_⟩
            revert q
            cases ms C fs a (ρ1.set i (some (.raw a))) S1 with
            | nx ρ2 S2 => exact fun q μ2 H2 σ2 n2 r2 e2 => q μ2 H2 _ (n1.trans n2) r2 (e2.wipe1 i)
            | bk ρ2 S2 => exact fun q μ2 H2 σ2 n2 r2 e2 => q μ2 H2 _ (n1.trans n2) r2 (e2.wipe1 i)
            | ct ρ2 S2 => exact fun q μ2 H2 σ2 n2 r2 e2 => q μ2 H2 _ (n1.trans n2) r2 (e2.wipe1 i)
            | rt d2 S2 => exact fun q μ2 H2 v n2 r2 e2 => q μ2 H2 v (n1.trans n2) r2 e2
            | ex c2 f2 ρ2 S2 => exact fun q => q.elim
            | stuck => exact fun q => q.elim
          · rw [if_neg hl] at q; exact q.elim
        · subst hb1
          exact q μ1 H1 σ1 d Ca n1 r1 e1 xd hCa
end
end Dn

set_option Elab.async false
set_option linter.all false
set_option maxRecDepth 100000
set_option maxHeartbeats 2000000
namespace Dn
open PySem PySem.Spec PyProof.Rows L2
/-! a caught exception's field -/
theorem RDs.look {K : Kx} {μ : Mp} {H : Hp} {f : Str} {d : D} : ∀ {fs : List (Str × D)} {vs : List (Str × V)}, vs.map (·.1) = fs.map (·.1) → RDs K μ H (fs.map (·.2)) (vs.map (·.2)) → fs.lookup f = some d → ∃ v, vs.lookup f = some v ∧ RD K μ H d v
  | [], [], _, _, h => by cases h
  | (x, y) :: fs, (z, u) :: vs, e, r, h => by
    simp only [List.map_cons, List.cons.injEq] at e
    obtain ⟨rfl, e⟩ := e
    cases r with
    | cons r0 r1 =>
      rw [List.lookup_cons] at h
      rw [List.lookup_cons]
      cases c : f == z with
      | true => rw [c] at h; cases h; exact ⟨u, rfl, r0⟩
      | false => rw [c] at h; exact RDs.look e r1 h
  | [], _ :: _, e, _, _ => by simp at e
  | _ :: _, [], e, _, _ => by simp at e
def mXf (i : Nat) (a : Addr) (fs : List (Str × D)) (f : Str) : ME := fun ρ S => match ρ[i]? with
  | some (some (.raw b)) => if b = a then (match fs.lookup f with | some d => .ok d S | none => .stuck) else .stuck
  | _ => .stuck
section
variable {G : Fx} {a C : Addr} {oe : Obj} {pn : List (Addr × Obj)} {d : Option Addr} {fs : List (Str × D)} {f x : Str} {p pos : Pos}
theorem se_xf (i : Nat) (T : XfC G.X.K C) (hno : PySem.W.findIn G.X.K (.ref C) f = some none) (hz : Zc (.ref C) d oe) (hf : ∃ vs, oe.data = .fields vs) (hN : G.X.N[i]? = some x := by rfl) (hv : Vis G.X.env.scope x := by first | exact Or.inl rfl | exact Or.inr (Or.inl rfl) | exact Or.inr (Or.inr rfl)) (hd : (x == ("__debug__" : Str)) = false := by decide)
    (hcd : (x == ("__classdict__" : Str)) = false := by decide) (hb : attributeBase (.Name x p) f G.X.env (eval (.Name x p) G.X.env) = eval (.Name x p) G.X.env := by rfl) : SE (sufx G a oe pn d fs) (.Attribute (.Name x p) f pos) (mXf i a fs f) :=
  pe_imp (pe_xf (X := G.X) T hno hz hf (pe_var (X := G.X.suite a ((a, oe) :: pn)) (i := i) hN hv hd hcd) hb) fun σ H Q h => by
    obtain ⟨ρ, μ, S, at', q⟩ := h
    unfold mXf at q
    cases e : ρ[i]? with
    | none => rw [e] at q; exact q.elim
    | some o =>
      cases o with
      | none => rw [e] at q; exact q.elim
      | some dd =>
        rw [e] at q
        obtain ⟨v, hv, r⟩ := at'.re.2 i dd e
        cases r with
        | raw b =>
          dsimp only at q
          by_cases hb : b = a
          · rw [if_pos hb] at q
            subst hb
            cases l : fs.lookup f with
            | none => rw [l] at q; exact q.elim
            | some y =>
              rw [l] at q
              obtain ⟨_, xp⟩ := at'.pin
              obtain ⟨d0, vs, e1, _, e2, e3, e4⟩ := xp.ex
              obtain ⟨u, l2, r2⟩ := RDs.look e3 e4 l
              exact ⟨.ref b, hv, rfl, rfl, d0, vs, u, e1, e2, l2, q μ H u (Nx.refl μ H) at'.rs r2⟩
          · rw [if_neg hb] at q; exact q.elim
        | _ => exact q.elim
end
end Dn

set_option Elab.async false
set_option linter.all false
set_option maxRecDepth 100000
set_option maxHeartbeats 2000000
namespace Dn
open PySem PySem.Spec PyProof.Rows L2 RZ
/-! ## methods of lists and tuples -/
section
variable {G : Fx} {o e : Expr} {es : List Expr} {mo : ME} {mA : ML} {pos apos : Pos} {name : Str} {T id : String}
theorem MtR.or {X : Cx} {r r' : V → List V → Hp → VK → Prop} (h : MtR X id r) (h' : MtR X id r') : MtR X id (fun x xs H Q => r x xs H Q ∨ r' x xs H Q) := fun pins s σ H x xs v us Q I rx rs q => by
  rcases q with q | q
  · exact h pins s σ H x xs v us Q I rx rs q
  · exact h' pins s σ H x xs v us Q I rx rs q
/-- o.m() of a built-in value -/
def mMeth0 (T : String) (f : D → List D → Sto → R D) (mo : ME) : ME := fun ρ S => (mo ρ S).bind fun o S1 => if tyIs T S1 o then f o [] S1 else .stuck
theorem se_bm0 {r : V → List V → Hp → VK → Prop} {f : D → List D → Sto → R D} (pa : PlainAttrs T) (slot : Slot T name id) (hty : typeOf (.builtin id) = pure (.type "method_descriptor")) (hm : MtR G.X id r) (hf : MethS G r f) (ho : SE G o mo)
    (hbase : attributeBase o name G.X.env (eval o G.X.env) = eval o G.X.env := by rfl) (hline : (apos.endLine == pos.line) = true := by rfl) : SE G (.Call (.Attribute o name apos) [] [] pos) (mMeth0 T f mo) :=
  pe_imp (pe_bm0 pa slot hty hm ho hbase hline) fun σ H Q h => by
    obtain ⟨ρ, μ, S, at', q⟩ := h
    refine ⟨ρ, μ, S, at', po_1 at' q fun μ1 H1 S1 d v n a1 d1 q1 => ?_⟩
    split at q1
    · rename_i ht
      exact ⟨tyIs_ok a1.rs d1 ht, hf μ1 H1 σ S1 d v [] [] Q a1.rs d1 .nil q1⟩
    · exact q1.elim
/-! of tuples -/
def isTup : D → Bool
  | .tup _ => true
  | _ => false
theorem isTup_ok {K : Kx} {μ : Mp} {H : Hp} {d : D} {v : V} (r : RD K μ H d v) (h : isTup d = true) : ∃ p vs, v = .ref p ∧ TupN K.K H p vs := by
  cases r <;> simp only [isTup] at h <;> first | cases h | skip
  case tup a vs ds h1 r1 => exact ⟨a, vs, rfl, h1⟩
theorem tupN_at {X : Cx} {pins : List (Addr × Obj)} {σ : L2.St} {H : Hp} {s : Shared} {p : Addr} {vs : List V} (I : Inv X pins σ H s) (h : TupN X.K H p vs) : s.TypeIs (.ref p) "tuple" ∧ ∀ a, Value.ref p = .ref a → ∃ ob, s.heap.get? a = some ob ∧ ob.dict = none := by
  rcases h with ⟨ob, h, hc, hd⟩ | ⟨ob, its, n, h1, h2, _, _, _, h6⟩
  · obtain ⟨e, _⟩ := (show ObjOk X.prog X.w H s.heap p (.frz ob (.tup vs)) from I.hok p _ h)
    exact ⟨⟨ob, e, hc⟩, fun a q => by cases q; exact ⟨ob, e, hd⟩⟩
  · have e := I.kIn p ob h1
    exact ⟨⟨ob, e, h2⟩, fun a q => by cases q; exact ⟨ob, e, h6⟩⟩
def mTMeth (f : D → List D → Sto → R D) (mo : ME) (mA : ML) : ME := fun ρ S => (mo ρ S).bind fun o S1 => if isTup o then (mA ρ S1).bind fun ds S2 => f o ds S2 else .stuck
theorem se_tm {r : V → List V → Hp → VK → Prop} {f : D → List D → Sto → R D} (slot : Slot "tuple" name id) (hty : typeOf (.builtin id) = pure (.type "method_descriptor")) (hm : MtR G.X id r) (hf : MethS G r f) (ho : SE G o mo) (ha : SA G (e :: es) mA)
    (hbase : attributeBase o name G.X.env (eval o G.X.env) = eval o G.X.env := by rfl)
    (hfew : ((backTo pos (starEach (e :: es) G.X.env)).all (fun x => !x.1) && (backToKw pos (keywordEach [] G.X.env)).all (fun x => x.1.isSome) && decide ((e :: es).length + ([] : List Keyword).length + (if ([] : List Keyword).isEmpty then 0 else 1) < 30)) = true := by rfl)
    (hline : (apos.endLine == pos.line) = true := by rfl) (hs : starEach (e :: es) G.X.env = (false, eval e G.X.env) :: starEach es G.X.env := by rfl) (hplain : (backTo pos (starEach es G.X.env)).any (·.1) = false := by rfl) :
    SE G (.Call (.Attribute o name apos) (e :: es) [] pos) (mTMeth f mo mA) := ⟨fun pins s σ H Q I h => by
  obtain ⟨ρ, μ, S, at', q⟩ := h
  have h2 : tE G.g mo σ H fun x H1 => (∃ p vs, x = .ref p ∧ TupN G.X.K H1 p vs) ∧ tA G.g mA σ H1 fun xs H2 => r x xs H2 Q := by
    refine ⟨ρ, μ, S, at', po_1 at' q fun μ1 H1 S1 d v n a1 d1 q1 => ?_⟩
    split at q1
    · rename_i ht
      refine ⟨isTup_ok d1 ht, ρ, μ1, S1, a1, po_1 (Rel := relDs G.g) a1 q1 fun μ2 H2 S2 xs vs n2 a2 d2 q2 => ?_⟩
      exact hf μ2 H2 σ S2 d v xs vs Q a2.rs (d1.mono n2) d2 q2
    · exact q1.elim
  refine wpAny_Call_method_late hbase hfew hline rfl (thn (ho.run pins s σ H _ I h2) fun v s1 ⟨x, H1, I1, r1, ⟨p, vs, ex, tn⟩, q1⟩ => ?_)
  subst ex
  obtain rfl : v = Value.ref p := r1
  obtain ⟨t1, t2⟩ := tupN_at I1 tn
  refine ⟨"tuple", id, PySem.F.plainAttrs_tuple, slot, hty, t1, t2, ?_⟩
  have hA := ha.run pos pins s1 σ H1 _ I1 q1
  rw [hs] at hA ⊢
  refine Calls.callWith_builtin (by show (false || (backTo pos (starEach es G.X.env)).any (·.1)) = false; rw [hplain] <;> rfl) (Calls.evalArgs_plain ?_)
  exact thn hA fun us s2 ⟨ws, H2, I2, r2, q2⟩ => hm pins s2 σ H2 (.ref p) ws (.ref p) us Q I2 rfl r2 q2⟩
def seqPd (S : Sto) (o : D) : Option (List PyData) := match pd S 65 o with
  | some (.tuple es) => some es
  | some (.list es) => some es
  | _ => none
def cntD (o : D) (ds : List D) (S : Sto) : R D := match ds with
  | [y] => match seqPd S o, pd S 65 y with
    | some es, some d => if SeqAt.shaped (.list es) && SeqAt.shaped d then .ok (.int ((es.countP fun z => PyData.eqv z d : Nat) : Int)) S else .stuck
    | _, _ => .stuck
  | _ => .stuck
def tcntD (o : D) (ds : List D) (S : Sto) : R D := if isTup o then cntD o ds S else .stuck
theorem pd_tup {S : Sto} {n : Nat} {o : D} {e : PyData} (h : pd S n o = some e) (t : isTup o = true) : ∃ es, e = .tuple es := by
  cases o <;> simp only [isTup] at t <;> first | cases t | skip
  cases n with
  | zero => simp only [pd] at h; cases h
  | succ n =>
    simp only [pd, Option.map_eq_some_iff] at h
    obtain ⟨es, _, rfl⟩ := h
    exact ⟨es, rfl⟩
theorem tcnt_ok : MethS G (rCntD true G.X.K) tcntD := by
  intro μ H σ S d v xs vs Q rs r1 r2 q
  unfold tcntD at q
  split at q
  rotate_left
  · exact q.elim
  rename_i ht
  unfold cntD at q
  split at q
  rotate_left
  · exact q.elim
  rename_i y
  split at q
  rotate_left
  · exact q.elim
  rename_i es dy e1 e2
  split at q
  rotate_left
  · exact q.elim
  rename_i hs
  simp only [Bool.and_eq_true] at hs
  unfold seqPd at e1
  cases r2 with
  | cons ry rn =>
    cases rn
    obtain ⟨p, ws, rfl, _⟩ := isTup_ok r1 ht
    split at e1
    · rename_i es' e3
      cases e1
      exact ⟨p, _, dy, es, rfl, rfl, pd_ok rs e3 r1, pd_ok rs e2 ry, hs.1, hs.2, Po.same rs (.int _) q⟩
    · rename_i es' e3
      obtain ⟨_, z⟩ := pd_tup e3 ht
      cases z
    · cases e1
def lcntD (o : D) (ds : List D) (S : Sto) : R D := if isTup o then .stuck else match pd S 65 o with
  | some (.list _) => cntD o ds S
  | _ => .stuck
theorem lcnt_ok : MethS G (rCntD false G.X.K) lcntD := by
  intro μ H σ S d v xs vs Q rs r1 r2 q
  unfold lcntD at q
  split at q
  · exact q.elim
  split at q
  rotate_left
  · exact q.elim
  rename_i es0 e0
  unfold cntD seqPd at q
  rw [e0] at q
  dsimp only at q
  split at q
  rotate_left
  · exact q.elim
  rename_i y
  split at q
  rotate_left
  · exact q.elim
  rename_i es dy e1 e2
  cases e1
  split at q
  rotate_left
  · exact q.elim
  rename_i hs
  simp only [Bool.and_eq_true] at hs
  have hp := pd_ok rs e0 r1
  cases r2 with
  | cons ry rn =>
    cases rn
    cases hp with
    | lst h1 h2 => exact ⟨_, _, dy, _, rfl, rfl, .lst h1 h2, pd_ok rs e2 ry, hs.1, hs.2, Po.same rs (.int _) q⟩
def tidxD (o : D) (ds : List D) (S : Sto) : R D := match ds with
  | [y] => if isTup o then match pd S 65 o, pd S 65 y with
    | some (.tuple es), some d => if SeqAt.shaped (.list es) && SeqAt.shaped d then match es.findIdx? (fun z => PyData.eqv z d) with
        | some j => .ok (.int (j : Nat)) S
        | none => .stuck
      else .stuck
    | _, _ => .stuck
    else .stuck
  | _ => .stuck
theorem tidx_ok : MethS G (rIdxD G.X.K) tidxD := by
  intro μ H σ S d v xs vs Q rs r1 r2 q
  unfold tidxD at q
  split at q
  rotate_left
  · exact q.elim
  split at q
  rotate_left
  · exact q.elim
  rename_i ht
  split at q
  rotate_left
  · exact q.elim
  rename_i es dy e1 e2
  split at q
  rotate_left
  · exact q.elim
  rename_i hs
  simp only [Bool.and_eq_true] at hs
  split at q
  rotate_left
  · exact q.elim
  rename_i j hj
  obtain ⟨p, ws, rfl, _⟩ := isTup_ok r1 ht
  cases r2 with
  | cons ry rn =>
    cases rn
    exact ⟨p, _, dy, es, j, rfl, rfl, pd_ok rs e1 r1, pd_ok rs e2 ry, hs.1, hs.2, hj, Po.same rs (.int _) q⟩
/-! lists that change -/
def extD (o : D) (ds : List D) (S : Sto) : R D := match o, ds with
  | .ref i, [.ref j] => match S[i]?, S[j]? with
    | some (.lst xs), some (.lst ys) => if xs.length + ys.length ≤ sizeLine then .ok .non (S.set i (.lst (xs ++ ys))) else .stuck
    | _, _ => .stuck
  | .ref i, [.tup ys] => match S[i]? with
    | some (.lst xs) => if xs.length + ys.length ≤ sizeLine then .ok .non (S.set i (.lst (xs ++ ys))) else .stuck
    | _ => .stuck
  | _, _ => .stuck
theorem ext_ok : MethS G (fun x xs H Q => rExtend x xs H Q ∨ rExtT G.X.K x xs H Q) extD := by
  intro μ H σ S d v xs vs Q rs r1 r2 q
  unfold extD at q
  split at q
  · split at q
    rotate_left
    · exact q.elim
    rename_i i j _ _ zs ys e1 e2
    split at q
    rotate_left
    · exact q.elim
    rename_i hl
    cases r1 with
    | ref h1 =>
      cases r2 with
      | cons ry rn =>
        cases rn
        cases ry with
        | ref h2 =>
          obtain ⟨ws, g, dd⟩ := rs.lst h1 e1
          obtain ⟨us, g2, dd2⟩ := rs.lst h2 e2
          have nx : Nx μ μ H (upd H _ (.lst (ws ++ us))) := Nx.put (List.mem_of_getElem? h1) g fun z => z
          exact .inl ⟨_, _, ws, us, rfl, rfl, g, g2, by rw [← dd.length, ← dd2.length]; exact hl, put_ok (ob := .lst (zs ++ ys)) rs h1 g (fun z => z) ⟨_, upd_same, (dd.append dd2).mono nx⟩ .non q⟩
  · split at q
    rotate_left
    · exact q.elim
    rename_i i ys _ zs e1
    split at q
    rotate_left
    · exact q.elim
    rename_i hl
    cases r1 with
    | ref h1 =>
      cases r2 with
      | cons ry rn =>
        cases rn
        cases ry with
        | tup h2 dd2 =>
          obtain ⟨ws, g, dd⟩ := rs.lst h1 e1
          rename_i us
          have nx : Nx μ μ H (upd H _ (.lst (ws ++ us))) := Nx.put (List.mem_of_getElem? h1) g fun z => z
          exact .inr ⟨_, _, ws, us, rfl, rfl, g, h2.sq, by rw [← dd.length, ← dd2.length]; exact hl, put_ok (ob := .lst (zs ++ ys)) rs h1 g (fun z => z) ⟨_, upd_same, (dd.append dd2).mono nx⟩ .non q⟩
  · exact q.elim
def intsD : List D → Option (List Int)
  | [] => some []
  | .int i :: r => (intsD r).map (i :: ·)
  | _ => none
theorem intsD_ok {K : Kx} {μ : Mp} {H : Hp} : ∀ {ds : List D} {ns : List Int} {vs : List V}, intsD ds = some ns → RDs K μ H ds vs → vs = ns.map V.int
  | [], _, _, h, .nil => by cases h; rfl
  | d :: ds, _, _, h, .cons r t => by
    cases d <;> simp only [intsD] at h <;> first | (cases h; done) | skip
    rename_i i
    simp only [Option.map_eq_some_iff] at h
    obtain ⟨ms, e1, rfl⟩ := h
    cases r
    rw [intsD_ok e1 t]; rfl
def remD (o : D) (ds : List D) (S : Sto) : R D := match o, ds with
  | .ref i, [.int k] => match S[i]? with
    | some (.lst xs) => match intsD xs with
      | some ns => match ns.findIdx? (fun n => n == k) with
        | some j => .ok .non (S.set i (.lst ((ns.eraseIdx j).map D.int)))
        | none => .stuck
      | none => .stuck
    | _ => .stuck
  | _, _ => .stuck
theorem rem_ok : MethS G rRemI remD := by
  intro μ H σ S d v xs vs Q rs r1 r2 q
  unfold remD at q
  split at q
  rotate_left
  · exact q.elim
  rename_i i k
  split at q
  rotate_left
  · exact q.elim
  rename_i zs e1
  split at q
  rotate_left
  · exact q.elim
  rename_i ns e2
  split at q
  rotate_left
  · exact q.elim
  rename_i j hj
  rw [List.findIdx?_eq_some_iff_getElem] at hj
  obtain ⟨hjl, hy, hno⟩ := hj
  cases r1 with
  | ref h1 =>
    cases r2 with
    | cons ry rn =>
      cases rn
      cases ry
      obtain ⟨ws, g, dd⟩ := rs.lst h1 e1
      have ew := intsD_ok e2 dd
      subst ew
      have nx : Nx μ μ H (upd H _ (.lst ((ns.eraseIdx j).map V.int))) := Nx.put (List.mem_of_getElem? h1) g fun z => z
      refine ⟨_, ns, k, j, rfl, rfl, g, by rw [List.getElem?_eq_getElem hjl, eq_of_beq hy], fun m hm z => ?_, put_ok (ob := .lst ((ns.eraseIdx j).map D.int)) rs h1 g (fun z => z) ⟨_, upd_same, RDs.ints _⟩ .non q⟩
      have h2 : m < ns.length := by omega
      rw [List.getElem?_eq_getElem h2] at z
      cases z
      exact hno m hm (by simp)
def popD (o : D) (ds : List D) (S : Sto) : R D := match o, ds with
  | .ref i, [] => match S[i]? with
    | some (.lst xs) => match xs[xs.length - 1]? with
      | some y => .ok y (S.set i (.lst xs.dropLast))
      | none => .stuck
    | _ => .stuck
  | _, _ => .stuck
theorem RDs.dropLast {K : Kx} {μ : Mp} {H : Hp} {ds : List D} {vs : List V} (r : RDs K μ H ds vs) : RDs K μ H ds.dropLast vs.dropLast := by
  rw [List.dropLast_eq_take, List.dropLast_eq_take, r.length]; exact r.take _
theorem pop_ok : MethS G rPop popD := by
  intro μ H σ S d v xs vs Q rs r1 r2 q
  unfold popD at q
  split at q
  rotate_left
  · exact q.elim
  split at q
  rotate_left
  · exact q.elim
  rename_i zs e1
  split at q
  rotate_left
  · exact q.elim
  rename_i y hy
  cases r1 with
  | ref h1 =>
    cases r2
    obtain ⟨ws, g, dd⟩ := rs.lst h1 e1
    obtain ⟨w, hw, rw_⟩ := dd.get hy
    rw [dd.length] at hw
    have nx : Nx μ μ H (upd H _ (.lst ws.dropLast)) := Nx.put (List.mem_of_getElem? h1) g fun z => z
    exact ⟨_, ws, w, rfl, rfl, g, hw, put_ok (ob := .lst zs.dropLast) rs h1 g (fun z => z) ⟨_, upd_same, dd.dropLast.mono nx⟩ (rw_.mono nx) q⟩
def revD (o : D) (ds : List D) (S : Sto) : R D := match o, ds with
  | .ref i, [] => match S[i]? with
    | some (.lst xs) => .ok .non (S.set i (.lst xs.reverse))
    | _ => .stuck
  | _, _ => .stuck
theorem RDs.reverse {K : Kx} {μ : Mp} {H : Hp} : ∀ {ds : List D} {vs : List V}, RDs K μ H ds vs → RDs K μ H ds.reverse vs.reverse
  | _, _, .nil => .nil
  | _, _, .cons r t => by
    rw [List.reverse_cons, List.reverse_cons]; exact (RDs.reverse t).append (.cons r .nil)
theorem rev_ok : MethS G rReverse revD := by
  intro μ H σ S d v xs vs Q rs r1 r2 q
  unfold revD at q
  split at q
  rotate_left
  · exact q.elim
  split at q
  rotate_left
  · exact q.elim
  rename_i zs e1
  cases r1 with
  | ref h1 =>
    cases r2
    obtain ⟨ws, g, dd⟩ := rs.lst h1 e1
    have nx : Nx μ μ H (upd H _ (.lst ws.reverse)) := Nx.put (List.mem_of_getElem? h1) g fun z => z
    exact ⟨_, ws, rfl, rfl, g, put_ok (ob := .lst zs.reverse) rs h1 g (fun z => z) ⟨_, upd_same, dd.reverse.mono nx⟩ .non q⟩
def clrD (o : D) (ds : List D) (S : Sto) : R D := match o, ds with
  | .ref i, [] => match S[i]? with
    | some (.lst _) => .ok .non (S.set i (.lst []))
    | _ => .stuck
  | _, _ => .stuck
theorem clr_ok : MethS G rClear clrD := by
  intro μ H σ S d v xs vs Q rs r1 r2 q
  unfold clrD at q
  split at q
  rotate_left
  · exact q.elim
  split at q
  rotate_left
  · exact q.elim
  rename_i zs e1
  cases r1 with
  | ref h1 =>
    cases r2
    obtain ⟨ws, g, dd⟩ := rs.lst h1 e1
    exact ⟨_, ws, rfl, rfl, g, put_ok (ob := .lst []) rs h1 g (fun z => z) ⟨_, upd_same, .nil⟩ .non q⟩
end
end Dn

set_option Elab.async false
set_option linter.all false
set_option maxRecDepth 100000
set_option maxHeartbeats 2000000
namespace Dn
open PySem PySem.Spec PyProof.Rows L2 RZ
/-! ## written dicts, read at a key that is there -/
section
variable {X : Cx} {a : Addr} {es : Array DictEntry} {n : Nat}
theorem ix_kd (hl : X.K.lookup a = some ⟨.type "dict", none, .dict es n, #[]⟩) (hk : PySem.W.KeysLit X.w.params es.toList) : IxR X (fun x y H Q => ∃ z u V, x = .ref a ∧ y = .str z ∧ findBy Value.isStrOf es z = some u ∧ RelV V u ∧ Q V H) := by
  intro value slice pins s σ H x y v u Q I rx ry h hs
  obtain ⟨z, u0, V, rfl, rfl, hf, rV, q⟩ := h
  obtain rfl : v = Value.ref a := rx
  obtain ⟨t, rfl⟩ := ry
  have mo := PySem.W.mapOf_K (prog := X.prog) (w := X.w) I.kIn hl hk
  exact tail_any mo.typeIs slot_dict_getitem.lookup (wpAny_getItem_of (strKind_is X.prog X.w z t) mo hf ⟨V, H, I.tok _, rV, q⟩) hs
/-- entries of a written dict whose keys are tuples of texts and ints -/
def EntT (P : Program) (w : World) (K : PySem.W.Frag) (e : DictEntry) (ks : List Key) : Prop := ∃ (b : Addr) (o : Obj) (its : Array Value) (m : Nat), e.key = .ref b ∧ K.lookup b = some o ∧ o.cls = .type "tuple" ∧ o.data = .seq its m ∧ PySem.ItemsAre (mixKind P w) ks its.toList ∧ e.hash = tupleKeyHash (mixKind P w) ks
def EntsT (P : Program) (w : World) (K : PySem.W.Frag) : List DictEntry → List (List Key) → Prop
  | [], [] => True
  | e :: es, k :: ks => EntT P w K e k ∧ EntsT P w K es ks
  | _, _ => False
theorem EntsT.map {P : Program} {w : World} {K : PySem.W.Frag} : ∀ {es : List DictEntry} {ks : List (List Key)}, EntsT P w K es ks → ∃ xs : List (List Key × Addr × Value), es = xs.map (entryOfKey (tupleKind (mixKind P w))) ∧ xs.map (·.1) = ks ∧ (∀ x ∈ xs, ∃ o its m, K.lookup x.2.1 = some o ∧ o.cls = .type "tuple" ∧ o.data = .seq its m ∧ PySem.ItemsAre (mixKind P w) x.1 its.toList) ∧ xs.map (·.2.2) = es.map (·.val)
  | [], [], _ => ⟨[], rfl, rfl, (fun _ h => nomatch h), rfl⟩
  | e :: es, k :: ks, ⟨⟨b, o, its, m, h1, h2, h3, h4, h5, h6⟩, t⟩ => by
    obtain ⟨xs, e1, e2, e3, e4⟩ := EntsT.map t
    refine ⟨(k, b, e.val) :: xs, ?_, by simp [e2], fun x hx => ?_, by simp [e4]⟩
    · obtain ⟨eh, ek, ev⟩ := e
      simp only at h1 h6
      subst h1 h6
      rw [List.map_cons, ← e1]; rfl
    · rcases List.mem_cons.mp hx with q | q
      · subst q; exact ⟨o, its, m, h2, h3, h4, h5⟩
      · exact e3 x q
theorem ix_kdT {ks : List (List Key)} (hl : X.K.lookup a = some ⟨.type "dict", none, .dict es n, #[]⟩) (hk : EntsT X.prog X.w X.K es.toList ks) (nd : ks.Nodup) (hu : X.A.units + 1 < cLine) :
    IxR X (fun x y H Q => ∃ (b : Addr) (k : List Key) (V : V) (j : Nat) (u : Value), x = .ref a ∧ y = .ref b ∧ SqT X.K H b (k.map kV) ∧ ks[j]? = some k ∧ (es.toList.map (·.val))[j]? = some u ∧ RelV V u ∧ Q V H) := by
  intro value slice pins s σ H x y v u Q I rx ry h hs
  obtain ⟨b, k, V, j, u0, rfl, rfl, hb, hj, hv, rV, q⟩ := h
  obtain rfl : v = Value.ref a := rx
  obtain rfl : u = Value.ref b := ry
  obtain ⟨xs, e1, e2, e3, e4⟩ := hk.map
  have ha := I.kIn a _ hl
  have dd : s.heap.DictOfH (tupleKind (mixKind X.prog X.w)) a xs := by
    refine ⟨_, es, n, ha, ⟨rfl, rfl, rfl⟩, rfl, e1, fun x hx => ?_, by rw [e2]; exact nd⟩
    obtain ⟨o, its, m, h1, h2, h3, h4⟩ := e3 x hx
    exact ⟨o, its, m, I.kIn _ o h1, h2, h3, h4⟩
  obtain ⟨its, r, ⟨o, ho, hc, m, hd⟩, _⟩ := I.tuple hb
  have key : (tupleKind (mixKind X.prog X.w)).is s.heap k b := ⟨o, its.toArray, m, ho, hc, hd, by simpa using items_are r⟩
  have hx : ∃ p, xs[j]? = some (k, p) ∧ p.2 = u0 := by
    rw [← e2, List.getElem?_map] at hj
    rw [← e4, List.getElem?_map] at hv
    cases hq : xs[j]? with
    | none => rw [hq] at hj; cases hj
    | some x =>
      rw [hq] at hj hv
      simp only [Option.map_some, Option.some.injEq] at hj hv
      exact ⟨x.2, by rw [← hj], hv⟩
  obtain ⟨p, hp, hp2⟩ := hx
  have hat := atKey_of_get (by rw [e2]; exact nd) hp
  exact tail_any dd.typeIs slot_dict_getitem.lookup (wpAny_getItem_heap (tupleKind_room_in1 hu) key dd hat ⟨V, H, I.tok _, by rw [hp2]; exact rV, q⟩) hs
end
section
variable {G : Fx} {e : Expr} {me : ME} {pos p : Pos} {x : Str} {a : Addr} {tab : List (Str × D)}
def kixD (tab : List (Str × D)) (d : D) (S : Sto) : R D := match d with
  | .str z => match tab.lookup z with
    | some d => .ok d S
    | none => .stuck
  | _ => .stuck
/-- X[e], X a module's dict with texts as keys -/
theorem se_kix (hg : Gl G.X x) (hm : G.X.mg x = some (.ref a)) (T : KTab G.k G.X.w a tab) (he : SE G e me) (hs : PlainIx e := by exact fun _ _ => rfl) (hdb : (x == ("__debug__" : Str)) = false := by decide) : SE G (.Subscript (.Name x p) e pos) (m1 (kixD tab) me) := by
  obtain ⟨es, n, hl, hk, ht⟩ := T.ex
  exact pe_imp (pe_ix (ix_kd hl hk) (pe_glob (v := .ref a) hg hm rfl hdb) he hs) fun σ H Q h => tE_1 h fun μ H S d v rs r q => by
    cases r <;> first | exact q.elim | skip
    case str z =>
      have kt := kTab_ok (z := z) ht
      have ef : findBy Value.isStrOf es z = (es.toList.find? (fun d => Value.isStrOf z d.key)).map (·.val) := by
        obtain ⟨l⟩ := es
        unfold findBy
        rw [List.find?_toArray]
      simp only [kixD] at q
      revert kt
      cases hf : List.find? (fun d => Value.isStrOf z d.key) es.toList with
      | none =>
        intro kt
        have kt' : tab.lookup z = none := kt
        rw [kt'] at q
        exact q.elim
      | some en =>
        intro kt
        obtain ⟨d, V, e1, r1, g⟩ := kt
        rw [e1] at q
        exact ⟨z, en.val, V, rfl, rfl, by rw [ef, hf]; rfl, r1, Po.same rs (g μ H) q⟩
/-- what a written dict with tuples as keys holds -/
structure KTabT (P : Program) (w : World) (K : Kx) (a : Addr) (ks : List (List Key)) (ds : List D) : Prop where
  ex : ∃ es n, K.K.lookup a = some ⟨.type "dict", none, .dict es n, #[]⟩ ∧ EntsT P w K.K es.toList ks ∧ mapO (kD K 6) (es.toList.map (·.val)) = some ds
  nd : ks.Nodup
def keysD : List D → Option (List Key)
  | [] => some []
  | d :: ds => match keyD d, keysD ds with
    | some k, some r => some (k :: r)
    | _, _ => none
theorem keysD_ok {K : Kx} {μ : Mp} {H : Hp} : ∀ {ds : List D} {ks : List Key} {vs : List V}, keysD ds = some ks → RDs K μ H ds vs → vs = ks.map kV
  | [], _, _, h, .nil => by cases h; rfl
  | d :: ds, _, _, h, .cons r t => by
    simp only [keysD] at h
    split at h
    · rename_i k ks h1 h2
      cases h
      rw [keyD_ok h1 r, keysD_ok h2 t]; rfl
    · cases h
def kixT (ks : List (List Key)) (ds : List D) (d : D) (S : Sto) : R D := match d with
  | .tup xs => match keysD xs with
    | some k => match ks.findIdx? (fun z => decide (z = k)) with
      | some j => match ds[j]? with
        | some d => .ok d S
        | none => .stuck
      | none => .stuck
    | none => .stuck
  | _ => .stuck
theorem se_kixT {ks : List (List Key)} {ds : List D} (hg : Gl G.X x) (hm : G.X.mg x = some (.ref a)) (T : KTabT G.X.prog G.X.w G.k a ks ds) (hu : G.X.A.units + 1 < cLine) (he : SE G e me) (hs : PlainIx e := by exact fun _ _ => rfl) (hdb : (x == ("__debug__" : Str)) = false := by decide) : SE G (.Subscript (.Name x p) e pos) (m1 (kixT ks ds) me) := by
  obtain ⟨es, n, hl, hk, ht⟩ := T.ex
  exact pe_imp (pe_ix (ix_kdT hl hk T.nd hu) (pe_glob (v := .ref a) hg hm rfl hdb) he hs) fun σ H Q h => tE_1 h fun μ H S d v rs r q => by
    unfold kixT at q
    split at q
    rotate_left
    · exact q.elim
    rename_i xs
    split at q
    rotate_left
    · exact q.elim
    rename_i k e1
    split at q
    rotate_left
    · exact q.elim
    rename_i j e2
    split at q
    rotate_left
    · exact q.elim
    rename_i d e3
    rw [List.findIdx?_eq_some_iff_getElem] at e2
    obtain ⟨hjl, hy, _⟩ := e2
    obtain ⟨u, hu1, hu2⟩ := (mapO_get ht).2 j d e3
    obtain ⟨V, rV, g⟩ := kD_ok hu2
    cases r with
    | @tup b vs _ hb rr =>
      have ev := keysD_ok e1 rr
      subst ev
      exact ⟨b, k, V, j, u, rfl, rfl, hb.sq, by rw [List.getElem?_eq_getElem hjl, of_decide_eq_true hy], hu1, rV, Po.same rs (g μ H) q⟩
end
end Dn

set_option Elab.async false
set_option linter.all false
set_option maxRecDepth 100000
set_option maxHeartbeats 2000000
namespace Dn
open PySem PySem.Spec PyProof.Rows L2 RZ
/-! ## comprehensions with two clauses -/
def lcK (it : Wk) (tg : MG) (tt : MB) (own : List Nat) (body : Ev → Sto → (Sto → R D) → R D) (ρ : Ev) (k : Sto → R D) : Nat → Sto → R D
  | 0, S => if it.fin S then k S else .stuck
  | r + 1, S => match it.get (it.n - (r + 1)) S with
    | none => .stuck
    | some d => (tg d (wipeE ρ own) S).bindN fun ρ1 S1 => (tt ρ1 S1).bindN fun b S2 => if b then body ρ1 S2 (fun S3 => lcK it tg tt own body ρ k r S3) else lcK it tg tt own body ρ k r S2
def appK (te : ME) (id : Nat) (ρ : Ev) (S : Sto) (k : Sto → R D) : R D := (te ρ S).bindN fun y S3 => match S3[id]? with
  | some (.lst acc) => if acc.length < sizeLine then k (S3.set id (.lst (acc ++ [y]))) else .stuck
  | _ => .stuck
def mLc2 (mi : MI) (g : MG) (tt : MB) (mi1 : MI) (g1 : MG) (tt1 : MB) (te : ME) (own vs1 : List Nat) : ME := fun ρ S => (mi ρ S).bind fun it S1 =>
  lcK it g tt own (fun ρ1 S2 k => (mi1 ρ1 S2).bindN fun it1 S3 => lcK it1 g1 tt1 vs1 (appK te S1.length) ρ1 k it1.n S3) ρ (fun S2 => .ok (.ref S1.length) S2) it.n (S1 ++ [.lst []])
section
variable {G : Fx}
theorem tE_lc2 {mi mi1 : MI} {g g1 : MG} {tt tt1 : MB} {te : ME} {own vs1 ts ts1 : List Nat} {σ : L2.St} {H : Hp} {Q : VK} (hts : ∀ i ∈ ts, i ∈ own) (hts1 : ∀ i ∈ ts1, i ∈ vs1) (h : tE G.g (mLc2 mi g tt mi1 g1 tt1 te own vs1) σ H Q) :
    tLc2 (tI G.g mi) (tG G.g.blk ts g) (tB G.g.blk tt) (tI G.g.blk mi1) (tG G.g.blk ts1 g1) (tB G.g.blk tt1) (tE G.g.blk te) own vs1 σ H Q := by
  obtain ⟨ρ, μ, S, at', q⟩ := h
  refine ⟨ρ, μ, S, at', po_1 (Rel := fun μ H it J => RI G.k μ H it J) at' q fun μ1 H1 S1 it J n1 a1 ri q1 => ?_⟩
  intro A hA
  have nA : Nx μ1 (μ1.add A) H1 (upd H1 A (.lst [])) := Nx.new1 hA
  have rA : RS G.k (μ1.add A) (S1 ++ [.lst []]) (upd H1 A (.lst [])) := a1.rs.new1 hA ⟨[], upd_same, .nil⟩
  have eA : (μ1.add A).m[S1.length]? = some A := by simp [← a1.rs.len]
  generalize hB : (fun (ρ1 : Ev) (S2 : Sto) (k : Sto → R D) => (mi1 ρ1 S2).bindN fun it1 S3 => lcK it1 g1 tt1 vs1 (appK te S1.length) ρ1 k it1.n S3) = body at q1
  refine ⟨fun i m H => ∃ μ S, m = it.n - i ∧ i ≤ it.n ∧ At G.g μ H ρ σ S ∧ Nx (μ1.add A) μ (upd H1 A (.lst [])) H ∧ Po G.g (relD G.g) μ H σ Q (lcK it g tt own body ρ (fun S2 => .ok (.ref S1.length) S2) (it.n - i) S),
    ⟨it.n, _, _, by simp, Nat.zero_le _, a1.nx nA rA, Nx.refl _ _, Po.nx nA (by simpa using q1)⟩, ?_⟩
  rintro i m H2 ⟨μ2, S2, rfl, hi, a2, n2, q2⟩
  by_cases hlt : i < it.n
  rotate_left
  · have e : i = it.n := by omega
    subst e
    simp only [Nat.sub_self, lcK] at q2
    split at q2
    · rename_i hf
      exact .inl ⟨ri.stop μ2 H2 S2 (nA.trans n2) a2.rs hf, q2 μ2 H2 _ (Nx.refl _ _) a2.rs (.ref (n2.at eA))⟩
    · exact q2.elim
  obtain ⟨r, hr⟩ : ∃ r, it.n - i = r + 1 := ⟨it.n - i - 1, by omega⟩
  have hk : it.n - (r + 1) = i := by omega
  rw [hr] at q2
  simp only [lcK] at q2
  rw [hk] at q2
  cases e : it.get i S2 with
  | none => rw [e] at q2; exact q2.elim
  | some d =>
  rw [e] at q2
  obtain ⟨hgo, hy⟩ := ri.go μ2 H2 S2 i d (nA.trans n2) a2.rs hlt e
  let NxO : Hp → Prop := fun H' => ∃ μ S, At G.g μ H' ρ σ S ∧ Nx (μ1.add A) μ (upd H1 A (.lst [])) H' ∧ Po G.g (relD G.g) μ H' σ Q (lcK it g tt own body ρ (fun S2 => .ok (.ref S1.length) S2) r S)
  refine .inr ⟨hgo, NxO, fun H' ⟨μ', S', a', n', q'⟩ => ⟨r, by omega, μ', S', by omega, hlt, a', n', by rw [show it.n - (i + 1) = r by omega]; exact q'⟩, fun x H3 y => ?_⟩
  obtain ⟨n3, rs3, rd3⟩ := hy x H3 y
  have a3 := a2.nx n3 rs3
  refine ⟨d, wipeE ρ own, μ2, S2, ⟨a3.re.wipe own, a3.rs, a3.pin⟩, rd3, ?_⟩
  simp only at q2
  revert q2
  cases g d (wipeE ρ own) S2 with
  | stuck => exact fun q => q
  | exc c fs S3 => exact fun q => q
  | ok ρ4 S4 =>
  intro q2 μ4 H4 σ4 n4 rs4 re4 o4
  refine ⟨o4.wipe hts, ?_⟩
  have n24 : Nx μ2 μ4 H2 H4 := n3.trans n4
  have a4 : At G.g μ4 H4 ρ σ S4 := a2.nx n24 rs4
  have q4 := Po.nx n24 q2
  simp only [R.bindN] at q4
  refine ⟨ρ4, μ4, S4, ⟨re4, rs4, a4.pin⟩, ?_⟩
  revert q4
  cases tt ρ4 S4 with
  | stuck => exact fun q => q
  | exc c fs S5 => exact fun q => q.elim
  | ok b5 S5 =>
  intro q4 μ5 H5 b n5 rs5 eb
  subst eb
  have a5 : At G.g μ5 H5 ρ σ S5 := a4.nx n5 rs5
  have q5 := Po.nx n5 q4
  have n05 : Nx (μ1.add A) μ5 (upd H1 A (.lst [])) H5 := ((n2.trans n3).trans n4).trans n5
  cases b5 with
  | false => exact ⟨μ5, S5, a5, n05, q5⟩
  | true =>
  simp only [if_true] at q5
  have re5 : RE G.k μ5 H5 ρ4 σ4 := re4.mono n5
  subst hB
  refine ⟨ρ4, μ5, S5, ⟨re5, rs5, a5.pin⟩, ?_⟩
  simp only at q5
  revert q5
  cases mi1 ρ4 S5 with
  | stuck => exact fun q => q
  | exc c fs S6 => exact fun q => q.elim
  | ok it1 S6 =>
  intro q5 μ6 H6 J1 n6 rs6 ri1
  have a6 : At G.g μ6 H6 ρ σ S6 := a5.nx n6 rs6
  have re6 : RE G.k μ6 H6 ρ4 σ4 := re5.mono n6
  have q6 : Po G.g (relD G.g) μ6 H6 σ Q (lcK it1 g1 tt1 vs1 (appK te S1.length) ρ4 (fun S3 => lcK it g tt own (fun (ρ1 : Ev) (S2 : Sto) (k : Sto → R D) => (mi1 ρ1 S2).bindN fun it1 S3 => lcK it1 g1 tt1 vs1 (appK te S1.length) ρ1 k it1.n S3) ρ (fun S2 => .ok (.ref S1.length) S2) r S3) it1.n S6) := Po.nx n6 q5
  have n06 := n05.trans n6
  refine ⟨fun j k H => ∃ μ S, k = it1.n - j ∧ j ≤ it1.n ∧ At G.g μ H ρ σ S ∧ RE G.k μ H ρ4 σ4 ∧ Nx (μ1.add A) μ (upd H1 A (.lst [])) H ∧ Nx μ6 μ H6 H ∧ Po G.g (relD G.g) μ H σ Q (lcK it1 g1 tt1 vs1 (appK te S1.length) ρ4 (fun S3 => lcK it g tt own (fun (ρ1 : Ev) (S2 : Sto) (k : Sto → R D) => (mi1 ρ1 S2).bindN fun it1 S3 => lcK it1 g1 tt1 vs1 (appK te S1.length) ρ1 k it1.n S3) ρ (fun S2 => .ok (.ref S1.length) S2) r S3) (it1.n - j) S),
    ⟨it1.n, μ6, S6, by simp, Nat.zero_le _, a6, re6, n06, Nx.refl _ _, by simpa using q6⟩, ?_⟩
  rintro j k7 H7 ⟨μ7, S7, rfl, hj, a7, re7, n07, n67, q7⟩
  by_cases hlt1 : j < it1.n
  rotate_left
  · have e : j = it1.n := by omega
    subst e
    simp only [Nat.sub_self, lcK] at q7
    split at q7
    · rename_i hf
      exact .inl ⟨ri1.stop μ7 H7 S7 n67 a7.rs hf, μ7, S7, a7, n07, q7⟩
    · exact q7.elim
  obtain ⟨r1, hr1⟩ : ∃ r, it1.n - j = r + 1 := ⟨it1.n - j - 1, by omega⟩
  have hk1 : it1.n - (r1 + 1) = j := by omega
  rw [hr1] at q7
  rw [lcK] at q7
  rw [hk1] at q7
  cases e1 : it1.get j S7 with
  | none => rw [e1] at q7; exact q7.elim
  | some d1 =>
  rw [e1] at q7
  obtain ⟨hgo1, hy1⟩ := ri1.go μ7 H7 S7 j d1 n67 a7.rs hlt1 e1
  refine .inr ⟨hgo1, fun H' => ∃ μ S, At G.g μ H' ρ σ S ∧ RE G.k μ H' ρ4 σ4 ∧ Nx (μ1.add A) μ (upd H1 A (.lst [])) H' ∧ Nx μ6 μ H6 H' ∧ Po G.g (relD G.g) μ H' σ Q (lcK it1 g1 tt1 vs1 (appK te S1.length) ρ4 (fun S3 => lcK it g tt own (fun (ρ1 : Ev) (S2 : Sto) (k : Sto → R D) => (mi1 ρ1 S2).bindN fun it1 S3 => lcK it1 g1 tt1 vs1 (appK te S1.length) ρ1 k it1.n S3) ρ (fun S2 => .ok (.ref S1.length) S2) r S3) r1 S),
    fun H' ⟨μ', S', a', re', n', n6', q'⟩ => ⟨r1, by omega, μ', S', by omega, hlt1, a', re', n', n6', by rw [show it1.n - (j + 1) = r1 by omega]; exact q'⟩, fun x1 H8 y1 => ?_⟩
  obtain ⟨n8, rs8, rd8⟩ := hy1 x1 H8 y1
  have a8 := a7.nx n8 rs8
  have re8 := re7.mono n8
  refine ⟨d1, wipeE ρ4 vs1, μ7, S7, ⟨re8.wipe vs1, rs8, a8.pin⟩, rd8, ?_⟩
  simp only at q7
  revert q7
  cases g1 d1 (wipeE ρ4 vs1) S7 with
  | stuck => exact fun q => q
  | exc c fs S9 => exact fun q => q
  | ok ρ9 S9 =>
  intro q7 μ9 H9 σ9 n9 rs9 re9 o9
  refine ⟨o9.wipe hts1, ?_⟩
  have n79 : Nx μ7 μ9 H7 H9 := n8.trans n9
  have a9 : At G.g μ9 H9 ρ σ S9 := a7.nx n79 rs9
  have re9' : RE G.k μ9 H9 ρ4 σ4 := re7.mono n79
  have q9 := Po.nx n79 q7
  simp only [R.bindN] at q9
  refine ⟨ρ9, μ9, S9, ⟨re9, rs9, a9.pin⟩, ?_⟩
  revert q9
  cases tt1 ρ9 S9 with
  | stuck => exact fun q => q
  | exc c fs S10 => exact fun q => q.elim
  | ok b10 S10 =>
  intro q9 μ10 H10 b n10 rs10 eb
  subst eb
  have a10 : At G.g μ10 H10 ρ σ S10 := a9.nx n10 rs10
  have q10 := Po.nx n10 q9
  have n0_10 : Nx (μ1.add A) μ10 (upd H1 A (.lst [])) H10 := (n07.trans n79).trans n10
  have n6_10 : Nx μ6 μ10 H6 H10 := (n67.trans n79).trans n10
  cases b10 with
  | false => exact ⟨μ10, S10, a10, re9'.mono n10, n0_10, n6_10, q10⟩
  | true =>
  simp only [if_true, appK] at q10
  refine ⟨ρ9, μ10, S10, ⟨re9.mono n10, rs10, a10.pin⟩, ?_⟩
  revert q10
  cases te ρ9 S10 with
  | stuck => exact fun q => q
  | exc c fs S11 => exact fun q => q.elim
  | ok y11 S11 =>
  intro q10 μ11 H11 v11 n11 rs11 rd11
  have q11 := Po.nx n11 q10
  simp only [R.bindN] at q11
  have n0_11 := n0_10.trans n11
  have h11 := n0_11.at eA
  cases e11 : S11[S1.length]? with
  | none => simp only [e11] at q11; exact q11.elim
  | some ob =>
  cases ob with
  | ins C ns fs => simp only [e11] at q11; exact q11.elim
  | dk kvs => simp only [e11] at q11; exact q11.elim
  | dt kvs => simp only [e11] at q11; exact q11.elim
  | hid => simp only [e11] at q11; exact q11.elim
  | lst acc =>
  simp only [e11] at q11
  obtain ⟨ws, g11, r11⟩ := RS.lst (K := G.k) rs11 h11 e11
  by_cases hz : acc.length < sizeLine
  · simp only [if_pos hz] at q11
    have n12 : Nx μ11 μ11 H11 (upd H11 A (.lst (ws ++ [v11]))) := Nx.put (List.mem_of_getElem? h11) g11 fun z => z
    have rs12 : RS G.k μ11 (S11.set S1.length (.lst (acc ++ [y11]))) (upd H11 A (.lst (ws ++ [v11]))) :=
      RS.put (K := G.k) rs11 h11 g11 (fun z => z) ⟨_, upd_same, (r11.append (.cons rd11 .nil)).mono n12⟩
    exact ⟨ws, g11, by rw [← r11.length]; exact hz, μ11, _, (a10.nx n11 rs11).nx n12 rs12, ((re9'.mono n10).mono n11).mono n12, n0_11.trans n12, (n6_10.trans n11).trans n12, Po.nx n12 q11⟩
  · simp only [if_neg hz] at q11; exact q11.elim
theorem se_lc2 {elt tg iter tg1 iter1 : Expr} {ifs ifs1 : List Expr} {scope : Scope} {own : List (Str × Nat)} {vs1 ts ts1 : List Nat} {pos : Pos} {mi mi1 : MI} {g g1 : MG} {tt tt1 : MB} {te : ME} (hc : G.X.calm = true) (hN : G.X.N.Nodup) (hi : SI G tg iter mi) (ok : BlkOk G.X.N G.X.env.scope scope own) (hv : ∀ i ∈ vs1, i ∈ own.map (·.2))
    (hg : ∀ (s : Shared) (H : Hp) (C : Addr) (cl : List (Str × Addr)) (fp : List Addr), SG (G.blk s H scope (compEnvC scope cl C G.X.env) fp) ts tg g) (ht : ∀ (s : Shared) (H : Hp) (C : Addr) (cl : List (Str × Addr)) (fp : List Addr), STs (G.blk s H scope (compEnvC scope cl C G.X.env) fp) ifs tt)
    (hi1 : ∀ (s : Shared) (H : Hp) (C : Addr) (cl : List (Str × Addr)) (fp : List Addr), SI (G.blk s H scope (compEnvC scope cl C G.X.env) fp) tg1 iter1 mi1)
    (hg1 : ∀ (s : Shared) (H : Hp) (C : Addr) (cl : List (Str × Addr)) (fp : List Addr), SG (G.blk s H scope (compEnvC scope cl C G.X.env) fp) ts1 tg1 g1) (ht1 : ∀ (s : Shared) (H : Hp) (C : Addr) (cl : List (Str × Addr)) (fp : List Addr), STs (G.blk s H scope (compEnvC scope cl C G.X.env) fp) ifs1 tt1)
    (he : ∀ (s : Shared) (H : Hp) (C : Addr) (cl : List (Str × Addr)) (fp : List Addr), SE (G.blk s H scope (compEnvC scope cl C G.X.env) fp) elt te) (hts : ∀ i ∈ ts, i ∈ own.map (·.2)) (hts1 : ∀ i ∈ ts1, i ∈ vs1)
    (hs : ∀ z, foldedSetIterable iter G.X.env z = pure z := by intro _; rfl) (hs1 : ∀ env z, foldedSetIterable iter1 env z = pure z := by intro _ _; rfl) :
    SE G (.ListComp elt [⟨tg, iter, ifs, 0⟩, ⟨tg1, iter1, ifs1, 0⟩] scope pos) (mLc2 mi g tt mi1 g1 tt1 te (own.map (·.2)) vs1) :=
  pe_imp (pe_lc2 hc hN hi ok hv hg ht hi1 hg1 ht1 he hs hs1) fun σ H Q h => tE_lc2 hts hts1 h
theorem ss_setLc2 (i : Nat) {y : Str} {py : Pos} {elt tg iter tg1 iter1 : Expr} {ifs ifs1 : List Expr} {scope : Scope} {own : List (Str × Nat)} {vs1 ts ts1 : List Nat} {pos spos : Pos} {mi mi1 : MI} {g g1 : MG} {tt tt1 : MB} {te : ME} (hc : G.X.calm = true) (hN : G.X.N.Nodup) (hi : SI G tg iter mi) (ok : BlkOk G.X.N G.X.env.scope scope own) (hv : ∀ i ∈ vs1, i ∈ own.map (·.2))
    (hg : ∀ (s : Shared) (H : Hp) (C : Addr) (cl : List (Str × Addr)) (fp : List Addr), SG (G.blk s H scope (compEnvC scope cl C G.X.env) fp) ts tg g) (ht : ∀ (s : Shared) (H : Hp) (C : Addr) (cl : List (Str × Addr)) (fp : List Addr), STs (G.blk s H scope (compEnvC scope cl C G.X.env) fp) ifs tt)
    (hi1 : ∀ (s : Shared) (H : Hp) (C : Addr) (cl : List (Str × Addr)) (fp : List Addr), SI (G.blk s H scope (compEnvC scope cl C G.X.env) fp) tg1 iter1 mi1)
    (hg1 : ∀ (s : Shared) (H : Hp) (C : Addr) (cl : List (Str × Addr)) (fp : List Addr), SG (G.blk s H scope (compEnvC scope cl C G.X.env) fp) ts1 tg1 g1) (ht1 : ∀ (s : Shared) (H : Hp) (C : Addr) (cl : List (Str × Addr)) (fp : List Addr), STs (G.blk s H scope (compEnvC scope cl C G.X.env) fp) ifs1 tt1)
    (he : ∀ (s : Shared) (H : Hp) (C : Addr) (cl : List (Str × Addr)) (fp : List Addr), SE (G.blk s H scope (compEnvC scope cl C G.X.env) fp) elt te) (hts : ∀ i ∈ ts, i ∈ own.map (·.2)) (hts1 : ∀ i ∈ ts1, i ∈ vs1)
    (hy : G.X.N[i]? = some y := by rfl) (hyl : G.X.env.scope.names.lookup y = some .local := by rfl) (hsw : swapsWith (.ListComp elt [⟨tg, iter, ifs, 0⟩, ⟨tg1, iter1, ifs1, 0⟩] scope pos) (some (.Name y py)) spos.line G.X.env = pure true := by exact sw_true rfl rfl rfl (by decide +kernel))
    (hs : ∀ z, foldedSetIterable iter G.X.env z = pure z := by intro _; rfl) (hs1 : ∀ env z, foldedSetIterable iter1 env z = pure z := by intro _ _; rfl) :
    SS G (.Assign [.Name y py] (.ListComp elt [⟨tg, iter, ifs, 0⟩, ⟨tg1, iter1, ifs1, 0⟩] scope pos) spos) (sSet (mLc2 mi g tt mi1 g1 tt1 te (own.map (·.2)) vs1) i) :=
  ps_imp (ps_setLc2 hc hN hy hyl hsw hi ok hv hg ht hi1 hg1 ht1 he hs hs1) fun E σ H h => tE_lc2 hts hts1 (by
    obtain ⟨ρ, μ, S, at', q⟩ := h
    refine ⟨ρ, μ, S, at', po_to at' q fun μ1 H1 S1 d v n a1 d1 q1 => ?_⟩
    exact q1 μ1 H1 _ (Nx.refl μ1 H1) a1.rs (a1.re.set i d1))
/-! ## dict displays with texts or ints as keys -/
def pairsM : List (ME × ME) → Ev → Sto → R (List (D × D))
  | [], _, S => .ok [] S
  | (mk, mv) :: r, ρ, S => (mk ρ S).bind fun k S1 => (mv ρ S1).bind fun v S2 => (pairsM r ρ S2).bind fun ps S3 => .ok ((k, v) :: ps) S3
def kvsD : List (D × D) → Option (List (Key × D))
  | [] => some []
  | (k, v) :: r => match keyD k, kvsD r with
    | some k, some r => some ((k, v) :: r)
    | _, _ => none
def mergeKD (kvs more : List (Key × D)) : List (Key × D) := more.foldl (fun acc kv => putKD acc kv.1 kv.2) kvs
def mDisp (trs : List (ME × ME)) : ME := fun ρ S => (pairsM trs ρ (S ++ [.dk []])).bind fun ps S1 => match kvsD ps with
  | some kvs => match S1[S.length]? with
    | some (.dk []) => if kvs.length ≤ 15 then .ok (.ref S.length) (S1.set S.length (.dk (mergeKD [] kvs))) else .stuck
    | _ => .stuck
  | none => .stuck
/-- pairs of trees and of values -/
inductive RPs (K : Kx) (μ : Mp) (H : Hp) : List (D × D) → List (V × V) → Prop where
  | nil : RPs K μ H [] []
  | cons {k v : D} {x y : V} {ds : List (D × D)} {vs : List (V × V)} (h : RD K μ H k x) (h' : RD K μ H v y) (t : RPs K μ H ds vs) : RPs K μ H ((k, v) :: ds) ((x, y) :: vs)
theorem RPs.mono {K : Kx} {μ μ' : Mp} {H H' : Hp} (n : Nx μ μ' H H') : ∀ {ds : List (D × D)} {vs : List (V × V)}, RPs K μ H ds vs → RPs K μ' H' ds vs
  | _, _, .nil => .nil
  | _, _, .cons h h' t => .cons (h.mono n) (h'.mono n) (RPs.mono n t)
theorem RPs.kvs {K : Kx} {μ : Mp} {H : Hp} : ∀ {ds : List (D × D)} {vs : List (V × V)} {kvs : List (Key × D)}, RPs K μ H ds vs → kvsD ds = some kvs → ∃ ws : List (Key × V), vs = ws.map (fun kv => (kV kv.1, kv.2)) ∧ ws.map (·.1) = kvs.map (·.1) ∧ RDs K μ H (kvs.map (·.2)) (ws.map (·.2))
  | _, _, _, .nil, e => by cases e; exact ⟨[], rfl, rfl, .nil⟩
  | _, _, _, .cons (y := y) h h' t, e => by
    simp only [kvsD] at e
    split at e
    · rename_i k r h1 h2
      cases e
      obtain ⟨ws, e1, e2, e3⟩ := t.kvs h2
      exact ⟨(k, y) :: ws, by rw [e1, keyD_ok h1 h]; rfl, by simp [e2], .cons h' e3⟩
    · cases e
theorem merge_rel {K : Kx} {μ : Mp} {H : Hp} : ∀ {more kvs : List (Key × D)} {more' ws : List (Key × V)}, more'.map (·.1) = more.map (·.1) → RDs K μ H (more.map (·.2)) (more'.map (·.2)) → ws.map (·.1) = kvs.map (·.1) → RDs K μ H (kvs.map (·.2)) (ws.map (·.2)) →
    (mergeK ws more').map (·.1) = (mergeKD kvs more).map (·.1) ∧ RDs K μ H ((mergeKD kvs more).map (·.2)) ((mergeK ws more').map (·.2))
  | [], kvs, [], ws, _, _, e, r => ⟨e, r⟩
  | (k, d) :: more, kvs, (k', v) :: more', ws, em, rm, e, r => by
    simp only [List.map_cons, List.cons.injEq] at em
    obtain ⟨rfl, em⟩ := em
    cases rm with
    | cons r0 rm =>
      obtain ⟨p1, p2⟩ := put_rel (k := k') r0 e r
      exact merge_rel (more := more) (more' := more') (kvs := putKD kvs k' d) (ws := putK ws k' v) em rm p1 p2
  | [], _, _ :: _, _, em, _, _, _ => by simp at em
  | _ :: _, _, [], _, em, _, _, _ => by simp at em
def trsT (G : Gx) (trs : List (ME × ME)) : List (TE × TE) := trs.map fun t => (tE G t.1, tE G t.2)
theorem pairs_ok {σ : L2.St} {ρ : Ev} : ∀ {trs : List (ME × ME)} {μ : Mp} {H : Hp} {S : Sto} {Q : VK} {R0 : List (V × V) → Hp → Prop} {f : List (D × D) → Sto → R D}, At G.g μ H ρ σ S → Po G.g (relD G.g) μ H σ Q ((pairsM trs ρ S).bind f) →
    (∀ (μ' : Mp) (H' : Hp) (S' : Sto) (ps : List (D × D)) (vs : List (V × V)), Nx μ μ' H H' → At G.g μ' H' ρ σ S' → RPs G.k μ' H' ps vs → Po G.g (relD G.g) μ' H' σ Q (f ps S') → R0 vs H') → tPairs (trsT G.g trs) σ H R0
  | [], μ, H, S, Q, R0, f, a, q, k => k μ H S [] [] (Nx.refl _ _) a .nil q
  | (mk, mv) :: r, μ, H, S, Q, R0, f, a, q, k => by
    have q0 : Po G.g (relD G.g) μ H σ Q ((mk ρ S).bind fun kd S1 => (mv ρ S1).bind fun vd S2 => (pairsM r ρ S2).bind fun ps S3 => f ((kd, vd) :: ps) S3) := by
      have e : (pairsM ((mk, mv) :: r) ρ S).bind f = (mk ρ S).bind fun kd S1 => (mv ρ S1).bind fun vd S2 => (pairsM r ρ S2).bind fun ps S3 => f ((kd, vd) :: ps) S3 := by
        simp only [pairsM]
        cases mk ρ S with
        | stuck => rfl
        | exc c fs S1 => rfl
        | ok kd S1 =>
          show ((mv ρ S1).bind _).bind f = (mv ρ S1).bind _
          cases mv ρ S1 with
          | stuck => rfl
          | exc c fs S2 => rfl
          | ok vd S2 =>
            show ((pairsM r ρ S2).bind _).bind f = (pairsM r ρ S2).bind _
            cases pairsM r ρ S2 with
            | stuck => rfl
            | exc c fs S3 => rfl
            | ok ps S3 => rfl
      rw [← e]; exact q
    refine ⟨ρ, μ, S, a, po_1 a q0 fun μ1 H1 S1 kd x n1 a1 d1 q1 => ?_⟩
    refine ⟨ρ, μ1, S1, a1, po_1 a1 q1 fun μ2 H2 S2 vd y n2 a2 d2 q2 => ?_⟩
    exact pairs_ok (trs := r) (f := fun ps S3 => f ((kd, vd) :: ps) S3) a2 q2 fun μ3 H3 S3 ps vs n3 a3 d3 q3 => k μ3 H3 S3 _ _ ((n1.trans n2).trans n3) a3 (.cons ((d1.mono n2).mono n3) (d2.mono n3) d3) q3
abbrev SPs (G : Fx) (pos : Pos) (keys : List (Option Expr)) (values : List Expr) (trs : List (ME × ME)) : Prop := PPs G.X pos keys values (trsT G.g trs)
theorem sps_nil {pos : Pos} : SPs G pos [] [] [] := pps_nil
theorem sps_cons {pos : Pos} {k v : Expr} {ks : List (Option Expr)} {vs : List Expr} {mk mv : ME} {trs : List (ME × ME)} (hk : SE G k mk) (hv : SE G v mv) (hr : SPs G pos ks vs trs) : SPs G pos (some k :: ks) (v :: vs) ((mk, mv) :: trs) := pps_cons hk hv hr
theorem se_disp {pos : Pos} {keys : List (Option Expr)} {values : List Expr} {trs : List (ME × ME)} (h : SPs G pos keys values trs) (hall : keys.all (·.isSome) = true := by rfl) (hl : keys.length = values.length := by rfl) (h0 : keys ≠ [] := by exact fun z => nomatch z) (h15 : keys.length ≤ 15 := by decide) :
    SE G (.Dict keys values pos) (mDisp trs) := pe_imp (pe_disp h hall hl h0 h15) fun σ H Q h => by
  obtain ⟨ρ, μ, S, a, q⟩ := h
  intro p hp
  have n0 : Nx μ (μ.add p) H (upd H p (.dK [])) := Nx.new1 hp
  have r0 : RS G.k (μ.add p) (S ++ [.dk []]) (upd H p (.dK [])) := a.rs.new1 hp ⟨[], upd_same, rfl, .nil⟩
  have hm : (μ.add p).m[S.length]? = some p := by simp [← a.rs.len]
  refine pairs_ok (a.nx n0 r0) (Po.nx n0 q) fun μ1 H1 S1 ps vs n1 a1 d1 q1 => ?_
  split at q1
  rotate_left
  · exact q1.elim
  rename_i kvs hk
  split at q1
  rotate_left
  · exact q1.elim
  rename_i hs
  split at q1
  rotate_left
  · exact q1.elim
  rename_i h15'
  obtain ⟨ws, e1, e2, e3⟩ := d1.kvs hk
  have hm1 := n1.at hm
  obtain ⟨ws0, g0, g1, _⟩ := a1.rs.ob _ _ _ hm1 hs
  have gz : ws0 = [] := by
    cases ws0 with
    | nil => rfl
    | cons a b => simp at g1
  subst gz
  obtain ⟨m1, m2⟩ := merge_rel (kvs := []) (ws := []) e2 e3 rfl .nil
  have nx : Nx μ1 μ1 H1 (upd H1 p (.dK (mergeK [] ws))) := Nx.put (List.mem_of_getElem? hm1) g0 fun z => z
  refine ⟨g0, ws, e1, ?_, q1 μ1 _ _ nx (a1.rs.put hm1 g0 (fun z => z) ⟨_, upd_same, m1, m2.mono nx⟩) (.ref hm1)⟩
  have := congrArg List.length e2
  simp only [List.length_map] at this
  omega
end
end Dn

set_option Elab.async false
set_option linter.all false
set_option maxRecDepth 100000
set_option maxHeartbeats 2000000
namespace Dn
open PySem PySem.Spec PyProof.Rows L2 RZ
/-! Mirrors are run by simp, the first thing first. -/
section
variable {α β : Type}
theorem R.bind_congr {r r' : R α} {f : α → Sto → R β} (h : r = r') : r.bind f = r'.bind f := by rw [h]
theorem R.bindN_congr {r r' : R α} {f : α → Sto → R β} (h : r = r') : r.bindN f = r'.bindN f := by rw [h]
theorem R.to_congr {r r' : R α} {ρ : Ev} {f : α → Sto → F} (h : r = r') : r.to ρ f = r'.to ρ f := by rw [h]
theorem F.seq_congr {r r' : F} {k : Ev → Sto → F} (h : r = r') : r.seq k = r'.seq k := by rw [h]
@[simp] theorem R.bind_ok {a : α} {S : Sto} {f : α → Sto → R β} : (R.ok a S).bind f = f a S := rfl
@[simp] theorem R.bind_exc {c : Addr} {fs : List (Str × D)} {S : Sto} {f : α → Sto → R β} : (R.exc c fs S : R α).bind f = .exc c fs S := rfl
@[simp] theorem R.bind_stuck {f : α → Sto → R β} : (R.stuck : R α).bind f = .stuck := rfl
@[simp] theorem R.bindN_ok {a : α} {S : Sto} {f : α → Sto → R β} : (R.ok a S).bindN f = f a S := rfl
@[simp] theorem R.to_ok {a : α} {S : Sto} {ρ : Ev} {f : α → Sto → F} : (R.ok a S).to ρ f = f a S := rfl
@[simp] theorem R.to_exc {c : Addr} {fs : List (Str × D)} {S : Sto} {ρ : Ev} {f : α → Sto → F} : (R.exc c fs S : R α).to ρ f = .ex c fs ρ S := rfl
@[simp] theorem F.seq_nx {ρ : Ev} {S : Sto} {k : Ev → Sto → F} : (F.nx ρ S).seq k = k ρ S := rfl
@[simp] theorem F.seq_rt {d : D} {S : Sto} {k : Ev → Sto → F} : (F.rt d S).seq k = .rt d S := rfl
@[simp] theorem F.seq_bk {ρ : Ev} {S : Sto} {k : Ev → Sto → F} : (F.bk ρ S).seq k = .bk ρ S := rfl
@[simp] theorem F.seq_ct {ρ : Ev} {S : Sto} {k : Ev → Sto → F} : (F.ct ρ S).seq k = .ct ρ S := rfl
@[simp] theorem F.seq_ex {c : Addr} {fs : List (Str × D)} {ρ : Ev} {S : Sto} {k : Ev → Sto → F} : (F.ex c fs ρ S).seq k = .ex c fs ρ S := rfl
end
section
variable {ρ : Ev} {S : Sto} {f g : D → D → Sto → R D} {h1 : D → Sto → R D} {hL : List D → Sto → R D} {ma mb mc : ME} {tc td : MB} {mA mB : ML} {ms mr : MS} {tg : MG} {i j n : Nat} {d e : D} {ds : List D} {mi : MI} {it : Wk} {body : MS}
/-- where a match stands on a result -/
def R.cases {α β : Type} (r : R α) (k : α → Sto → R β) : R β := r.bind k
@[simp] theorem mVar_0 {o : Option D} {r : Ev} : mVar 0 (o :: r) S = (match o with | some d => .ok d S | none => .stuck) := by cases o <;> rfl
@[simp] theorem mVar_s {o : Option D} {r : Ev} : mVar (i + 1) (o :: r) S = mVar i r S := rfl
@[simp] theorem mC_eq : mC d ρ S = .ok d S := rfl
@[simp] theorem m1_eq : m1 h1 ma ρ S = (ma ρ S).bind fun x S1 => h1 x S1 := rfl
@[simp] theorem m2_eq : m2 f ma mb ρ S = (ma ρ S).bind fun x S1 => (mb ρ S1).bind fun y S2 => f x y S2 := rfl
@[simp] theorem mNil_eq : mNil ρ S = .ok [] S := rfl
@[simp] theorem mCons_eq : mCons ma mA ρ S = (ma ρ S).bind fun x S1 => (mA ρ S1).bind fun xs S2 => .ok (x :: xs) S2 := rfl
@[simp] theorem mL_eq : mL hL mA ρ S = (mA ρ S).bind fun xs S1 => hL xs S1 := rfl
@[simp] theorem mNo_eq : mNo ρ S = .ok none S := rfl
@[simp] theorem mYo_eq : mYo ma ρ S = (ma ρ S).bind fun d S1 => match d with
  | .int i => .ok (some i) S1
  | _ => .stuck := rfl
@[simp] theorem mSl_eq {ml mh : MO} : mSl ma ml mh ρ S = (ma ρ S).bind fun x S1 => (ml ρ S1).bind fun lo S2 => (mh ρ S2).bind fun hi S3 => sliceD x lo hi S3 := rfl
@[simp] theorem mT_eq : mT ma ρ S = (ma ρ S).bind fun d S1 => match truD S1 d with
  | some b => .ok b S1
  | none => .stuck := rfl
@[simp] theorem mTb_eq : mTb ma ρ S = (ma ρ S).bind fun d S1 => match d with
  | .bl b => .ok b S1
  | _ => .stuck := rfl
@[simp] theorem mChain_eq : mChain f g ma mb mc ρ S = (ma ρ S).bind fun x S1 => (mb ρ S1).bind fun y S2 => (f x y S2).bind fun z S3 => match z with
  | .bl true => (mc ρ S3).bind fun w S4 => g y w S4
  | .bl false => .ok (.bl false) S3
  | _ => .stuck := rfl
@[simp] theorem mNot_eq : mNot tc ρ S = (tc ρ S).bind fun b S1 => .ok (!b) S1 := rfl
@[simp] theorem mAnd_eq : mAnd tc td ρ S = (tc ρ S).bind fun b S1 => if b then td ρ S1 else .ok false S1 := rfl
@[simp] theorem mOr_eq : mOr tc td ρ S = (tc ρ S).bind fun b S1 => if b then .ok true S1 else td ρ S1 := rfl
@[simp] theorem mAndV_eq : mAndV ma mb ρ S = (ma ρ S).bind fun d S1 => match truD S1 d with
  | some true => mb ρ S1
  | some false => .ok d S1
  | none => .stuck := rfl
@[simp] theorem mOrV_eq : mOrV ma mb ρ S = (ma ρ S).bind fun d S1 => match truD S1 d with
  | some true => .ok d S1
  | some false => mb ρ S1
  | none => .stuck := rfl
@[simp] theorem mIf_eq : mIf tc ma mb ρ S = (tc ρ S).bind fun b S1 => if b then ma ρ S1 else mb ρ S1 := rfl
@[simp] theorem mMeth_eq {T : String} {f : D → List D → Sto → R D} : mMeth T f ma mA ρ S = (ma ρ S).bind fun o S1 => if tyIs T S1 o then (mA ρ S1).bind fun ds S2 => f o ds S2 else .stuck := rfl
@[simp] theorem mKw_eq {gV : List D → List D → List D} : mKw gV hL n mA mB ρ S = (mA ρ S).bind fun ds S1 => (mB ρ S1).bind fun ks S2 => if (gV ds ks).length = n then hL (gV ds ks) S2 else .stuck := rfl
@[simp] theorem sSkip_eq : sSkip ρ S = .nx ρ S := rfl
@[simp] theorem sSeq_eq : sSeq ms mr ρ S = (ms ρ S).seq mr := rfl
@[simp] theorem sRet_eq : sRet ma ρ S = (ma ρ S).to ρ fun d S1 => .rt d S1 := rfl
@[simp] theorem sRetN_eq : sRetN ρ S = .rt .non S := rfl
@[simp] theorem sExpr_eq : sExpr ma ρ S = (ma ρ S).to ρ fun _ S1 => .nx ρ S1 := rfl
@[simp] theorem sIf_eq : sIf tc ms mr ρ S = (tc ρ S).to ρ fun b S1 => if b then ms ρ S1 else mr ρ S1 := rfl
@[simp] theorem sSet_eq : sSet ma i ρ S = (ma ρ S).to ρ fun d S1 => .nx (ρ.set i (some d)) S1 := rfl
@[simp] theorem sAsg_eq : sAsg ma tg ρ S = (ma ρ S).to ρ fun d S1 => match tg d ρ S1 with
  | .ok ρ2 S2 => .nx ρ2 S2
  | _ => .stuck := rfl
@[simp] theorem sPar_eq : sPar mA i j ρ S = (mA ρ S).to ρ fun ds S1 => match ds with
  | [d, e] => .nx ((ρ.set i (some d)).set j (some e)) S1
  | _ => .stuck := rfl
@[simp] theorem gN_eq : gN i d ρ S = .ok (ρ.set i (some d)) S := rfl
@[simp] theorem gs0_eq : gs0 [] ρ S = .ok ρ S := rfl
@[simp] theorem gsC_eq {gs : MGs} : gsC tg gs (d :: ds) ρ S = (tg d ρ S).bind fun ρ1 S1 => gs ds ρ1 S1 := rfl
@[simp] theorem gT_eq {gs : MGs} : gT n gs (.tup ds) ρ S = if ds.length = n then gs ds ρ S else .stuck := rfl
@[simp] theorem gSub_eq {mo mi : ME} : gSub mo mi d ρ S = (mo ρ S).bind fun o S1 => (mi ρ S1).bind fun i S2 => match putD o i S2 d with
  | some S3 => .ok ρ S3
  | none => .stuck := rfl
@[simp] theorem mI_eq : mI ma ρ S = (ma ρ S).bind fun d S1 => match walkD S1 d with
  | some it => .ok it S1
  | none => .stuck := rfl
theorem mIA_eq {f : List D → Sto → Option Wk} : mIA f mA ρ S = (mA ρ S).bind fun ds S1 => match f ds S1 with
  | some it => .ok it S1
  | none => .stuck := rfl
theorem sFor_eq : sFor mi tg body ρ S = (mi ρ S).to ρ fun it S1 => forF it tg body it.n ρ S1 := rfl
theorem mLc_eq {tt : MB} {te : ME} {own : List Nat} : mLc mi tg tt te own ρ S = (mi ρ S).bind fun it S1 => (lcF it tg tt te own S1.length ρ it.n (S1 ++ [.lst []])).bindN fun _ S2 => .ok (.ref S1.length) S2 := rfl
@[simp] theorem tYesM_eq : tYesM ρ S = .ok true S := rfl
@[simp] theorem mDk_eq : mDk ρ S = .ok (.ref S.length) (S ++ [.dk []]) := rfl
@[simp] theorem addD_int {x y : Int} : addD (.int x) (.int y) S = .ok (.int (x + y)) S := rfl
@[simp] theorem int0D_int {g : Int → Int → Int} {x y : Int} : int0D g (.int x) (.int y) S = .ok (.int (g x y)) S := rfl
@[simp] theorem intD_int {c : Int → Int → Bool} {g : Int → Int → Int} {x y : Int} : intD c g (.int x) (.int y) S = if c x y then .ok (.int (g x y)) S else .stuck := rfl
@[simp] theorem icmpD_int {g : Int → Int → Bool} {x y : Int} : icmpD g (.int x) (.int y) S = .ok (.bl (g x y)) S := rfl
@[simp] theorem mulD_int {x y : Int} : mulD (.int x) (.int y) S = if cMul x y then .ok (.int (x * y)) S else .stuck := rfl
@[simp] theorem intC_int {x : Int} : intC [.int x] S = .ok (.int x) S := rfl
@[simp] theorem intC_bl {x : Bool} : intC [.bl x] S = .ok (.int (if x then 1 else 0)) S := rfl
end
end Dn

set_option Elab.async false
set_option linter.all false
set_option maxRecDepth 100000
set_option maxHeartbeats 4000000
namespace Dn
open PySem PySem.Spec PyProof.Rows L2 RZ
/-! The draws that all laws make: a pool of two numbers, and what is taken from it. -/
def takeB : MS := (sSeq (sIf (mTb (m2 (icmpD fun i j => decide (j < i)) (m2 itemD (mVar 0) (mC (.int 0))) (mC (.int 0)))) (sSeq (sSet (m2 (intD cMod fun i j => i % j) (mL intC (mCons (m2 itemD (mVar 0) (mC (.int 0))) mNil)) (mVar 1)) 2)
    (sSeq (sAsg (m2 (intD cDiv fun i j => i / j) (m2 itemD (mVar 0) (mC (.int 0))) (mVar 1)) (gSub (mVar 0) (mC (.int 0))))
    (sRet (mVar 2)))) sSkip)
    (sSeq (sAsg (m2 (intD cMod fun i j => i % j) (mL intC (mCons (m2 addD (m2 mulD (m2 itemD (mVar 0) (mC (.int 1))) (mC (.int 48271))) (mC (.int 12345))) mNil)) (mC (.int 2147483647))) (gSub (mVar 0) (mC (.int 1))))
    (sRet (m2 (intD cMod fun i j => i % j) (m2 (intD cDiv fun i j => i / j) (m2 (intD cMod fun i j => i % j) (mL intC (mCons (m2 mulD (m2 itemD (mVar 0) (mC (.int 1))) (m2 itemD (mVar 0) (mC (.int 1)))) mNil)) (mC (.int 2147483629))) (mC (.int 64))) (mVar 1)))))
def poolB : MS := (sSeq (sSet (m2 itemD (m2 addD (mSl (mVar 0) (mYo (mVar 1)) (mYo (m2 addD (mVar 1) (mC (.int 1))))) (mL lstD (mCons (mC (.int 0)) mNil))) (mC (.int 0))) 2)
    (sSeq (sSet (mIf (mTb (m2 (icmpD fun i j => decide (j ≤ i)) (mVar 2) (mC (.int 0)))) (mVar 2) (m2 (int0D fun i j => i - j) (m1 negD (mC (.int 1))) (mVar 2))) 3)
    (sSeq (sSet (m2 (intD cMod fun i j => i % j) (m2 mulD (mL intC (mCons (m2 addD (m2 addD (m2 addD (m2 (intD cMod fun i j => i % j) (mVar 3) (mC (.int 2147483629))) (m2 mulD (m2 mulD (mC (.int 7919)) (mVar 1)) (mVar 1))) (m2 mulD (mC (.int 31)) (mVar 1))) (mC (.int 17))) mNil)) (mC (.int 48271))) (mC (.int 2147483647))) 4)
    (sRet (mL lstD (mCons (m2 mulD (mVar 3) (mL intC (mCons (m2 (icmpD fun i j => decide (j ≤ i)) (mVar 3) (m2 (intD cPow fun i j => i ^ j.toNat) (mC (.int 10)) (mC (.int 18)))) mNil))) (mCons (m2 (intD cMod fun i j => i % j) (m2 mulD (mVar 4) (mVar 4)) (mC (.int 2147483629))) mNil)))))))
/-- a pool stands at i -/
def Pool (S : Sto) (i : Nat) : Prop := ∃ a b : Int, S[i]? = some (.lst [.int a, .int b]) ∧ 0 ≤ b ∧ b < 2147483647
theorem take_spec {S : Sto} {i : Nat} {n : Int} (h : Pool S i) (h1 : 1 ≤ n) (h2 : n < 1073741824) : ∃ d a b, fnD takeB 3 [.ref i, .int n] S = .ok (.int d) (S.set i (.lst [.int a, .int b])) ∧ 0 ≤ d ∧ d < n ∧ 0 ≤ b ∧ b < 2147483647 := by
  obtain ⟨a, b, e, hb0, hb1⟩ := h
  have hz : ∀ x, (S.set i x)[i]? = some x := fun x => List.getElem?_set_self (List.getElem?_eq_some_iff.mp e).1
  have x2 : ∀ x, cMod x n = true := by simp [cMod]; omega
  have x3 : ∀ x, cDiv x n = true := by simp [cDiv]; omega
  have x4 : ∀ x, cMod x 2147483647 = true := by simp [cMod]
  have x5 : ∀ x, cMod x 2147483629 = true := by simp [cMod]
  have x6 : ∀ x, cDiv x 64 = true := by simp [cDiv]
  have x7 : cMul b 48271 = true := by simp [cMul]
  by_cases ha : 0 < a
  · refine ⟨a % n, a / n, b, ?_, Int.emod_nonneg _ (by omega), Int.emod_lt_of_pos _ (by omega), hb0, hb1⟩
    simp [takeB, fnD, itemD, e, atI, ixN, putD, ha, x2, x3]
  · have y0 : 0 ≤ (b * 48271 + 12345) % 2147483647 := Int.emod_nonneg _ (by decide)
    have y1 : (b * 48271 + 12345) % 2147483647 < 2147483647 := Int.emod_lt_of_pos _ (by decide)
    have x8 : cMul ((b * 48271 + 12345) % 2147483647) ((b * 48271 + 12345) % 2147483647) = true := by simp [cMul]; omega
    refine ⟨(b * 48271 + 12345) % 2147483647 * ((b * 48271 + 12345) % 2147483647) % 2147483629 / 64 % n, a, (b * 48271 + 12345) % 2147483647, ?_, Int.emod_nonneg _ (by omega), Int.emod_lt_of_pos _ (by omega), y0, y1⟩
    simp [takeB, fnD, itemD, e, atI, ixN, putD, ha, x2, x3, x4, x5, x6, x7, x8, hz]
@[simp] theorem get_app {α : Type} (S T : List α) (k : Nat) : (S ++ T)[S.length + k]? = T[k]? := by rw [List.getElem?_append_right (Nat.le_add_right _ _), Nat.add_sub_cancel_left]
@[simp] theorem get_app0 {α : Type} (S T : List α) : (S ++ T)[S.length]? = T[0]? := get_app S T 0
@[simp] theorem set_app {α : Type} (S T : List α) (k : Nat) (x : α) : (S ++ T).set (S.length + k) x = S ++ T.set k x := by rw [List.set_append_right _ _ (Nat.le_add_right _ _), Nat.add_sub_cancel_left]
@[simp] theorem set_app0 {α : Type} (S T : List α) (x : α) : (S ++ T).set S.length x = S ++ T.set 0 x := set_app S T 0 x
@[simp] theorem negD_int {S : Sto} {x : Int} : negD (.int x) S = .ok (.int (-x)) S := rfl
@[simp] theorem notD_bl {S : Sto} {x : Bool} : notD (.bl x) S = .ok (.bl (!x)) S := rfl
theorem atI_lit {α : Type} {xs : List α} {j : Nat} {v : α} (h : xs[j]? = some v) : atI xs (j : Int) = some v := atI_nat h
@[simp] theorem atI_0 {α : Type} {x : α} {xs : List α} : atI (x :: xs) 0 = some x := atI_nat (j := 0) rfl
@[simp] theorem atI_1 {α : Type} {x y : α} {xs : List α} : atI (x :: y :: xs) 1 = some y := atI_nat (j := 1) rfl
@[simp] theorem atI_2 {α : Type} {x y z : α} {xs : List α} : atI (x :: y :: z :: xs) 2 = some z := atI_nat (j := 2) rfl
@[simp] theorem atI_3 {α : Type} {x y z u : α} {xs : List α} : atI (x :: y :: z :: u :: xs) 3 = some u := atI_nat (j := 3) rfl
@[simp] theorem atI_4 {α : Type} {x y z u v : α} {xs : List α} : atI (x :: y :: z :: u :: v :: xs) 4 = some v := atI_nat (j := 4) rfl
@[simp] theorem atI_5 {α : Type} {x y z u v w : α} {xs : List α} : atI (x :: y :: z :: u :: v :: w :: xs) 5 = some w := atI_nat (j := 5) rfl
theorem pool_spec {S : Sto} {ns : List Int} {k : Int} (h0 : 0 ≤ k) (h1 : k ≤ 63) (hl : ns.length ≤ 63) : ∃ c1 c2 c3 a b, fnD poolB 5 [.rol (ns.map D.int), .int k] S = .ok (.ref (S.length + 3)) (S ++ [c1, c2, c3, .lst [.int a, .int b]]) ∧ 0 ≤ b ∧ b < 2147483647 := by
  obtain ⟨c, hc, hcl⟩ : ∃ c : Int, atI (cutD (ns.map D.int) (some k) (some (k + 1)) ++ [D.int 0]) 0 = some (.int c) ∧ (cutD (ns.map D.int) (some k) (some (k + 1))).length ≤ 63 := by
    obtain ⟨l, hcut⟩ : ∃ l : List Int, cutD (ns.map D.int) (some k) (some (k + 1)) = l.map D.int ∧ l.length ≤ 63 := by
      unfold cutD
      rw [← List.map_drop, ← List.map_take]
      exact ⟨_, rfl, by simp; omega⟩
    rw [hcut.1]
    cases l with
    | nil => exact ⟨0, rfl, by simp⟩
    | cons a r => exact ⟨a, by simp, by simpa using hcut.2⟩
  obtain ⟨m, hm⟩ : ∃ m : Int, m = if 0 ≤ c then c else -1 - c := ⟨_, rfl⟩
  have x1 : ∀ x, cMod x 2147483629 = true := by simp [cMod]
  have x2 : ∀ x, cMod x 2147483647 = true := by simp [cMod]
  have x3 : ∀ x, cMul x 48271 = true := by simp [cMul]
  have x4 : cMul 7919 k = true := by simp [cMul]
  have x5 : cMul (7919 * k) k = true := by simp [cMul]; omega
  have x6 : cMul 31 k = true := by simp [cMul]
  have x7 : cPow 10 18 = true := by decide
  obtain ⟨x, hx⟩ : ∃ x : Int, x = (m % 2147483629 + 7919 * k * k + 31 * k + 17) * 48271 % 2147483647 := ⟨_, rfl⟩
  have y0 : 0 ≤ x := by rw [hx]; exact Int.emod_nonneg _ (by decide)
  have y1 : x < 2147483647 := by rw [hx]; exact Int.emod_lt_of_pos _ (by decide)
  have x8 : cMul x x = true := by simp [cMul]; omega
  have x9 : ∀ (b : Prop) [Decidable b], cMul m (if b then 1 else 0) = true := by intro b _; by_cases b <;> simp [cMul, *]
  refine ⟨.lst (cutD (ns.map D.int) (some k) (some (k + 1))), .lst [.int 0], .lst (cutD (ns.map D.int) (some k) (some (k + 1)) ++ [D.int 0]), m * (if 1000000000000000000 ≤ m then 1 else 0), x * x % 2147483629, ?_, Int.emod_nonneg _ (by decide), Int.lt_trans (Int.emod_lt_of_pos _ (by decide)) (by decide)⟩
  have hsz : (cutD (ns.map D.int) (some k) (some (k + 1))).length + 1 ≤ 16777216 := by omega
  by_cases hp : 0 ≤ c
  · rw [if_pos hp] at hm
    subst hm
    simp [poolB, fnD, sliceD, lstD, addD, itemD, hc, hsz, sizeLine_eq, hp, x1, x2, x3, x4, x5, x6, x7, ← hx, x8, x9]
  · rw [if_neg hp] at hm
    simp [poolB, fnD, sliceD, lstD, addD, itemD, hc, hsz, sizeLine_eq, hp, x1, x2, x3, x4, x5, x6, x7, ← hm, ← hx, x8, x9]
end Dn

set_option Elab.async false
set_option linter.all false
set_option maxRecDepth 100000
set_option maxHeartbeats 4000000
namespace Dn
open PySem PySem.Spec PyProof.Rows L2 RZ
section
variable {S : Sto}
@[simp] theorem isi_non_int  : isiD "int" .non S = .ok (.bl false) S := rfl
@[simp] theorem isi_non_bool  : isiD "bool" .non S = .ok (.bl false) S := rfl
@[simp] theorem isi_non_str  : isiD "str" .non S = .ok (.bl false) S := rfl
@[simp] theorem isi_non_tuple  : isiD "tuple" .non S = .ok (.bl false) S := rfl
@[simp] theorem isi_non_list  : isiD "list" .non S = .ok (.bl false) S := rfl
@[simp] theorem isi_non_dict  : isiD "dict" .non S = .ok (.bl false) S := rfl
@[simp] theorem isi_bl_int {b : Bool} : isiD "int" (.bl b) S = .ok (.bl true) S := rfl
@[simp] theorem isi_bl_bool {b : Bool} : isiD "bool" (.bl b) S = .ok (.bl true) S := rfl
@[simp] theorem isi_bl_str {b : Bool} : isiD "str" (.bl b) S = .ok (.bl false) S := rfl
@[simp] theorem isi_bl_tuple {b : Bool} : isiD "tuple" (.bl b) S = .ok (.bl false) S := rfl
@[simp] theorem isi_bl_list {b : Bool} : isiD "list" (.bl b) S = .ok (.bl false) S := rfl
@[simp] theorem isi_bl_dict {b : Bool} : isiD "dict" (.bl b) S = .ok (.bl false) S := rfl
@[simp] theorem isi_int_int {i : Int} : isiD "int" (.int i) S = .ok (.bl true) S := rfl
@[simp] theorem isi_int_bool {i : Int} : isiD "bool" (.int i) S = .ok (.bl false) S := rfl
@[simp] theorem isi_int_str {i : Int} : isiD "str" (.int i) S = .ok (.bl false) S := rfl
@[simp] theorem isi_int_tuple {i : Int} : isiD "tuple" (.int i) S = .ok (.bl false) S := rfl
@[simp] theorem isi_int_list {i : Int} : isiD "list" (.int i) S = .ok (.bl false) S := rfl
@[simp] theorem isi_int_dict {i : Int} : isiD "dict" (.int i) S = .ok (.bl false) S := rfl
@[simp] theorem isi_str_int {x : Str} : isiD "int" (.str x) S = .ok (.bl false) S := rfl
@[simp] theorem isi_str_bool {x : Str} : isiD "bool" (.str x) S = .ok (.bl false) S := rfl
@[simp] theorem isi_str_str {x : Str} : isiD "str" (.str x) S = .ok (.bl true) S := rfl
@[simp] theorem isi_str_tuple {x : Str} : isiD "tuple" (.str x) S = .ok (.bl false) S := rfl
@[simp] theorem isi_str_list {x : Str} : isiD "list" (.str x) S = .ok (.bl false) S := rfl
@[simp] theorem isi_str_dict {x : Str} : isiD "dict" (.str x) S = .ok (.bl false) S := rfl
@[simp] theorem isi_tup_int {xs : List D} : isiD "int" (.tup xs) S = .ok (.bl false) S := rfl
@[simp] theorem isi_tup_bool {xs : List D} : isiD "bool" (.tup xs) S = .ok (.bl false) S := rfl
@[simp] theorem isi_tup_str {xs : List D} : isiD "str" (.tup xs) S = .ok (.bl false) S := rfl
@[simp] theorem isi_tup_tuple {xs : List D} : isiD "tuple" (.tup xs) S = .ok (.bl true) S := rfl
@[simp] theorem isi_tup_list {xs : List D} : isiD "list" (.tup xs) S = .ok (.bl false) S := rfl
@[simp] theorem isi_tup_dict {xs : List D} : isiD "dict" (.tup xs) S = .ok (.bl false) S := rfl
@[simp] theorem isi_rol_int {xs : List D} : isiD "int" (.rol xs) S = .ok (.bl false) S := rfl
@[simp] theorem isi_rol_bool {xs : List D} : isiD "bool" (.rol xs) S = .ok (.bl false) S := rfl
@[simp] theorem isi_rol_str {xs : List D} : isiD "str" (.rol xs) S = .ok (.bl false) S := rfl
@[simp] theorem isi_rol_tuple {xs : List D} : isiD "tuple" (.rol xs) S = .ok (.bl false) S := rfl
@[simp] theorem isi_rol_list {xs : List D} : isiD "list" (.rol xs) S = .ok (.bl true) S := rfl
@[simp] theorem isi_rol_dict {xs : List D} : isiD "dict" (.rol xs) S = .ok (.bl false) S := rfl
theorem isi_lst_int {i : Nat} {xs : List D} (h : S[i]? = some (.lst xs)) : isiD "int" (.ref i) S = .ok (.bl false) S := by simp only [isiD, tyD, h]; rfl
theorem isi_dk_int {i : Nat} {xs : List (Key × D)} (h : S[i]? = some (.dk xs)) : isiD "int" (.ref i) S = .ok (.bl false) S := by simp only [isiD, tyD, h]; rfl
theorem isi_lst_bool {i : Nat} {xs : List D} (h : S[i]? = some (.lst xs)) : isiD "bool" (.ref i) S = .ok (.bl false) S := by simp only [isiD, tyD, h]; rfl
theorem isi_dk_bool {i : Nat} {xs : List (Key × D)} (h : S[i]? = some (.dk xs)) : isiD "bool" (.ref i) S = .ok (.bl false) S := by simp only [isiD, tyD, h]; rfl
theorem isi_lst_str {i : Nat} {xs : List D} (h : S[i]? = some (.lst xs)) : isiD "str" (.ref i) S = .ok (.bl false) S := by simp only [isiD, tyD, h]; rfl
theorem isi_dk_str {i : Nat} {xs : List (Key × D)} (h : S[i]? = some (.dk xs)) : isiD "str" (.ref i) S = .ok (.bl false) S := by simp only [isiD, tyD, h]; rfl
theorem isi_lst_tuple {i : Nat} {xs : List D} (h : S[i]? = some (.lst xs)) : isiD "tuple" (.ref i) S = .ok (.bl false) S := by simp only [isiD, tyD, h]; rfl
theorem isi_dk_tuple {i : Nat} {xs : List (Key × D)} (h : S[i]? = some (.dk xs)) : isiD "tuple" (.ref i) S = .ok (.bl false) S := by simp only [isiD, tyD, h]; rfl
theorem isi_lst_list {i : Nat} {xs : List D} (h : S[i]? = some (.lst xs)) : isiD "list" (.ref i) S = .ok (.bl true) S := by simp only [isiD, tyD, h]; rfl
theorem isi_dk_list {i : Nat} {xs : List (Key × D)} (h : S[i]? = some (.dk xs)) : isiD "list" (.ref i) S = .ok (.bl false) S := by simp only [isiD, tyD, h]; rfl
theorem isi_lst_dict {i : Nat} {xs : List D} (h : S[i]? = some (.lst xs)) : isiD "dict" (.ref i) S = .ok (.bl false) S := by simp only [isiD, tyD, h]; rfl
theorem isi_dk_dict {i : Nat} {xs : List (Key × D)} (h : S[i]? = some (.dk xs)) : isiD "dict" (.ref i) S = .ok (.bl true) S := by simp only [isiD, tyD, h]; rfl
@[simp] theorem eqD_int {neg : Bool} {x y : Int} : eqD neg (.int x) (.int y) S = .ok (.bl (if neg then !(x == y) else x == y)) S := by
  show (if SeqAt.shaped (.int x) && SeqAt.shaped (.int y) then R.ok _ S else .stuck) = _
  rw [if_pos (by rfl)]; rfl
@[simp] theorem isND_bl {neg a b : Bool} : isND neg (.bl a) (.bl b) S = .ok (.bl (if neg then !decide (a = b) else decide (a = b))) S := rfl
@[simp] theorem isND_non {neg : Bool} : isND neg .non .non S = .ok (.bl (!neg)) S := rfl
@[simp] theorem isND_int {neg : Bool} {i : Int} : isND neg (.int i) .non S = .ok (.bl neg) S := rfl
@[simp] theorem isND_str {neg : Bool} {i : Str} : isND neg (.str i) .non S = .ok (.bl neg) S := rfl
@[simp] theorem isND_tup {neg : Bool} {i : List D} : isND neg (.tup i) .non S = .ok (.bl neg) S := rfl
@[simp] theorem isND_ref {neg : Bool} {i : Nat} : isND neg (.ref i) .non S = .ok (.bl neg) S := rfl
@[simp] theorem truD_bl {b : Bool} : truD S (.bl b) = some b := rfl
@[simp] theorem truD_non : truD S .non = some false := rfl
@[simp] theorem truD_int {i : Int} : truD S (.int i) = some (i != 0) := rfl
@[simp] theorem truD_tup {xs : List D} : truD S (.tup xs) = some (!xs.isEmpty) := rfl
@[simp] theorem len_tup {xs : List D} : lenD [.tup xs] S = .ok (.int xs.length) S := rfl
@[simp] theorem item_tup {xs : List D} {k : Int} : itemD (.tup xs) (.int k) S = (match atI xs k with | some d => .ok d S | none => .stuck) := rfl
@[simp] theorem tupD_eq {xs : List D} : tupD xs S = if xs.length ≤ 16777216 then .ok (.tup xs) S else .stuck := by unfold tupD; rw [sizeLine_eq]
@[simp] theorem lstD_eq {xs : List D} : lstD xs S = if xs.length ≤ 16777216 then .ok (.ref S.length) (S ++ [.lst xs]) else .stuck := by unfold lstD; rw [sizeLine_eq]
@[simp] theorem slice_tup {xs : List D} {lo hi : Option Int} : sliceD (.tup xs) lo hi S = .ok (.tup (cutD xs lo hi)) S := rfl
end
end Dn

set_option Elab.async false
set_option linter.all false
set_option maxRecDepth 100000
set_option maxHeartbeats 4000000
namespace Dn
open PySem PySem.Spec PyProof.Rows L2 RZ
/-! Rules for loops; what stays of a store. -/
theorem forF_nx {it : Wk} {tg : MG} {body : MS} (P : Nat → Ev → Sto → Prop)
    (hs : ∀ k ρ S, k < it.n → P k ρ S → ∃ d ρ1 S1 ρ2 S2, it.get k S = some d ∧ tg d ρ S = .ok ρ1 S1 ∧ (body ρ1 S1 = .nx ρ2 S2 ∨ body ρ1 S1 = .ct ρ2 S2) ∧ P (k + 1) ρ2 S2)
    (hf : ∀ ρ S, P it.n ρ S → it.fin S = true) : ∀ r, r ≤ it.n → ∀ ρ S, P (it.n - r) ρ S → ∃ ρ' S', forF it tg body r ρ S = .nx ρ' S' ∧ P it.n ρ' S'
  | 0, _, ρ, S, h => ⟨ρ, S, by rw [forF, if_pos (hf ρ S h)], h⟩
  | r + 1, hr, ρ, S, h => by
    obtain ⟨d, ρ1, S1, ρ2, S2, h1, h2, h3, h4⟩ := hs _ ρ S (by omega) h
    have e : it.n - (r + 1) + 1 = it.n - r := by omega
    rw [e] at h4
    obtain ⟨ρ', S', h5, h6⟩ := forF_nx P hs hf r (by omega) ρ2 S2 h4
    refine ⟨ρ', S', ?_, h6⟩
    rw [forF, h1]
    simp only [h2]
    rcases h3 with h3 | h3 <;> simp only [h3, h5]
theorem lcF_inv {it : Wk} {tg : MG} {tt : MB} {te : ME} {own : List Nat} {id : Nat} {ρ : Ev} (P : Nat → List D → Sto → Prop)
    (hs : ∀ k acc S, k < it.n → S[id]? = some (.lst acc) → P k acc S → ∃ d ρ1 S1 S2 S3 y, it.get k S = some d ∧ tg d (wipeE ρ own) S = .ok ρ1 S1 ∧ tt ρ1 S1 = .ok true S2 ∧ te ρ1 S2 = .ok y S3 ∧ S3[id]? = some (.lst acc) ∧ acc.length < 16777216 ∧ P (k + 1) (acc ++ [y]) (S3.set id (.lst (acc ++ [y]))))
    (hf : ∀ acc S, P it.n acc S → it.fin S = true) : ∀ r, r ≤ it.n → ∀ acc S, S[id]? = some (.lst acc) → P (it.n - r) acc S → ∃ acc' S', lcF it tg tt te own id ρ r S = .ok () S' ∧ S'[id]? = some (.lst acc') ∧ P it.n acc' S'
  | 0, _, acc, S, hi, h => ⟨acc, S, by rw [lcF, if_pos (hf acc S h)], hi, h⟩
  | r + 1, hr, acc, S, hi, h => by
    obtain ⟨d, ρ1, S1, S2, S3, y, h1, h2, h3, h4, h5, h6, h7⟩ := hs _ acc S (by omega) hi h
    have e : it.n - (r + 1) + 1 = it.n - r := by omega
    rw [e] at h7
    have hz : acc.length < sizeLine := by rw [sizeLine_eq]; exact h6
    obtain ⟨acc', S', h8, h9, h10⟩ := lcF_inv P hs hf r (by omega) (acc ++ [y]) (S3.set id (.lst (acc ++ [y]))) (List.getElem?_set_self (List.getElem?_eq_some_iff.mp h5).1) h7
    refine ⟨acc', S', ?_, h9, h10⟩
    simp only [lcF, h1, h2, R.bindN_ok, h3, h4, if_true, h5, if_pos hz, h8]
/-- all that stood stands -/
def Has (B S : Sto) : Prop := ∀ (j : Nat) (o : Ob), B[j]? = some o → S[j]? = some o
theorem Has.refl (B : Sto) : Has B B := fun _ _ h => h
theorem Has.trans {A B C : Sto} (a : Has A B) (b : Has B C) : Has A C := fun j o h => b j o (a j o h)
theorem Has.app (B T : Sto) : Has B (B ++ T) := fun j o h => by rw [List.getElem?_append_left (List.getElem?_eq_some_iff.mp h).1]; exact h
theorem Has.app2 {B S : Sto} (h : Has B S) (T : Sto) : Has B (S ++ T) := h.trans (Has.app S T)
theorem Has.len {B S : Sto} (h : Has B S) : B.length ≤ S.length := by
  by_cases hb : B.length ≤ S.length
  · exact hb
  · have h1 : S.length < B.length := by omega
    have h2 := h S.length _ (List.getElem?_eq_getElem h1)
    rw [List.getElem?_eq_none (Nat.le_refl _)] at h2
    cases h2
theorem Has.set {B S : Sto} {i : Nat} {o : Ob} (h : Has B S) (hi : B.length ≤ i) : Has B (S.set i o) := fun j u e => by
  have hj := (List.getElem?_eq_some_iff.mp e).1
  rw [List.getElem?_set_ne (by omega)]
  exact h j u e
theorem pool_spec' {S : Sto} {ns : List Int} {k : Int} (h0 : 0 ≤ k) (h1 : k ≤ 63) (hl : ns.length ≤ 63) : ∃ p S1, fnD poolB 5 [.rol (ns.map D.int), .int k] S = .ok (.ref p) S1 ∧ Pool S1 p ∧ S.length ≤ p ∧ Has S S1 := by
  obtain ⟨c1, c2, c3, a, b, e, hb⟩ := pool_spec (S := S) h0 h1 hl
  exact ⟨_, _, e, ⟨a, b, by rw [get_app]; rfl, hb⟩, Nat.le_add_right _ _, Has.app _ _⟩
/-- only what stands at p may have changed -/
def But (p : Nat) (S S' : Sto) : Prop := S'.length = S.length ∧ ∀ j, j ≠ p → S'[j]? = S[j]?
theorem take_spec' {S : Sto} {i : Nat} {n : Int} (h : Pool S i) (h1 : 1 ≤ n) (h2 : n < 1073741824) : ∃ d S1, fnD takeB 3 [.ref i, .int n] S = .ok (.int d) S1 ∧ 0 ≤ d ∧ d < n ∧ Pool S1 i ∧ But i S S1 := by
  obtain ⟨d, a, b, e, x1, x2, x3, x4⟩ := take_spec h h1 h2
  obtain ⟨_, _, hi, _⟩ := h
  exact ⟨d, _, e, x1, x2, ⟨a, b, List.getElem?_set_self (List.getElem?_eq_some_iff.mp hi).1, x3, x4⟩, by simp, fun j hj => List.getElem?_set_ne (Ne.symm hj)⟩
theorem But.has {p : Nat} {B S S' : Sto} (b : But p S S') (h : Has B S) (hp : B.length ≤ p) : Has B S' := fun j o e => by
  have hj := (List.getElem?_eq_some_iff.mp e).1
  rw [b.2 j (by omega)]
  exact h j o e
theorem Pool.app {S : Sto} {p : Nat} (h : Pool S p) (T : Sto) : Pool (S ++ T) p := by
  obtain ⟨a, b, e, hb⟩ := h
  exact ⟨a, b, Has.app S T _ _ e, hb⟩
theorem Pool.set {S : Sto} {p i : Nat} {o : Ob} (h : Pool S p) (hi : i ≠ p) : Pool (S.set i o) p := by
  obtain ⟨a, b, e, hb⟩ := h
  exact ⟨a, b, by rw [List.getElem?_set_ne hi]; exact e, hb⟩
theorem Pool.lt {S : Sto} {p : Nat} (h : Pool S p) : p < S.length := by
  obtain ⟨a, b, e, hb⟩ := h
  exact (List.getElem?_eq_some_iff.mp e).1
theorem Pool.has {S S' : Sto} {p : Nat} (h : Pool S p) (x : Has S S') : Pool S' p := by
  obtain ⟨a, b, e, hb⟩ := h
  exact ⟨a, b, x _ _ e, hb⟩
end Dn

set_option Elab.async false
set_option linter.all false
set_option maxRecDepth 100000
set_option maxHeartbeats 2000000
namespace Dn
open PySem PySem.Spec PyProof.Rows L2 RZ
/-! enumerate(list or tuple), also from a start -/
/-- kinds of sequences -/
structure SqO (K : PySem.W.Frag) (sq : Hp → Addr → List V → Prop) (isit : Heap → Addr → Addr → Nat → Prop) (isx : Heap → Addr → Array Value → Prop) : Prop where
  seq : ∀ {X : Cx} {pins : List (Addr × Obj)} {σ : L2.St} {H : Hp} {s : Shared} {a : Addr} {xs : List V}, X.K = K → Inv X pins σ H s → sq H a xs → ∃ its : List Value, Vals xs its ∧ isx s.heap a its.toArray ∧ xs.length ≤ sizeLine
  inj : ∀ {X : Cx} {pins : List (Addr × Obj)} {σ : L2.St} {H : Hp} {s : Shared} {a : Addr} {xs ys : List V}, X.K = K → Inv X pins σ H s → sq H a xs → sq H a ys → xs = ys
  draws : ∀ {prog : Program} {w : World} {A : Around} (hh : A.handled = none) (it l : Addr) (hne : l ≠ it) (items : Array Value), Draws prog w A it [it, l] items.size (fun i v => items[i]? = some v) (fun i h => isit h it l i ∧ isx h l items)
  obj : ∀ {h : Heap} {it a : Addr} {i : Nat}, isit h it a i → ∃ o, h.get? it = some o ∧ ∀ v, o.data ≠ .cell v
  keep : ∀ {h h' : Heap} {it a : Addr} {i : Nat}, isit h it a i → (∀ o, h.get? it = some o → h'.get? it = some o) → isit h' it a i
  lt : ∀ {h : Heap} {a : Addr} {its : Array Value}, isx h a its → a < h.objs.size
  begins : ∀ (a : Addr) (its : Array Value), ∃ o, Begins (.ref a) o (fun h => isx h a its) ∧ ∀ {h : Heap} {it : Addr}, h.get? it = some o → isit h it a 0
theorem sqL_o {K : PySem.W.Frag} : SqO K (SqL K) Heap.IsListIter Heap.IsList where
  seq := fun e I q => by subst e; obtain ⟨its, r, p, z⟩ := I.list q; exact ⟨its, r, p.isList, z⟩
  inj := fun e I q q' => by subst e; exact I.list_inj q q'
  draws := fun hh it l hne items => Draws.list hh it l hne items
  obj := fun ⟨o, ho, hc, hd⟩ => ⟨o, ho, fun v q => by rw [hd] at q; cases q⟩
  keep := fun st k => st.at fun o e => k o e
  lt := fun ⟨o, ho, _⟩ => Heap.lt_size ho
  begins := fun a its => ⟨_, begins_list a its, fun h => ⟨_, h, rfl, rfl⟩⟩
theorem sqT_o {K : PySem.W.Frag} : SqO K (SqT K) Heap.IsTupleIter Heap.IsTuple where
  seq := fun e I q => by subst e; obtain ⟨its, r, p, z⟩ := I.tuple q; exact ⟨its, r, p, z⟩
  inj := fun e I q q' => by subst e; exact I.tuple_inj q q'
  draws := fun hh it l hne items => Draws.tuple hh it l hne items
  obj := fun ⟨o, ho, hc, hd⟩ => ⟨o, ho, fun v q => by rw [hd] at q; cases q⟩
  keep := fun st k => st.at fun o e => k o e
  lt := fun ⟨o, ho, _⟩ => Heap.lt_size ho
  begins := fun a its => ⟨_, begins_tuple a its, fun h => ⟨_, h, rfl, rfl⟩⟩
def Itn (sq : Hp → Addr → List V → Prop) (k : Int) (a : Addr) : It :=
  ⟨fun i H => ∃ (xs : List V) (x : V), sq H a xs ∧ xs[i]? = some x, fun i H v H' => ∃ T x, v = .ref T ∧ H T = none ∧ H' = upd H T (.tup [.int (k + (i : Nat)), x]) ∧ ∀ xs, sq H a xs → xs[i]? = some x, fun i H => ∃ xs : List V, sq H a xs ∧ xs.length = i⟩
theorem turn_enumN {P : Program} {w : World} {K : PySem.W.Frag} {sq : Hp → Addr → List V → Prop} {isit : Heap → Addr → Addr → Nat → Prop} {isx : Heap → Addr → Array Value → Prop} (O : SqO K sq isit isx) {elts : List Expr} {kk : Nat} {tpos : Pos} (k : Int) (a e it : Addr) :
    Turn P w K (.Tuple elts kk tpos) (Itn sq k a) [e, it] e (fun i h => (∃ old, IsEnum h e it (k + (i : Nat)) old) ∧ isit h it a i ∧ e ≠ it ∧ a ≠ it ∧ a ≠ e) where
  mem := by simp
  obj := fun i h st b hb => by
    obtain ⟨⟨old, he⟩, hi, _⟩ := st
    have e' : b = e ∨ b = it := by simpa using hb
    rcases e' with z | z
    · rw [z]; exact ⟨_, he, fun v q => nomatch q⟩
    · rw [z]; exact O.obj hi
  keep := fun i h h' st k => let ⟨⟨old, he⟩, hi, hne⟩ := st; ⟨⟨old, k e (by simp) _ he⟩, O.keep hi fun o q => k it (by simp) o q, hne⟩
  item := by
    intro X hP hw hK hc i pins s σ H E I hf st hg
    subst hP hw
    obtain ⟨⟨old, he⟩, hit, hne, hai, hae⟩ := st
    obtain ⟨xs, x, hq, hx⟩ := hg
    obtain ⟨its, rv, p, hz⟩ := O.seq hK I hq
    obtain ⟨u, hu, ru⟩ := rv.get hx
    have hel : e < s.heap.objs.size := Heap.lt_size he
    have hil : it < s.heap.objs.size := by obtain ⟨_, q, _⟩ := O.obj hit; exact Heap.lt_size q
    have hlt : i < its.toArray.size := by simpa using (List.getElem?_eq_some_iff.mp hu).1
    refine wpAny_pyNext_enum_itemC (O.draws (prog := X.prog) (w := X.w) (A := X.A.in1) (show X.A.in1.handled = none from I.ok.hd hc) it a hai its.toArray) he ⟨hit, p⟩ hlt hne (by simp; exact ⟨hne, fun z => hae z.symm⟩) fun y h' tk hy ho hit' hT hsz hk => ?_
    have ey : y = u := by
      simp only [List.getElem?_toArray] at hy
      rw [hu] at hy; cases hy; rfl
    subst ey
    refine ⟨_, rfl, wpAny_letOwnedTupleGo_enum (s := { s with heap := h', toks := tk + 1 }) ho fun h'' he' sb => ?_⟩
    have hT2 : h''.get? s.heap.objs.size = some { cls := .type "tuple", data := .seq #[.int (k + (i : Nat)) tk, y] } := (sb.2 _ (Nat.ne_of_gt hel)).trans hT
    have new : ObjOk X.prog X.w (upd H s.heap.objs.size (.tup [.int (k + (i : Nat)), x])) h'' s.heap.objs.size (.tup [.int (k + (i : Nat)), x]) :=
      ⟨by show 2 ≤ sizeLine; decide, [.int (k + (i : Nat)) tk, y], .cons ⟨_, rfl⟩ (.cons ru .nil), ⟨_, hT2, rfl, _, rfl⟩⟩
    have I1 : Inv X pins σ (upd H s.heap.objs.size (.tup [.int (k + (i : Nat)), x])) { s with heap := h'', toks := tk + 1 } :=
      I.turnedNew (ch := [e, it]) (fun b ob hb q => (sb.2 b (fun z => hb (by simp [z]))).trans (hk b ob (fun z => hb (by simp [z])) (fun z => hb (by simp [z])) q)) hf (Nat.le_refl _) new
    refine ⟨.ref s.heap.objs.size, _, I1, rfl, ⟨_, x, rfl, I.hok.fresh (Nat.le_refl _), rfl, fun ys hy => by rw [O.inj hK I hy hq]; exact hx⟩, ⟨⟨y, ?_⟩, O.keep hit'.1 fun o q => (sb.2 it (Ne.symm hne)).trans q, hne, hai, hae⟩, fun b hb => ?_⟩
    · have e1 : k + ((i + 1 : Nat) : Int) = k + (i : Int) + 1 := by omega
      rw [e1]; exact he'
    · have hb' : b < s.heap.objs.size := by
        have e' : b = e ∨ b = it := by simpa using hb
        rcases e' with z | z
        · rw [z]; exact hel
        · rw [z]; exact hil
      rw [upd_ne (Nat.ne_of_lt hb')]
      exact (hf b hb).1
  done := by
    intro X hP hw hK hc i pins s σ H E I hf st hg
    subst hP hw
    obtain ⟨⟨old, he⟩, hit, hne, hai, hae⟩ := st
    obtain ⟨xs, hq, hx⟩ := hg
    obtain ⟨its, rv, p, hz⟩ := O.seq hK I hq
    obtain ⟨f0, f1, f2, f3, f4, f5⟩ := hf it (by simp)
    have hl : its.toArray.size = i := by have := rv.length; simp; omega
    subst hl
    exact wpAny_pyNext_enum_endD (O.draws (prog := X.prog) (w := X.w) (A := X.A.in1) (show X.A.in1.handled = none from I.ok.hd hc) it a hai its.toArray) he ⟨hit, p⟩ fun h' eb => ⟨rfl, I.turned (t' := s.toks) (fun b o hb q => eb b o hb q) f0 f1 f3 f4 f5⟩
  self := fun A i s Q E st h => let ⟨⟨_, he⟩, _⟩ := st; wpAny_pyIter_enum he h
/-- made -/
theorem enumN_made {X : Cx} {sq : Hp → Addr → List V → Prop} {isit : Heap → Addr → Addr → Nat → Prop} {isx : Heap → Addr → Array Value → Prop} (O : SqO X.K sq isit isx) {elts : List Expr} {kk : Nat} {tpos : Pos} {pins : List (Addr × Obj)} {σ : L2.St} {H : Hp} {s : Shared} {a : Addr} {xs : List V} {k : Int} {t : Tok} {R : It → Hp → Prop}
    (I : Inv X pins σ H s) (hq : sq H a xs) (hk0 : -(2 ^ 63) ≤ k) (hk1 : k < 2 ^ 63) (q : R (Itn sq k a) H) :
    wpAny (model X.prog X.w) X.A (call (.type "enumerate") [.ref a] [(Str.ofString "start", .int k t)]) (fun v s1 => wpAny (model X.prog X.w) X.A (pyIter v) (PIE X pins σ (.Tuple elts kk tpos) R) X.xe s1) X.xe s := by
  obtain ⟨its, rv, p, hz⟩ := O.seq rfl I hq
  obtain ⟨o, B, hB⟩ := O.begins a its.toArray
  refine enum_begins_start B p hk0 hk1 fun h' he hit hsz hk => wpAny_pyIter_enum he ?_
  have I2 : Inv X pins σ H { s with heap := h' } := I.kept (t' := s.toks) hk
  have hlt := O.lt p
  refine ⟨s.heap.objs.size + 1, [s.heap.objs.size + 1, s.heap.objs.size], _, _, H, rfl, I2, turn_enumN O k a (s.heap.objs.size + 1) s.heap.objs.size, ⟨⟨.none, by simpa using he⟩, hB hit, Nat.succ_ne_self _, Nat.ne_of_lt hlt, Nat.ne_of_lt (Nat.lt_succ_of_lt hlt)⟩, fun b hb => ?_, q⟩
  have e' : b = s.heap.objs.size + 1 ∨ b = s.heap.objs.size := by simpa using hb
  have hle : s.heap.objs.size ≤ b := by
    rcases e' with z | z
    · rw [z]; exact Nat.le_add_right _ _
    · rw [z]; exact Nat.le_refl _
  exact I.fpOk hle (I.hok.fresh hle)
set_option maxHeartbeats 4000000 in
theorem meets_enumerate_new1 {v : Value} {o : Obj} {H : Heap → Prop} (B : Begins v o H) :
    Meets (Builtin.«enumerate.__new__» ⟨[.type "enumerate", v], []⟩) (fun _ R s => H s.heap ∧
      R (.ok (.ret (.ref (s.heap.push o).objs.size))) { s with heap := (s.heap.push o).push { cls := .type "enumerate", data := .fields #[.none, .bool false, .ref s.heap.objs.size, rawInt 0, .none, .none] } }) :=
  .of_wp fun prog w A R s h => by
    obtain ⟨hp, g, d, tk, os⟩ := s; obtain ⟨h1, h⟩ := h
    have hsub := sub_enumerate
    have q1 : ∀ {A' : Around} {E : Value → Shared → Prop} {Q : Value → Shared → Prop}, Q (.ref hp.objs.size) ⟨hp.push o, g, d, tk, os⟩ → wpAny (model prog w) A' (pyIter v) Q E ⟨hp, g, d, tk, os⟩ :=
      fun q => B.iter prog w _ _ ⟨hp, g, d, tk, os⟩ _ h1 q
    wp_walk using q1
    refine wpAny_stack_any fun st => wpAny_pure ?_
    split
    · rename_i c _ _ _ _ _
      cases (c == Value.type "enumerate")
      · wp_walk using q1
        exact ⟨_, rfl, h⟩
      · wp_walk using q1
        exact ⟨_, rfl, h⟩
    · wp_walk using q1
      exact ⟨_, rfl, h⟩
theorem enum_begins1 {prog : Program} {w : World} {A : Around} {E : Value → Shared → Prop} {s : Shared} {v : Value} {o : Obj} {H : Heap → Prop} {Q : Value → Shared → Prop} (B : Begins v o H) (h1 : H s.heap)
    (h : ∀ h', IsEnum h' (s.heap.objs.size + 1) s.heap.objs.size 0 .none → h'.get? s.heap.objs.size = some o → h'.objs.size = s.heap.objs.size + 2 →
      (∀ b o, s.heap.get? b = some o → h'.get? b = some o) → Q (.ref (s.heap.objs.size + 1)) { s with heap := h' }) :
    wpAny (model prog w) A (call (.type "enumerate") [v]) Q E s := by
  refine callType_new F.called_enumerate (by decide) (F.typeCall_enumerate_1 _) (F.newCall_enumerate_1 _) (fun obj => F.args_object_init_2 obj _) F.entry_enumerate_new
    (meets_enumerate_new1 B) ⟨h1, ?_⟩
  have hz : (s.heap.push o).objs.size = s.heap.objs.size + 1 := Heap.size_push ..
  show _ ∧ _
  rw [hz]
  have he : IsEnum ((s.heap.push o).push { cls := .type "enumerate", data := .fields #[.none, .bool false, .ref s.heap.objs.size, rawInt 0, .none, .none] }) (s.heap.objs.size + 1) s.heap.objs.size 0 .none := by
    have := Heap.get?_push_size (s.heap.push o) (o := { cls := .type "enumerate", data := .fields #[.none, .bool false, .ref s.heap.objs.size, rawInt 0, .none, .none] }) rfl
    rw [hz] at this; exact this
  refine ⟨⟨_, he, rfl⟩, h _ he (Heap.get?_push_of_some _ (Heap.get?_push_size _ B.free)) (by rw [Heap.size_push, hz]) fun b o x => Heap.get?_push_of_some _ (Heap.get?_push_of_some _ x)⟩
theorem enumN_made1 {X : Cx} {sq : Hp → Addr → List V → Prop} {isit : Heap → Addr → Addr → Nat → Prop} {isx : Heap → Addr → Array Value → Prop} (O : SqO X.K sq isit isx) {elts : List Expr} {kk : Nat} {tpos : Pos} {pins : List (Addr × Obj)} {σ : L2.St} {H : Hp} {s : Shared} {a : Addr} {xs : List V} {R : It → Hp → Prop}
    (I : Inv X pins σ H s) (hq : sq H a xs) (q : R (Itn sq 0 a) H) :
    wpAny (model X.prog X.w) X.A (call (.type "enumerate") [.ref a]) (fun v s1 => wpAny (model X.prog X.w) X.A (pyIter v) (PIE X pins σ (.Tuple elts kk tpos) R) X.xe s1) X.xe s := by
  obtain ⟨its, rv, p, hz⟩ := O.seq rfl I hq
  obtain ⟨o, B, hB⟩ := O.begins a its.toArray
  refine enum_begins1 B p fun h' he hit hsz hk => wpAny_pyIter_enum he ?_
  have I2 : Inv X pins σ H { s with heap := h' } := I.kept (t' := s.toks) hk
  have hlt := O.lt p
  refine ⟨s.heap.objs.size + 1, [s.heap.objs.size + 1, s.heap.objs.size], _, _, H, rfl, I2, turn_enumN O 0 a (s.heap.objs.size + 1) s.heap.objs.size, ⟨⟨.none, by simpa using he⟩, hB hit, Nat.succ_ne_self _, Nat.ne_of_lt hlt, Nat.ne_of_lt (Nat.lt_succ_of_lt hlt)⟩, fun b hb => ?_, q⟩
  have e' : b = s.heap.objs.size + 1 ∨ b = s.heap.objs.size := by simpa using hb
  have hle : s.heap.objs.size ≤ b := by
    rcases e' with z | z
    · rw [z]; exact Nat.le_add_right _ _
    · rw [z]; exact Nat.le_refl _
  exact I.fpOk hle (I.hok.fresh hle)
section
variable {G : Fx} {a b : Expr} {mA mK : ML} {pos p kp : Pos} {kws : List Keyword}
theorem callWith_typeKw {M : Model} {A : Around} {E : Value → Shared → Prop} {s : Shared} {pos : Pos} {T : String} {first : List Value} {args : List (Bool × Sem Value)} {keywords : List (Option Str × Sem Value)} {Q : Value → Shared → Prop} (hplain : args.any (·.1) = false) (hkw : keywords.any (·.1.isNone) = false)
    (h : wpAny M A (evalArgs (.type T) true args keywords) (fun a s₁ => wpAny M A (call (.type T) (first ++ a.pos) a.kw) Q E s₁) E s) :
    wpAny M A (callWith pos (.type T) first args keywords) Q E s := by
  unfold callWith
  refine wpAny_bind (wpAny_holding (wpAny_mono h (fun a s₁ h₁ => wpAny_bind (wpAny_standAt ?_)) fun _ _ x => x))
  simp only [hplain, hkw, Bool.or_false]
  refine wpAny_bind (wpAny_pure ?_)
  exact wpAny_bind (wpAny_mono h₁ (fun r s₂ hr => wpAny_bind (wpAny_holding (wpAny_point (wpAny_pure hr)))) fun _ _ x => x)
def itN (k : Int) (i n : Nat) : Wk := ⟨n, fun j S => match S[i]? with
  | some (.lst xs) => if xs.length = n then (xs[j]?).map fun d => .twk [.int (k + (j : Nat)), d] else none
  | _ => none, fun S => lenL S i == some n⟩
def itNR (k : Int) (ds : List D) : Wk := ⟨ds.length, fun j _ => (ds[j]?).map fun d => .twk [.int (k + (j : Nat)), d], fun _ => true⟩
theorem ri_enumNL {K : Kx} {μ : Mp} {H : Hp} {p : Addr} {i n : Nat} {k : Int} (h : μ.m[i]? = some p) : RI K μ H (itN k i n) (Itn (SqL K.K) k p) where
  go := fun μ1 H1 S j d nx rs hk e => by
    simp only [itN] at e
    split at e
    · rename_i xs e1
      split at e
      · obtain ⟨vs, g1, r⟩ := rs.lst (nx.at h) e1
        cases e2 : xs[j]? with
        | none => rw [e2] at e; cases e
        | some y =>
          rw [e2] at e
          cases e
          obtain ⟨v, hv, rv⟩ := r.get e2
          refine ⟨⟨vs, v, SqL.of g1, hv⟩, fun z H' yy => ?_⟩
          obtain ⟨T, x', rfl, hT, rfl, f1⟩ := yy
          have e3 := f1 vs (SqL.of g1)
          rw [hv] at e3; cases e3
          have n3 : Nx μ1 μ1 H1 (upd H1 T (.tup [.int (k + (j : Nat)), v])) := Nx.hardNew hT
          exact ⟨n3, rs.hardNew hT, .twk (SqT.of upd_same) (.cons (.int _) (.cons (rv.mono n3) .nil))⟩
      · cases e
    · cases e
  stop := fun μ1 H1 S nx rs hf => by
    have hf' : lenL S i = some n := by simpa [itN] using hf
    obtain ⟨xs, e1, hl⟩ := lenL_some hf'
    obtain ⟨vs, g1, r⟩ := rs.lst (nx.at h) e1
    exact ⟨vs, SqL.of g1, by rw [← r.length, hl]; rfl⟩
theorem ri_enumNR {K : Kx} {μ : Mp} {H : Hp} {p : Addr} {vs : List V} {ds : List D} {k : Int} {sq : Hp → Addr → List V → Prop} (h : ∀ μ' H', Nx μ μ' H H' → sq H' p vs) (r : RDs K μ H ds vs) : RI K μ H (itNR k ds) (Itn sq k p) where
  go := fun μ1 H1 S j d nx rs hk e => by
    have g1 := h _ _ nx
    simp only [itNR] at e
    cases e2 : ds[j]? with
    | none => rw [e2] at e; cases e
    | some y =>
      rw [e2] at e
      cases e
      obtain ⟨v, hv, rv⟩ := r.get e2
      refine ⟨⟨vs, v, g1, hv⟩, fun z H' yy => ?_⟩
      obtain ⟨T, x', rfl, hT, rfl, f1⟩ := yy
      have e3 := f1 vs g1
      rw [hv] at e3; cases e3
      have n3 : Nx μ1 μ1 H1 (upd H1 T (.tup [.int (k + (j : Nat)), v])) := Nx.hardNew hT
      exact ⟨n3, rs.hardNew hT, .twk (SqT.of upd_same) (.cons (.int _) (.cons ((rv.mono nx).mono n3) .nil))⟩
  stop := fun μ1 H1 S nx rs _ => ⟨vs, h _ _ nx, by rw [← r.length]; rfl⟩
def enumN (k : Int) (ds : List D) (S : Sto) : Option Wk := match ds with
  | [.ref i] => match lenL S i with
    | some n => some (itN k i n)
    | none => none
  | [.rol xs] => some (itNR k xs)
  | [.tup xs] => some (itNR k xs)
  | [.twk xs] => some (itNR k xs)
  | _ => none
/-- what is walked: list or tuple -/
def iEnumN (K : PySem.W.Frag) (k : Int) (vs : List V) (H : Hp) (R : It → Hp → Prop) : Prop := ∃ a xs, vs = [.ref a] ∧ ((SqL K H a xs ∧ R (Itn (SqL K) k a) H) ∨ (SqT K H a xs ∧ R (Itn (SqT K) k a) H))
theorem enumN_ok {μ : Mp} {H : Hp} {S : Sto} {k : Int} {ds : List D} {vs : List V} {it : Wk} {Rr : It → Hp → Prop} (rs : RS G.k μ S H) (r : RDs G.k μ H ds vs) (e : enumN k ds S = some it) (q : ∀ J, RI G.k μ H it J → Rr J H) : iEnumN G.X.K k vs H Rr := by
  unfold enumN at e
  split at e
  · rename_i i
    split at e
    · rename_i n e1
      injection e with e
      subst e
      obtain ⟨xs, f1, _⟩ := lenL_some e1
      cases r with
      | cons r1 r2 =>
        cases r2
        cases r1 with
        | ref h1 =>
          obtain ⟨ws, g, _⟩ := rs.lst h1 f1
          exact ⟨_, ws, rfl, .inl ⟨SqL.of g, q _ (ri_enumNL h1)⟩⟩
    · cases e
  · injection e with e
    subst e
    cases r with
    | cons r1 r2 =>
      cases r2
      cases r1 with
      | rol h1 r1 => exact ⟨_, _, rfl, .inl ⟨h1.sq, q _ (ri_enumNR (fun μ' H' n => (n.roL h1).sq) r1)⟩⟩
  · injection e with e
    subst e
    cases r with
    | cons r1 r2 =>
      cases r2
      cases r1 with
      | tup h1 r1 => exact ⟨_, _, rfl, .inr ⟨h1.sq, q _ (ri_enumNR (fun μ' H' n => n.hard.sqT h1.sq) r1)⟩⟩
  · injection e with e
    subst e
    cases r with
    | cons r1 r2 =>
      cases r2
      cases r1 with
      | twk h1 r1 => exact ⟨_, _, rfl, .inr ⟨h1, q _ (ri_enumNR (fun μ' H' n => n.hard.sqT h1) r1)⟩⟩
  · cases e
theorem si_enumN {elts : List Expr} {kk : Nat} {tpos : Pos} (hg : Gl G.X "enumerate") (hm : G.X.mg "enumerate" = none) (ha : SA G [a] mA) (hs : starEach [a] G.X.env = [(false, eval a G.X.env)] := by rfl) :
    SI G (.Tuple elts kk tpos) (.Call (.Name "enumerate" p) [a] [] pos) (mIA (enumN 0) mA) := by
  refine ⟨fun pins s σ H R I h => ?_⟩
  refine Call_ (ld_blt I hg hm boot_enumerate (PyProof.Rows.callWith_type1 (thn (ha.run pos pins s σ H _ I (tI_A (R0 := fun vs H1 => iEnumN G.X.K 0 vs H1 R) h fun μ H S ds vs it rs r e k => enumN_ok rs r e k)) fun us s1 ⟨vs, H1, I1, r1, q1⟩ => ?_) hs rfl))
  obtain ⟨a, xs, rfl, q1⟩ := q1
  cases r1 with
  | cons r rr =>
    cases rr
    cases r
    rcases q1 with ⟨hq, q⟩ | ⟨hq, q⟩
    · exact enumN_made1 sqL_o I1 hq q
    · exact enumN_made1 sqT_o I1 hq q
def mIAK (mA mK : ML) : MI := fun ρ S => (mA ρ S).bind fun ds S1 => (mK ρ S1).bind fun es S2 => match es with
  | [.int k] => if -(2 ^ 62) ≤ k ∧ k < 2 ^ 62 then (match enumN k ds S2 with | some it => .ok it S2 | none => .stuck) else .stuck
  | _ => .stuck
theorem si_enumK {elts : List Expr} {kk : Nat} {tpos : Pos} (hg : Gl G.X "enumerate") (hm : G.X.mg "enumerate" = none) (ha : SA G [a] mA) (hkw : SK G kws mK)
    (hall : (backToKw pos (keywordEach kws G.X.env)).all (·.1.isSome) = true := by rfl) (hks : (backToKw pos (keywordEach kws G.X.env)).filterMap (·.1) = ([("start" : Str)] : List Str) := by rfl)
    (he : starEach [a] G.X.env = (false, eval a G.X.env) :: starEach [] G.X.env := by rfl) (hpl : (backTo pos (starEach [a] G.X.env)).any (·.1) = false := by rfl) (hkn : (backToKw pos (keywordEach kws G.X.env)).any (·.1.isNone) = false := by rfl) :
    SI G (.Tuple elts kk tpos) (.Call (.Name "enumerate" p) [a] kws pos) (mIAK mA mK) := by
  refine ⟨fun pins s σ H R I h => ?_⟩
  have h2 : tA G.g mA σ H fun vs H1 => tA G.g mK σ H1 fun zs H2 => ∃ k, zs = [.int k] ∧ (-(2 ^ 62) ≤ k ∧ k < 2 ^ 62) ∧ iEnumN G.X.K k vs H2 R := by
    obtain ⟨ρ, μ, S, at', q⟩ := h
    refine ⟨ρ, μ, S, at', po_1 (Rel := relDs G.g) (Rel' := fun μ H it J => RI G.k μ H it J) at' q fun μ1 H1 S1 ds vs n1 a1 d1 q1 => ?_⟩
    refine ⟨ρ, μ1, S1, a1, po_1 (Rel := relDs G.g) (Rel' := fun μ H it J => RI G.k μ H it J) a1 q1 fun μ2 H2 S2 es ws n2 a2 d2 q2 => ?_⟩
    split at q2
    rotate_left
    · exact q2.elim
    rename_i k
    split at q2
    rotate_left
    · exact q2.elim
    rename_i hk
    split at q2
    rotate_left
    · exact q2.elim
    rename_i it e
    cases d2 with
    | cons r1 r2 =>
      cases r2
      cases r1
      exact ⟨k, rfl, hk, enumN_ok a2.rs (d1.mono n2) e fun J hJ => q2 μ2 H2 J (Nx.refl _ _) a2.rs hJ⟩
  refine wpAny_Call_Name_kw (ld_blt I hg hm boot_enumerate ?_)
  refine callWith_typeKw hpl hkn ?_
  refine PyProof.Rows.evalArgs_kw2 hall (thn (ha.run pos pins s σ H _ I h2) fun us s1 ⟨vs, H1, I1, r, q⟩ => ?_) he
  refine thn (hkw.run pos pins s1 σ H1 _ I1 q) fun ws s2 ⟨zs, H2, I2, rz, q2⟩ => ?_
  obtain ⟨k, rfl, hk, a, xs, rfl, q3⟩ := q2
  rw [hks]
  cases r with
  | cons r rr =>
    cases rr
    cases r
    cases rz with
    | cons rz rzz =>
      cases rzz
      obtain ⟨t, rfl⟩ := rz
      rcases q3 with ⟨hq, q⟩ | ⟨hq, q⟩
      · exact enumN_made sqL_o I2 hq (by omega) (by omega) q
      · exact enumN_made sqT_o I2 hq (by omega) (by omega) q
end
end Dn

set_option Elab.async false
set_option linter.all false
set_option maxRecDepth 100000
set_option maxHeartbeats 2000000
namespace Dn
open PySem PySem.Spec PyProof.Rows L2 RZ
/-! own exceptions, by their class's number -/
structure Exc (P : Program) (w : World) (K : Kx) (mg : Str → Option Value) (base : Heap) (x : Str) (c : Nat) (f : Str) : Prop where
  ex : ∃ (C fI : Addr) (fd : FuncData), K.c[c]? = some C ∧ mg x = some (.ref C) ∧ OexC K.K C ∧ PySem.W.findIn K.K (.ref C) "__init__" = some (some (.ref fI)) ∧ PySem.W.typeIn K.K (.ref fI) = some (.type "function") ∧
    FnOk P w K.K mg base CX0 1 fI fd ["self", f] (initSp C f) ∧ Binds K.K fd ["self", f] [] ∧ XfC K.K C ∧ PySem.W.findIn K.K (.ref C) f = some none ∧ ExcC K.K C
def tabOk (K : Kx) (C : Addr) : List (Nat × Bool) → Prop
  | [] => True
  | (k, b) :: r => (∀ D, K.c[k]? = some D → PySem.W.exmOne K.K (.ref D) (.ref C) = some b ∧ PySem.W.kitOne K.K (.ref D) (.ref C) = some b) ∧ tabOk K C r
theorem tabOk.get {K : Kx} {C : Addr} : ∀ {tab : List (Nat × Bool)}, tabOk K C tab → ∀ k b D, tab.lookup k = some b → K.c[k]? = some D → PySem.W.exmOne K.K (.ref D) (.ref C) = some b ∧ PySem.W.kitOne K.K (.ref D) (.ref C) = some b
  | [], _, _, _, _, h, _ => nomatch h
  | (k0, b0) :: r, ⟨h1, h2⟩, k, b, D, h, hD => by
    rw [List.lookup_cons] at h
    split at h
    · rename_i e
      cases h
      rw [eq_of_beq e] at hD
      exact h1 D hD
    · exact tabOk.get h2 k b D h hD
structure Cat (K : Kx) (mg : Str → Option Value) (x : Str) (tab : List (Nat × Bool)) : Prop where
  ex : ∃ C : Addr, mg x = some (.ref C) ∧ tabOk K C tab
theorem cat1 {c k : Nat} : ∀ {tab : List (Nat × Bool)}, tab.lookup k = some true → tab.all (fun kb => !kb.2 || kb.1 == c) = true → k = c
  | [], h, _ => nomatch h
  | (k0, b0) :: r, h, a => by
    rw [List.all_cons, Bool.and_eq_true] at a
    rw [List.lookup_cons] at h
    split at h
    · rename_i e
      cases h
      rw [eq_of_beq e]
      simpa using a.1
    · exact cat1 h a.2
theorem exm_of {K : PySem.W.Frag} {D C : Addr} {b : Bool} (h1 : PySem.W.subIn K (.ref C) (.type "BaseException") = some true) (h2 : PySem.W.isClsIn K C = true) (h3 : PySem.W.typeIn K (.ref C) = some (.type "type")) (h4 : PySem.W.subIn K (.ref D) (.ref C) = some b) :
    PySem.W.exmOne K (.ref D) (.ref C) = some b := by
  have e1 : (PySem.W.subIn K (.ref C) (.type "BaseException") == some true) = true := by rw [h1] <;> rfl
  have e2 : ((PySem.W.clsIn K C).isSome && PySem.W.typeIn K (.ref C) == some (.type "type")) = true := by
    have h2' : (PySem.W.clsIn K C).isSome = true := h2
    rw [h2', h3] <;> rfl
  show (if (PySem.W.subIn K (.ref C) (.type "BaseException") == some true) = true then (if ((PySem.W.clsIn K C).isSome && PySem.W.typeIn K (.ref C) == some (.type "type")) = true then PySem.W.subIn K (.ref D) (.ref C) else none) else none) = some b
  rw [if_pos e1, if_pos e2]
  exact h4
theorem kit_of {K : PySem.W.Frag} {D C : Addr} {b : Bool} (h2 : PySem.W.isClsIn K C = true) (h3 : PySem.W.typeIn K (.ref C) = some (.type "type")) (h4 : PySem.W.subIn K (.ref D) (.ref C) = some b) (h5 : b = false → PySem.W.subIn K (.ref C) (.ref C) = some true) :
    PySem.W.kitOne K (.ref D) (.ref C) = some b := by
  have e2 : ((PySem.W.clsIn K C).isSome && PySem.W.typeIn K (.ref C) == some (.type "type")) = true := by
    have h2' : (PySem.W.clsIn K C).isSome = true := h2
    rw [h2', h3] <;> rfl
  have e3 : PySem.W.kitCls K (.ref D) (.ref C) = some b := by
    show (if ((PySem.W.clsIn K C).isSome && PySem.W.typeIn K (.ref C) == some (.type "type")) = true then PySem.W.subIn K (.ref D) (.ref C) else none) = some b
    rw [if_pos e2]; exact h4
  unfold PySem.W.kitOne
  split
  · rename_i hq
    cases b with
    | true => rfl
    | false =>
      have hd : (Value.ref D : Value) = .ref C := beq_iff_eq.mp hq
      cases hd
      rw [h5 rfl] at h4; cases h4
  · exact e3
section
variable {G : Fx} {e : Expr} {ma : ME} {pos pos' p np : Pos} {x f n : Str} {c i j : Nat} {body suite : List Stmt} {b₀ : Stmt} {mb : MS} {ms : Nat → List (Str × D) → Addr → MS} {tab : List (Nat × Bool)}
theorem ss_raiseX (X : Exc G.X.prog G.X.w G.k G.X.mg G.X.base x c f) (hc : G.X.calm = true) (hr : Room j G.X.A) (hj : 2 ≤ j) (hg : Gl G.X x) (ha : SE G e ma)
    (hdb : (x == ("__debug__" : Str)) = false := by decide) (he : starEach [e] G.X.env = (false, eval e G.X.env) :: starEach [] G.X.env := by rfl) (hpl : (backTo pos (starEach [] G.X.env)).any (·.1) = false := by rfl) :
    SS G (.Raise (some (.Call (.Name x p) [e] [] pos)) none pos') (sRaise c f ma) := by
  obtain ⟨C, fI, fd, hC, hm, T, iC, tI, F1, hb, _, _, _⟩ := X.ex
  exact ss_raise hC hc T iC tI F1 (hr.mono hj) hb hg hm ha hdb he hpl
theorem ss_tryX (M : Cat G.k G.X.mg x tab) (hs : G.X.stack = G.X.env :: G.X.outer) (hf : G.X.env.frame = some G.X.env.locals) (hN : G.X.N.Nodup) (hi : G.X.N[i]? = some n) (hln : G.X.env.kindOf n = some .local) (hg : Gl G.X x)
    (hb : ∀ (W : WX) (pn : List (Addr × Obj)) (xe : Value → Shared → Prop) (tk : Takes (G.X.tr pn xe) W), PassesOwn (model G.X.prog G.X.w) G.X.A G.X.env xe → SSs (trfx G W pn xe tk) body mb)
    (hsu : ∀ (a : Addr) (oe : Obj) (k : Nat) (C : Addr) (d : Option Addr) (fs : List (Str × D)) (pn : List (Addr × Obj)), G.cl[k]? = some C → Zc (.ref C) d oe → (∃ vs, oe.data = .fields vs) → tab.lookup k = some true → SSs (sufx G a oe pn d fs) (b₀ :: suite) (ms k fs a))
    (hpar : ∀ C fs a (ρ : Ev) S, i < ρ.length → tab.lookup C = some true → wipeF i (ms C fs a (ρ.set i (some (.raw a))) S) = wipeF i (ms C fs 0 (ρ.set i (some (.raw 0))) S)) (hdb : (x == ("__debug__" : Str)) = false := by decide) :
    SS G (.Try body [.ExceptHandler (some (.Name x np)) (some n) (b₀ :: suite) pos'] [] [] pos) (sTryAs (fun k => tab.lookup k) i mb ms) := by
  obtain ⟨C, hm, ht⟩ := M.ex
  exact ss_try_as (c := .ref C) hs hf hN hi hln ⟨hg, hdb, .inl hm⟩ (fun k b D h hD => (ht.get k b D h hD).1) hb hsu hpar
theorem se_xfX {a : Addr} {C : Addr} {oe : Obj} {pn : List (Addr × Obj)} {d : Option Addr} {fs : List (Str × D)} (i : Nat) (X : Exc G.X.prog G.X.w G.k G.X.mg G.X.base x c f) {k : Nat} (hC : G.cl[k]? = some C) (hk : tab.lookup k = some true) (hz : Zc (.ref C) d oe) (hf : ∃ vs, oe.data = .fields vs)
    (h1 : tab.all (fun kb => !kb.2 || kb.1 == c) = true := by rfl) (hN : G.X.N[i]? = some n := by rfl) (hv : Vis G.X.env.scope n := by first | exact Or.inl rfl | exact Or.inr (Or.inl rfl) | exact Or.inr (Or.inr rfl)) (hd : (n == ("__debug__" : Str)) = false := by decide)
    (hcd : (n == ("__classdict__" : Str)) = false := by decide) (hb : attributeBase (.Name n p) f G.X.env (eval (.Name n p) G.X.env) = eval (.Name n p) G.X.env := by rfl) : SE (sufx G a oe pn d fs) (.Attribute (.Name n p) f pos) (mXf i a fs f) := by
  obtain ⟨C', fI, fd, hC', hm, T, iC, tI, F1, hb', XF, hno, _⟩ := X.ex
  have e := cat1 hk h1
  subst e
  have : C' = C := by
    have h2 : G.k.c[k]? = some C := hC
    rw [hC'] at h2; cases h2; rfl
  subst this
  exact se_xf i XF hno hz hf hN hv hd hcd hb
theorem se_globX {d : D} (hg : Gl G.X x) (h : ∃ u, G.X.mg x = some u ∧ kD G.k 6 u = some d) (hd : (x == ("__debug__" : Str)) = false := by decide) : SE G (.Name x pos) (mC d) := by
  obtain ⟨u, hm, hk⟩ := h
  exact se_glob hg hm hk hd
end
end Dn

set_option Elab.async false
set_option linter.all false
set_option maxRecDepth 100000
set_option maxHeartbeats 2000000
namespace Dn
open PySem PySem.Spec PyProof.Rows L2 RZ
/-! o[i] = e as a target, o a list or a dict -/
def putX (o i : D) (S : Sto) (d : D) : Option Sto := if isDk S o then dputD o i S d else putD o i S d
def gSubX (mo mi : ME) : MG := fun d ρ S => (mo ρ S).bind fun o S1 => (mi ρ S1).bind fun i S2 => match putX o i S2 d with
  | some S3 => .ok ρ S3
  | none => .stuck
def rSetX (K : PySem.W.Frag) : TSet := fun o i v H Q => rSetD o i v H Q ∨ rSetL o i v H Q
theorem set_X {X : Cx} (hu : X.A.units + 1 < cLine) : PSet X (rSetX X.K) := by
  intro pins s σ H o i v ov iv u Q I ro ri rv h
  rcases h with h | h
  · exact set_dict hu pins s σ H o i v ov iv u Q I ro ri rv h
  · exact set_list pins s σ H o i v ov iv u Q I ro ri rv h
section
variable {G : Fx} {o i : Expr} {mo mi : ME} {pos : Pos}
theorem sg_subX (hu : G.X.A.units + 1 < cLine) (ho : SE G o mo) (hi : SE G i mi)
    (ha : ∀ v, assign (.Subscript o i pos) G.X.env v = (do
      let ov ← holding [v] (eval o G.X.env)
      let iv ← holding [v, ov] (eval i G.X.env)
      standAt pos
      holding [v, ov, iv] (setItem ov iv v)
      release [v, ov, iv] []) := by intro _; rfl) : SG G [] (.Subscript o i pos) (gSubX mo mi) := pg_imp (pg_sub ho hi (set_X hu) ha) fun v σ H Q h => by
  obtain ⟨d, ρ, μ, S, at', r, q⟩ := h
  refine ⟨ρ, μ, S, at', nf_ok at' q fun μ1 H1 S1 ov u n1 a1 d1 q1 => ?_⟩
  refine ⟨ρ, μ1, S1, a1, nf_ok (Rel := relD G.g) a1 q1 fun μ2 H2 S2 iv w n2 a2 d2 q2 => ?_⟩
  have d1' := d1.mono n2
  have r' := (r.mono n1).mono n2
  split at q2
  rotate_left
  · exact q2.elim
  rename_i S3 e0
  unfold putX at e0
  split at e0
  · rename_i hdk
    left
    unfold dputD at e0
    split at e0
    · split at e0
      · split at e0
        · split at e0
          · rename_i j _ kvs e1 _ k e2 hl
            cases e0
            cases d1' with
            | @ref _ a h1 =>
              obtain ⟨ws, g, e4, e5⟩ := a2.rs.ob j _ _ h1 e1
              have e7 := keyD_ok e2 d2
              obtain ⟨p1, p2⟩ := put_rel (k := k) r' e4 e5
              have nx : Nx μ2 μ2 H2 (upd H2 a (.dK (putK ws k v))) := Nx.put (List.mem_of_getElem? h1) g fun z => z
              have hlw : ws.length < sizeLine := by
                have : ws.length = kvs.length := by simpa using congrArg List.length e4
                rw [this]; exact hl
              exact ⟨a, _, rfl, .inl ⟨ws, k, g, e7, hlw, rfl⟩, q2 μ2 _ σ nx (a2.rs.put h1 g (fun z => z) ⟨_, upd_same, p1, p2.mono nx⟩) (a2.re.mono nx) (Off.refl _ _)⟩
          · cases e0
        · cases e0
      · cases e0
    · cases e0
  · rename_i hdk
    right
    cases d1' <;> cases d2 <;> first | (simp [putD] at e0; done) | skip
    case ref.int j p hj k =>
      simp only [putD] at e0
      cases e : S2[j]? with
      | none => simp only [e] at e0; cases e0
      | some ob =>
        cases ob with
        | ins C ns fs => simp only [e] at e0; cases e0
        | dk kvs => simp only [e] at e0; cases e0
        | dt kvs => simp only [e] at e0; cases e0
        | hid => simp only [e] at e0; cases e0
        | lst xs =>
          obtain ⟨vs, g, rv⟩ := a2.rs.lst hj e
          simp only [e] at e0
          cases e2 : ixN xs.length k with
          | none => simp only [e2] at e0; cases e0
          | some m =>
            simp only [e2] at e0
            cases e0
            have hm := List.mem_of_getElem? hj
            have nx : Nx μ2 μ2 H2 (upd H2 p (.lst (vs.set m v))) := Nx.put hm g fun z => z
            refine ⟨p, vs, k, m, rfl, rfl, g, by rw [← rv.length]; exact e2, ?_⟩
            exact q2 μ2 _ σ nx (a2.rs.put hj g (fun z => z) ⟨_, upd_same, (RDs.set r' m rv).mono nx⟩) (a2.re.mono nx) (Off.refl _ _)
end
end Dn

set_option Elab.async false
set_option linter.all false
set_option maxRecDepth 100000
set_option maxHeartbeats 2000000
namespace Dn
open PySem PySem.Spec PyProof.Rows L2 RZ
/-! what a generated text needs at its end -/
theorem ixA_nd : ∀ {l : List Addr} {a : Addr} {i : Nat}, l.Nodup → l[i]? = some a → ixA l a = some i
  | [], _, _, _, h => by simp at h
  | b :: r, a, 0, _, h => by simp at h; simp [ixA, h]
  | b :: r, a, i + 1, nd, h => by
    obtain ⟨n1, n2⟩ := List.nodup_cons.mp nd
    have h' : r[i]? = some a := by simpa using h
    have ne : b ≠ a := fun e => n1 (by rw [e]; exact List.mem_of_getElem? h')
    simp [ixA, ne, ixA_nd n2 h']
theorem kD_adr {K : Kx} {n i : Nat} {a : Addr} (h : K.c[i]? = some a) : kD K (n + 1) (.ref a) = some (.adr i) := by
  unfold kD
  rw [ixA_nd K.nd h]
theorem dspX {P : Program} {w : World} {K : Kx} {mg : Str → Option Value} {base : Heap} {x : Str} {st : Stmt} {k j i n : Nat} {ps : List Str} {m : List D → Sto → R D} {fz : Bool} {mask : List Bool} (C : Cal P w K mg base x st k ps m) (b : BindsOk x st ps) (hj : k ≤ j) (hc : ∃ a, mg x = some (.ref a) ∧ K.c[i]? = some a) : Dsp P w K mg base j i n (callM fz mask (callD ps.length m)) := by
  obtain ⟨a, hm, hi⟩ := hc
  exact Cal.dsp C (Tri.callM Tri.call) b hj hi hm
theorem walkLaw {k : Nat} {d_law : List D → Sto → R D} {l : PySem.W.OpenLaw} {q : Program} {loose : List Str} {XP : (Str → Option Value) → Heap → Prop} {YP : World → Heap → Prop} {d : DefRec} {K : Params → PySem.W.Frag} (hm : ∀ ns : List Int, ns.length ≤ 63 → ∃ S, d_law [.rol (ns.map D.int)] [] = .ok (.bl true) S) (hn : l.most = some 63) (hdf : d.params.defaults = [])
    (hY : ∀ (w : World) (h : Heap), YP w h → (K w.params).In h)
    (F : ∀ (w : World) (mg : Str → Option Value) (fa : Addr) (h : Heap), (K w.params).In h → h.Ns mainGlobals mg → mg d.name = some (.ref fa) →
      ∃ (KX : Kx) (fd : FuncData), KX.K = K w.params ∧ (∀ (s : Shared) (u : Value), BindsTo s fd ⟨[u], []⟩ [("_law_script", u)]) ∧ ∀ base : Heap, (K w.params).In base → base.Ns mainGlobals mg → FnOk l.prog w (K w.params) mg base (L2.CX l.prog w) k fa fd ["_law_script"] (spD KX d_law 1)) (hk : Room k callerA := by exact ⟨rfl, by decide, by decide⟩) :
    PySem.W.WalkO q loose XP YP l.row.toRowW d [] (fun f vs => PySem.call f vs) :=
  L2.walk_of (n := 63) (k := k) (x := "_law_script") (CX := fun w => L2.CX l.prog w) (sp := fun w vs H Q E => ∀ KX : Kx, KX.K = K w.params → spD KX d_law 1 vs H Q E) hn (by decide) hdf hk hY (fun w mg fa h hK hN hmg => by
      obtain ⟨KX, fd, e, hb, hF⟩ := F w mg fa h hK hN hmg
      exact ⟨fd, hb, fun base b1 b2 => (hF base b1 b2).imp fun vs H Q E h => h KX e⟩)
    (fun w H a ns hl hO hS KX e => sp_law hm H a ns hl hO (by rw [e]; exact hS) _) fun w H s e s' z => cx_none z
end Dn
namespace Dn
open PySem PySem.Spec PyProof.Rows L2 RZ
theorem kwG0 {K : Kx} {fd : FuncData} {ps ks : List Str} {g : List Value → List Value → List Value} {gV : List V → List V → List V} {gD : List D → List D → List D} (h : KwB K fd ps ks g gV gD) (hn : ∀ ws : List Value, ws.length = ks.length → (g [] ws).length = ps.length) : KwG K fd ps 0 ks gV gD :=
  ⟨⟨g, ⟨fun s us ws X l1 l2 => by
    cases us with
    | nil => exact h.b.to s [] ws X (hn ws l2)
    | cons a r => simp at l1, h.b.rel⟩⟩, h.d⟩
end Dn

set_option Elab.async false
set_option linter.all false
namespace Dn
open PySem PySem.Spec PyProof.Rows L2 RZ
@[simp] theorem R.to_stuck {α : Type} {ρ : Ev} {f : α → Sto → F} : (R.stuck : R α).to ρ f = .stuck := rfl
@[simp] theorem R.bindN_stuck {α β : Type} {f : α → Sto → R β} : (R.stuck : R α).bindN f = .stuck := rfl
@[simp] theorem F.seq_stuck {k : Ev → Sto → F} : (F.stuck).seq k = .stuck := rfl
end Dn

set_option Elab.async false
set_option linter.all false
set_option maxRecDepth 100000
set_option maxHeartbeats 4000000
namespace Dn
open PySem PySem.Spec PyProof.Rows L2 RZ
/-! ## calls in a store of their own, comprehensions and loops, by what they do -/
mutual
def plD : D → Bool
  | .tup xs => plDs xs
  | .twk xs => plDs xs
  | .obj _ _ ds => plDs ds
  | .rol _ => false
  | .ref _ => false
  | .raw _ => false
  | _ => true
def plDs : List D → Bool
  | [] => true
  | d :: ds => plD d && plDs ds
end
mutual
theorem mapR_pl {lk : Nat → Option D} {rl : Bool} : ∀ {d : D}, plD d = true → mapR lk rl d = some d
  | .non, _ => rfl
  | .bl _, _ => rfl
  | .int _, _ => rfl
  | .str _, _ => rfl
  | .adr _, _ => rfl
  | .tup xs, h => by
    have h' : plDs xs = true := h
    simp [mapR, mapRs_pl h']
  | .twk xs, h => by
    have h' : plDs xs = true := h
    simp [mapR, mapRs_pl h']
  | .obj c ns xs, h => by
    have h' : plDs xs = true := h
    simp [mapR, mapRs_pl h']
  | .rol _, h => nomatch h
  | .ref _, h => nomatch h
  | .raw _, h => nomatch h
theorem mapRs_pl {lk : Nat → Option D} {rl : Bool} : ∀ {ds : List D}, plDs ds = true → mapRs lk rl ds = some ds
  | [], _ => rfl
  | d :: ds, h => by
    have h' : (plD d && plDs ds) = true := h
    rw [Bool.and_eq_true] at h'
    simp [mapRs, mapR_pl h'.1, mapRs_pl h'.2]
end
theorem plDs_all {ds : List D} : plDs ds = true ↔ ∀ d ∈ ds, plD d = true := by
  induction ds with
  | nil => simp [plDs]
  | cons a r ih => simp [plDs, ih]
@[simp] theorem plDs_nil : plDs [] = true := rfl
@[simp] theorem plDs_cons {d : D} {ds : List D} : plDs (d :: ds) = (plD d && plDs ds) := rfl
@[simp] theorem plD_int {i : Int} : plD (.int i) = true := rfl
@[simp] theorem plD_str {i : Str} : plD (.str i) = true := rfl
@[simp] theorem plD_bl {i : Bool} : plD (.bl i) = true := rfl
@[simp] theorem plD_non : plD .non = true := rfl
@[simp] theorem plD_tup {ds : List D} : plD (.tup ds) = plDs ds := rfl
/-! no list in it has a place: lists that nothing changes may stand in it -/
mutual
def prD : D → Bool
  | .tup xs => prDs xs
  | .twk xs => prDs xs
  | .obj _ _ ds => prDs ds
  | .rol xs => prDs xs
  | .ref _ => false
  | .raw _ => false
  | _ => true
def prDs : List D → Bool
  | [] => true
  | d :: ds => prD d && prDs ds
end
mutual
theorem mapR_pr {lk : Nat → Option D} : ∀ {d : D}, prD d = true → mapR lk true d = some d
  | .non, _ => rfl
  | .bl _, _ => rfl
  | .int _, _ => rfl
  | .str _, _ => rfl
  | .adr _, _ => rfl
  | .tup xs, h => by
    have h' : prDs xs = true := h
    simp [mapR, mapRs_pr h']
  | .twk xs, h => by
    have h' : prDs xs = true := h
    simp [mapR, mapRs_pr h']
  | .obj c ns xs, h => by
    have h' : prDs xs = true := h
    simp [mapR, mapRs_pr h']
  | .rol xs, h => by
    have h' : prDs xs = true := h
    simp [mapR, mapRs_pr h']
  | .ref _, h => nomatch h
  | .raw _, h => nomatch h
theorem mapRs_pr {lk : Nat → Option D} : ∀ {ds : List D}, prDs ds = true → mapRs lk true ds = some ds
  | [], _ => rfl
  | d :: ds, h => by
    have h' : (prD d && prDs ds) = true := h
    rw [Bool.and_eq_true] at h'
    simp [mapRs, mapR_pr h'.1, mapRs_pr h'.2]
end
theorem prDs_all {ds : List D} : prDs ds = true ↔ ∀ d ∈ ds, prD d = true := by
  induction ds with
  | nil => simp [prDs]
  | cons a r ih => simp [prDs, ih]
@[simp] theorem prDs_nil : prDs [] = true := rfl
@[simp] theorem prDs_cons {d : D} {ds : List D} : prDs (d :: ds) = (prD d && prDs ds) := rfl
@[simp] theorem prD_int {i : Int} : prD (.int i) = true := rfl
@[simp] theorem prD_str {i : Str} : prD (.str i) = true := rfl
@[simp] theorem prD_bl {i : Bool} : prD (.bl i) = true := rfl
@[simp] theorem prD_non : prD .non = true := rfl
@[simp] theorem prD_tup {ds : List D} : prD (.tup ds) = prDs ds := rfl
@[simp] theorem prD_rol {ds : List D} : prD (.rol ds) = prDs ds := rfl
mutual
theorem pr_pl : ∀ {d : D}, plD d = true → prD d = true
  | .non, _ => rfl
  | .bl _, _ => rfl
  | .int _, _ => rfl
  | .str _, _ => rfl
  | .adr _, _ => rfl
  | .tup xs, h => prs_pls (ds := xs) h
  | .twk xs, h => prs_pls (ds := xs) h
  | .obj c ns xs, h => prs_pls (ds := xs) h
  | .rol _, h => nomatch h
  | .ref _, h => nomatch h
  | .raw _, h => nomatch h
theorem prs_pls : ∀ {ds : List D}, plDs ds = true → prDs ds = true
  | [], _ => rfl
  | d :: ds, h => by
    have h' : (plD d && plDs ds) = true := h
    rw [Bool.and_eq_true] at h'
    show (prD d && prDs ds) = true
    rw [pr_pl h'.1, prs_pls h'.2]; rfl
end
/-- what a list at i holds, frozen -/
theorem lkX_lst {S : Sto} {ai rl : Bool} {ex : List Nat} {n i : Nat} {xs ys : List D} (h : S[i]? = some (.lst xs)) (hx : i ∉ ex) (hm : mapRs (lkX S ai rl ex n) rl xs = some ys) : lkX S ai rl ex (n + 1) i = some (.rol ys) := by
  simp [lkX, hx, h, hm]
section
variable {fz : Bool} {mask : List Bool} {m : List D → Sto → R D} {ds es : List D} {S T : Sto} {v : D}
theorem callM_pl (hr : refsM mask ds = []) (ha : argsM (lkX S false true [] fuelM) mask ds 0 = some es) (h : m es [] = .ok v T) (hp : plD v = true) : callM fz mask m ds S = .ok v S := by
  unfold callM
  rw [hr]
  simp only [List.nodup_nil, if_true, ha, mapO, h]
  unfold endM
  simp only [backM]
  cases v <;> first | (simp [plD] at hp; done) | simp [impM, mapR_pl hp]
theorem callM_lst {xs ys : List D} {j : Nat} (hr : refsM mask ds = []) (ha : argsM (lkX S false true [] fuelM) mask ds 0 = some es) (h : m es [] = .ok (.ref j) T) (hj : T[j]? = some (.lst xs)) (hp : mapRs (lkX T true false [j] fuelM) false xs = some ys) :
    callM fz mask m ds S = .ok (.ref S.length) (S ++ [.lst ys]) := by
  unfold callM
  rw [hr]
  simp only [List.nodup_nil, if_true, ha, mapO, h]
  unfold endM
  have e : exM 0 (.ref j) = [j] := rfl
  simp only [backM, List.length_nil, impM, List.getElem?_nil, hj, mapO', e]
  rw [hp]
  rfl
theorem callM_exc {c : Nat} {fs : List (Str × D)} (hr : refsM mask ds = []) (ha : argsM (lkX S false true [] fuelM) mask ds 0 = some es) (h : m es [] = .exc c fs T) (hp : plDs (fs.map (·.2)) = true) : callM fz mask m ds S = .exc c fs S := by
  unfold callM
  rw [hr]
  simp only [List.nodup_nil, if_true, ha, mapO, h]
  unfold endM
  simp only [backM, List.length_nil]
  rw [mapRs_pl hp]
  have : (fs.map (·.1)).zip (fs.map (·.2)) = fs := by
    clear h hp
    induction fs with
    | nil => rfl
    | cons a r ih => simp [ih]
  simp [this]
end
theorem refsM_ff : ∀ {ds : List D}, refsM (ds.map fun _ => false) ds = []
  | [] => rfl
  | d :: ds => by simp only [List.map_cons, refsM]; exact refsM_ff
theorem argsM_pr {lk : Nat → Option D} {p : Nat} : ∀ {ds : List D}, prDs ds = true → argsM lk (ds.map fun _ => false) ds p = some ds
  | [], _ => rfl
  | d :: ds, h => by
    have h' : (prD d && prDs ds) = true := h
    rw [Bool.and_eq_true] at h'
    simp [argsM, mapR_pr h'.1, argsM_pr h'.2]
section
variable {fz : Bool} {m : List D → Sto → R D} {ds es : List D} {S T : Sto} {v : D}
theorem call_pl (hp : prDs ds = true) (h : m ds [] = .ok v T) (hv : plD v = true) : callM fz (ds.map fun _ => false) (callD ds.length m) ds S = .ok v S :=
  callM_pl refsM_ff (argsM_pr hp) (by simp only [callD, if_true]; exact h) hv
theorem call_lst {xs ys : List D} {j : Nat} (hp : prDs ds = true) (h : m ds [] = .ok (.ref j) T) (hj : T[j]? = some (.lst xs)) (hy : mapRs (lkX T true false [j] fuelM) false xs = some ys) :
    callM fz (ds.map fun _ => false) (callD ds.length m) ds S = .ok (.ref S.length) (S ++ [.lst ys]) :=
  callM_lst refsM_ff (argsM_pr hp) (by simp only [callD, if_true]; exact h) hj hy
theorem call_exc {c : Nat} {fs : List (Str × D)} (hp : prDs ds = true) (h : m ds [] = .exc c fs T) (hy : plDs (fs.map (·.2)) = true) : callM fz (ds.map fun _ => false) (callD ds.length m) ds S = .exc c fs S :=
  callM_exc refsM_ff (argsM_pr hp) (by simp only [callD, if_true]; exact h) hy
end
/-- a walk over items that stay -/
structure Wks (it : Wk) (xs : List D) (B : Sto) : Prop where
  n : it.n = xs.length
  get : ∀ k S, Has B S → it.get k S = xs[k]?
  fin : ∀ S, Has B S → it.fin S = true
theorem Wks.tup {xs : List D} {B : Sto} : Wks (itT xs) xs B := ⟨rfl, fun _ _ _ => rfl, fun _ _ => rfl⟩
theorem Wks.lst {xs : List D} {B : Sto} {i : Nat} (h : B[i]? = some (.lst xs)) : Wks (itL i xs.length) xs B :=
  ⟨rfl, fun k S hs => by simp [itL, hs i _ h], fun S hs => by simp [itL, lenL, hs i _ h]⟩
theorem Wks.mono {it : Wk} {xs : List D} {B B' : Sto} (h : Wks it xs B) (hb : Has B B') : Wks it xs B' := ⟨h.n, fun k S hs => h.get k S (hb.trans hs), fun S hs => h.fin S (hb.trans hs)⟩
def enumDs (k : Int) : List D → List D
  | [] => []
  | x :: r => .twk [.int k, x] :: enumDs (k + 1) r
theorem enumDs_get {xs : List D} : ∀ {k : Int} {j : Nat}, (enumDs k xs)[j]? = (xs[j]?).map fun d => .twk [.int (k + (j : Nat)), d] := by
  induction xs with
  | nil => intro k j; simp [enumDs]
  | cons x r ih =>
    intro k j
    cases j with
    | zero => simp [enumDs]
    | succ j =>
      simp only [enumDs, List.getElem?_cons_succ, ih]
      congr 1
      funext d
      have : k + 1 + (j : Int) = k + ((j + 1 : Nat) : Int) := by omega
      rw [this]
theorem enumDs_len {xs : List D} {k : Int} : (enumDs k xs).length = xs.length := by
  induction xs generalizing k with
  | nil => rfl
  | cons x r ih => simp [enumDs, ih]
theorem Wks.enumR {xs : List D} {B : Sto} {k : Int} : Wks (itNR k xs) (enumDs k xs) B := ⟨enumDs_len.symm, fun j S _ => by simp [itNR, enumDs_get], fun _ _ => rfl⟩
theorem Wks.enumL {xs : List D} {B : Sto} {i : Nat} {k : Int} (h : B[i]? = some (.lst xs)) : Wks (itN k i xs.length) (enumDs k xs) B :=
  ⟨enumDs_len.symm, fun j S hs => by simp [itN, hs i _ h, enumDs_get], fun S hs => by simp [itN, lenL, hs i _ h]⟩
/-- a loop -/
theorem forF_run {it : Wk} {tg : MG} {body : MS} (P : Nat → Ev → Sto → Prop) (out : F → Prop)
    (hs : ∀ k ρ S, k < it.n → P k ρ S → ∃ d ρ1 S1, it.get k S = some d ∧ tg d ρ S = .ok ρ1 S1 ∧ ((∃ ρ2 S2, (body ρ1 S1 = .nx ρ2 S2 ∨ body ρ1 S1 = .ct ρ2 S2) ∧ P (k + 1) ρ2 S2) ∨ (∃ d2 S2, body ρ1 S1 = .rt d2 S2 ∧ out (.rt d2 S2)) ∨ (∃ c fs ρ2 S2, body ρ1 S1 = .ex c fs ρ2 S2 ∧ out (.ex c fs ρ2 S2)) ∨ (∃ ρ2 S2, body ρ1 S1 = .bk ρ2 S2 ∧ out (.nx ρ2 S2))))
    (hf : ∀ ρ S, P it.n ρ S → it.fin S = true ∧ out (.nx ρ S)) : ∀ r, r ≤ it.n → ∀ ρ S, P (it.n - r) ρ S → out (forF it tg body r ρ S)
  | 0, _, ρ, S, h => by
    obtain ⟨h1, h2⟩ := hf ρ S h
    rw [forF, if_pos h1]; exact h2
  | r + 1, hr, ρ, S, h => by
    obtain ⟨d, ρ1, S1, h1, h2, h3⟩ := hs _ ρ S (by omega) h
    rw [forF, h1]
    simp only [h2]
    rcases h3 with ⟨ρ2, S2, h3, h4⟩ | ⟨d2, S2, h3, h4⟩ | ⟨c, fs, ρ2, S2, h3, h4⟩ | ⟨ρ2, S2, h3, h4⟩
    · have e : it.n - (r + 1) + 1 = it.n - r := by omega
      rw [e] at h4
      have ih := forF_run P out hs hf r (by omega) ρ2 S2 h4
      rcases h3 with h3 | h3 <;> simp only [h3, ih]
    · simp only [h3]; exact h4
    · simp only [h3]; exact h4
    · simp only [h3]; exact h4
/-- a comprehension over items that stay -/
theorem lcF_run {it : Wk} {xs : List D} {tg : MG} {tt : MB} {te : ME} {own : List Nat} {id : Nat} {ρ : Ev} {B : Sto} (f : D → D) (p : D → Bool) (W : Wks it xs B) (hid : B.length ≤ id) (hz : xs.length ≤ 16777216)
    (hb : ∀ (k : Nat) (x : D) (S : Sto) (acc : List D), xs[k]? = some x → Has B S → S[id]? = some (.lst acc) → ∃ ρ1 S2, tg x (wipeE ρ own) S = .ok ρ1 S ∧ tt ρ1 S = .ok (p x) S2 ∧ Has B S2 ∧ S2[id]? = some (.lst acc) ∧ (p x = true → ∃ S3, te ρ1 S2 = .ok (f x) S3 ∧ Has B S3 ∧ S3[id]? = some (.lst acc))) :
    ∀ r, r ≤ it.n → ∀ acc S, Has B S → S[id]? = some (.lst acc) → acc.length ≤ it.n - r → ∃ S', lcF it tg tt te own id ρ r S = .ok () S' ∧ Has B S' ∧ S'[id]? = some (.lst (acc ++ ((xs.drop (it.n - r)).filter p).map f))
  | 0, _, acc, S, hB, hi, _ => by
    refine ⟨S, by rw [lcF, if_pos (W.fin S hB)], hB, ?_⟩
    have : xs.drop (it.n - 0) = [] := List.drop_eq_nil_of_le (by rw [W.n]; exact Nat.le_refl _)
    rw [this, hi]; simp
  | r + 1, hr, acc, S, hB, hi, hl => by
    have hk : it.n - (r + 1) < xs.length := by rw [← W.n]; omega
    have hx : xs[it.n - (r + 1)]? = some xs[it.n - (r + 1)] := List.getElem?_eq_getElem hk
    generalize hxe : xs[it.n - (r + 1)] = x at hx
    have hd : xs.drop (it.n - (r + 1)) = x :: xs.drop (it.n - r) := by
      have e2 := List.drop_eq_getElem_cons hk
      rw [e2, hxe]
      congr 2
      omega
    obtain ⟨ρ1, S2, h1, h2, h3, h4, h5⟩ := hb _ x S acc hx hB hi
    have hg := W.get (it.n - (r + 1)) S hB
    rw [hx] at hg
    rw [hd]
    simp only [lcF, hg, h1, R.bindN_ok, h2]
    cases hp : p x with
    | false =>
      obtain ⟨S', a, b, c⟩ := lcF_run f p W hid hz hb r (by omega) acc S2 h3 h4 (by omega)
      exact ⟨S', by simpa using a, b, by simpa [hp] using c⟩
    | true =>
      obtain ⟨S3, a1, a2, a3⟩ := h5 hp
      obtain ⟨S', a, b, c⟩ := lcF_run f p W hid hz hb r (by omega) (acc ++ [f x]) (S3.set id (.lst (acc ++ [f x]))) (a2.set hid) (List.getElem?_set_self (List.getElem?_eq_some_iff.mp a3).1) (by simp; omega)
      have hz2 : acc.length < sizeLine := by rw [sizeLine_eq]; have := W.n; omega
      exact ⟨S', by simp only [if_true, a1, R.bindN_ok, a3, if_pos hz2]; exact a, b, by simpa [hp] using c⟩
theorem mLc_run {mi : MI} {it : Wk} {xs : List D} {tg : MG} {tt : MB} {te : ME} {own : List Nat} {ρ : Ev} {S S1 : Sto} (f : D → D) (p : D → Bool) (h1 : mi ρ S = .ok it S1) (W : Wks it xs S1) (hz : xs.length ≤ 16777216)
    (hb : ∀ (k : Nat) (x : D) (S : Sto) (acc : List D), xs[k]? = some x → Has S1 S → S[S1.length]? = some (.lst acc) → ∃ ρ1 S2, tg x (wipeE ρ own) S = .ok ρ1 S ∧ tt ρ1 S = .ok (p x) S2 ∧ Has S1 S2 ∧ S2[S1.length]? = some (.lst acc) ∧ (p x = true → ∃ S3, te ρ1 S2 = .ok (f x) S3 ∧ Has S1 S3 ∧ S3[S1.length]? = some (.lst acc))) :
    ∃ S2, mLc mi tg tt te own ρ S = .ok (.ref S1.length) S2 ∧ Has S1 S2 ∧ S2[S1.length]? = some (.lst ((xs.filter p).map f)) := by
  obtain ⟨S', a, b, c⟩ := lcF_run (it := it) (id := S1.length) f p W (Nat.le_refl _) hz hb it.n (Nat.le_refl _) [] (S1 ++ [.lst []]) (Has.app _ _) (by simp) (by simp)
  refine ⟨S', ?_, b, by simpa using c⟩
  simp [mLc, h1, a]
/-- pure: the store stays -/
theorem mLc_pure {mi : MI} {it : Wk} {xs : List D} {i : Nat} {te : ME} {own : List Nat} {ρ : Ev} {S S1 : Sto} (f : D → D) (h1 : mi ρ S = .ok it S1) (W : Wks it xs S1) (hz : xs.length ≤ 16777216)
    (hb : ∀ (k : Nat) (x : D) (S : Sto), xs[k]? = some x → Has S1 S → te ((wipeE ρ own).set i (some x)) S = .ok (f x) S) :
    ∃ S2, mLc mi (gN i) tYesM te own ρ S = .ok (.ref S1.length) S2 ∧ Has S1 S2 ∧ S2[S1.length]? = some (.lst (xs.map f)) := by
  obtain ⟨S2, a, b, c⟩ := mLc_run (tg := gN i) (tt := tYesM) (te := te) (own := own) (ρ := ρ) f (fun _ => true) h1 W hz fun k x S acc hx hB hi => ⟨_, S, rfl, rfl, hB, hi, fun _ => ⟨S, hb k x S hx hB, hB, hi⟩⟩
  exact ⟨S2, a, b, by have e : xs.filter (fun _ => true) = xs := List.filter_eq_self.mpr (fun _ _ => rfl); rw [e] at c; exact c⟩
theorem mLc_grow {mi : MI} {it : Wk} {xs : List D} {i : Nat} {te : ME} {own : List Nat} {ρ : Ev} {S S1 : Sto} (f : D → D) (h1 : mi ρ S = .ok it S1) (W : Wks it xs S1) (hz : xs.length ≤ 16777216)
    (hb : ∀ (k : Nat) (x : D) (S : Sto), xs[k]? = some x → Has S1 S → ∃ S2, te ((wipeE ρ own).set i (some x)) S = .ok (f x) S2 ∧ Has S S2) :
    ∃ S2, mLc mi (gN i) tYesM te own ρ S = .ok (.ref S1.length) S2 ∧ Has S1 S2 ∧ S2[S1.length]? = some (.lst (xs.map f)) := by
  obtain ⟨S2, a, b, c⟩ := mLc_run (tg := gN i) (tt := tYesM) (te := te) (own := own) (ρ := ρ) f (fun _ => true) h1 W hz fun k x S acc hx hB hi => by
    obtain ⟨S3, e1, e2⟩ := hb k x S hx hB
    exact ⟨_, S, rfl, rfl, hB, hi, fun _ => ⟨S3, e1, hB.trans e2, e2 _ _ hi⟩⟩
  exact ⟨S2, a, b, by have e : xs.filter (fun _ => true) = xs := List.filter_eq_self.mpr (fun _ _ => rfl); rw [e] at c; exact c⟩
end Dn
namespace Dn
open PySem PySem.Spec PyProof.Rows L2 RZ TL
theorem seq_step {a b : MS} {ρ ρ1 : Ev} {S S1 : Sto} (h : a ρ S = .nx ρ1 S1) : sSeq a b ρ S = b ρ1 S1 := by rw [sSeq_eq, h, F.seq_nx]
theorem seq_rt {a b : MS} {ρ : Ev} {S S1 : Sto} {d : D} (h : a ρ S = .rt d S1) : sSeq a b ρ S = .rt d S1 := by rw [sSeq_eq, h, F.seq_rt]
theorem seq_ex {a b : MS} {ρ ρ1 : Ev} {S S1 : Sto} {c : Nat} {fs : List (Str × D)} (h : a ρ S = .ex c fs ρ1 S1) : sSeq a b ρ S = .ex c fs ρ1 S1 := by rw [sSeq_eq, h, F.seq_ex]
theorem rng1_nat {n : Nat} (h : n ≤ 1000000) : rng1 [.int (n : Int)] = some (itR 0 n) := by
  have z5 : (n : Int) < 4611686018427387904 := by omega
  simp [rng1, rngI, z5]
theorem mIA_of {f : List D → Sto → Option Wk} {mA : ML} {ρ : Ev} {S S1 : Sto} {ds : List D} {it : Wk} (h1 : mA ρ S = .ok ds S1) (h2 : f ds S1 = some it) : mIA f mA ρ S = .ok it S1 := by
  unfold mIA
  rw [h1, R.bind_ok, h2]
theorem sSeq_assoc {a b c : MS} {ρ : Ev} {S : Sto} : sSeq a (sSeq b c) ρ S = (sSeq a b ρ S).seq c := by
  simp only [sSeq]
  cases a ρ S <;> rfl
/-- what a def's body comes to -/
theorem fn_rt {m : MS} {n : Nat} {ds : List D} {S S1 : Sto} {d : D} {ρ : Ev} (hρ : ds.map some ++ List.replicate (n - ds.length) none = ρ) (h : m ρ S = .rt d S1) : fnD m n ds S = .ok d S1 := by unfold fnD; rw [hρ, h]
theorem fn_nx {m : MS} {n : Nat} {ds : List D} {S S1 : Sto} {ρ ρ1 : Ev} (hρ : ds.map some ++ List.replicate (n - ds.length) none = ρ) (h : m ρ S = .nx ρ1 S1) : fnD m n ds S = .ok .non S1 := by unfold fnD; rw [hρ, h]
theorem fn_ex {m : MS} {n : Nat} {ds : List D} {S S1 : Sto} {ρ ρ1 : Ev} {c : Nat} {fs : List (Str × D)} (hρ : ds.map some ++ List.replicate (n - ds.length) none = ρ) (h : m ρ S = .ex c fs ρ1 S1) : fnD m n ds S = .exc c fs S1 := by unfold fnD; rw [hρ, h]
end Dn

set_option Elab.async false
set_option linter.all false
set_option maxRecDepth 100000
set_option maxHeartbeats 2000000
namespace Dn
open PySem PySem.Spec PyProof.Rows L2 RZ
/-! ## several clauses, each with a name or without -/
abbrev Cla := Value × Option Nat × (Addr → Value → Option Addr → TS)
def slotW (oi : Option Nat) (v : Option V) (σ : L2.St) : L2.St := match oi with
  | none => σ
  | some i => σ.set i v
def endsW (oi : Option Nat) (D : Ends) : Ends where
  nx := fun σ H => D.nx (slotW oi none σ) H
  rt := D.rt
  bk := fun σ H => D.bk (slotW oi none σ) H
  ct := fun σ H => D.ct (slotW oi none σ) H
def wMs (K : PySem.W.Frag) (Wout : WX) (D : Ends) : List Cla → WX
  | [] => Wout
  | (c, oi, ts) :: r => fun cls d σ H => ∃ b, PySem.W.exmOne K cls c = some b ∧ (b = true → ∀ a, H a = none → ts a cls d (endsW oi D) (slotW oi (some (.ref a)) σ) H) ∧ (b = false → wMs K Wout D r cls d σ H)
inductive ClaOk (X : Cx) : List ExceptHandler → List Cla → Prop
  | nil : ClaOk X [] []
  | bare {x : Str} {c : Value} {ts : Addr → Value → Option Addr → TS} {b₀ : Stmt} {suite : List Stmt} {np pos' : Pos} {hds : List ExceptHandler} {l : List Cla} (hc : Names X x c)
      (hsu : ∀ (a : Addr) (oe : Obj) (cls : Value) (d : Option Addr) (pn : List (Addr × Obj)), Zc cls d oe → (∃ vs, oe.data = .fields vs) → PSs (X.suite a ((a, oe) :: pn)) (b₀ :: suite) (ts a cls d)) (r : ClaOk X hds l) :
      ClaOk X (.ExceptHandler (some (.Name x np)) none (b₀ :: suite) pos' :: hds) ((c, none, ts) :: l)
  | named {x n : Str} {i : Nat} {c : Value} {ts : Addr → Value → Option Addr → TS} {b₀ : Stmt} {suite : List Stmt} {np pos' : Pos} {hds : List ExceptHandler} {l : List Cla} (hc : Names X x c) (hi : X.N[i]? = some n) (hln : X.env.kindOf n = some .local)
      (hsu : ∀ (a : Addr) (oe : Obj) (cls : Value) (d : Option Addr) (pn : List (Addr × Obj)), Zc cls d oe → (∃ vs, oe.data = .fields vs) → PSs (X.suite a ((a, oe) :: pn)) (b₀ :: suite) (ts a cls d)) (r : ClaOk X hds l) :
      ClaOk X (.ExceptHandler (some (.Name x np)) (some n) (b₀ :: suite) pos' :: hds) ((c, some i, ts) :: l)
section
variable {X : Cx} {body : List Stmt} {h₀ : ExceptHandler} {hds : List ExceptHandler} {l : List Cla} {pos : Pos} {tb : WX → TS} {Wout : WX}
theorem ps_try_ms (hs : X.stack = X.env :: X.outer) (hf : X.env.frame = some X.env.locals) (hN : X.N.Nodup) (tk : Takes X Wout)
    (hb : ∀ (W : WX) (pn : List (Addr × Obj)) (xe : Value → Shared → Prop), Takes (X.tr pn xe) W → PassesOwn (model X.prog X.w) X.A X.env xe → PSs (X.tr pn xe) body (tb W))
    (hh : ClaOk X (h₀ :: hds) l) : PS X (.Try body (h₀ :: hds) [] [] pos) (fun D σ H => tb (wMs X.K Wout D l) D σ H) := by
  refine ⟨fun pins s σ H D I h => wpAny_Try_except ?_⟩
  have ok := I.ok
  have fr0 : X.A.frames = some (X.env :: X.outer) := ok.frames.trans (by rw [hs])
  refine wpAny_mono ((hb (wMs X.K Wout D l) (X.pn ++ pins) (fun e s₁ => wpAny (model X.prog X.w) X.A (noteFrame e X.env) (fun _ s₂ => wpAny (model X.prog X.w) X.A (setFlight e none) (fun _ s₃ =>
    wpAny (model X.prog X.w) X.A (handleBy e X.env (h₀ :: hds)) (SP X pins D) X.xe s₃) X.xe s₂) X.xe s₁) (fun u s' caught => ?_) PassesOwn.looking).run [] s σ H D (I.toTry _) h) (fun f s1 hsp => ?_) (fun e s1 he => he)
  · obtain ⟨a, B, sI, pins', σ', H', cls, d, rfl, J', nb, up, sky, na, os, ag, wish⟩ := caught
    have J := J'.ofTry ok
    rw [hs] at sky
    refine Sky.land Zc.steady fr0 hf sky fun h3 fl up3 => ?_
    have J3 : Inv X pins σ' H' { s' with heap := h3 } := J.landed nb fl.1 (up.trans up3) os ag
    obtain ⟨o3, vs3, g3, z3, f3⟩ := fl.there
    have off : a ∉ frs (X.env :: X.outer) := fun hm => by
      obtain ⟨_, o', e', nf⟩ := fl.2.2.1.mem hm
      rw [g3] at e'; cases e'
      exact nf _ f3
    have offL : a ≠ X.env.locals := fun z => off (List.mem_filterMap.mpr ⟨X.env, List.mem_cons_self, by rw [hf, z]⟩)
    have offF : a ∉ X.fs := fun hm => by
      obtain ⟨e, he, q⟩ := List.mem_filterMap.mp hm
      exact off (List.mem_filterMap.mpr ⟨e, List.mem_cons_of_mem _ he, q⟩)
    have T3 := J3.suite g3 f3 na offL offF
    have looks : ∀ {c : Value} {b : Bool}, PySem.W.exmOne X.K cls c = some b → _ := fun {c b} hb1 => PySem.W.exm_one (M := model X.prog X.w) J3.kIn (show PySem.W.Looks (model X.prog X.w) h3 (typeOf (.ref a)) cls from fun A Q E s k q => wpAny_typeOf_ref (k _ _ g3) (by rw [z3.1]; exact q)) hb1
    have reads : ∀ {x : Str} {c : Value} {np : Pos} {Q : Value → Shared → Prop} {E : Value → Shared → Prop}, Names X x c → Q c { s' with heap := h3 } → wpAny (model X.prog X.w) (X.A.mark (some (.ref a))) (eval (.Name x np) X.env) Q E { s' with heap := h3 } := fun {x c np Q E} hc q => by
      rcases hc with ⟨hg, hdb, hm | ⟨hm, hv, hnn⟩⟩
      · exact ld_glob (X := X.suite a ((a, o3) :: (X.pn ++ pins))) T3 hg hm q hdb
      · exact ld_blt (X := X.suite a ((a, o3) :: (X.pn ++ pins))) T3 hg hm hv q hnn hdb
    have go : ∀ {hds' : List ExceptHandler} {l' : List Cla}, ClaOk X hds' l' → wMs X.K Wout D l' cls d σ' H' → wpAny (model X.prog X.w) X.A (handleBy (.ref a) X.env hds') (SP X pins D) X.xe { s' with heap := h3 } := by
      intro hds' l' hk
      induction hk with
      | nil =>
        intro wish
        refine wpAny_handleBy_nil ?_
        obtain ⟨_, _, _, oe, vs, T, oT, ts', he, hz, hd, h1, hr⟩ := id fl
        unfold PySem.passOn
        refine wpAny_bind (wpAny_field he hd h1 ?_)
        rw [if_neg (show ¬ ((Value.ref T == Value.none) = true) from by simp)]
        have up_ : wpAny (model X.prog X.w) X.A (setFlight (.ref a) X.env.frame) (fun _ s4 => wpAny (model X.prog X.w) X.A (throw (.ref a) : Sem Flow) (SP X pins D) X.xe s4) X.xe { s' with heap := h3 } := by
          rw [hf]
          exact HandSPX.setFlight_upZ fl fun h4 hh4 up4 => wpAny_throw (tk _ _ ⟨a, B, sI, pins, σ', H', cls, d, rfl, J, nb, (up.trans up3).trans up4, .inr (.inr (by rw [hs]; exact hh4)), na, os, ag, wish⟩)
        first
          | exact wpAny_bind (wpAny_pure (wpAny_bind up_))
          | exact wpAny_bind up_
      | @bare x c ts b₀ suite np pos' hds2 l2 hc hsu r ih =>
        rintro ⟨b, hb1, yes, no⟩
        refine wpAny_handleBy_cons (codeAny_handlers_test ?_) (by intro q; cases q)
        refine reads hc ((looks hb1).here ?_)
        cases b with
        | false => exact ih (no rfl)
        | true =>
          refine codeAny_handlers_suite (HandSPX.lands_againZ fl fun h4 fl4 up4 => ?_)
          have J4 : Inv X pins σ' H' { s' with heap := h4 } := J.landed nb fl4.1 ((up.trans up3).trans up4) os ag
          obtain ⟨o4, vs4, g4, z4, f4⟩ := fl4.there
          refine wpAny_mono ((hsu a o4 cls d (X.pn ++ pins) z4 ⟨_, f4⟩).run [] _ _ H' _ (J4.suite g4 f4 na offL offF) (yes rfl a na)) (fun f s6 hsp => ?_) (fun _ _ z => False.elim z)
          cases f with
          | ret u => obtain ⟨v6, σ6, H6, T6, r6, q6⟩ := hsp; exact ⟨_, _, _, T6.unsuite ok, r6, q6⟩
          | next => obtain ⟨σ6, H6, T6, q6⟩ := hsp; exact ⟨_, _, T6.unsuite ok, q6⟩
          | brk => obtain ⟨σ6, H6, T6, q6⟩ := hsp; exact ⟨_, _, T6.unsuite ok, q6⟩
          | cont => obtain ⟨σ6, H6, T6, q6⟩ := hsp; exact ⟨_, _, T6.unsuite ok, q6⟩
      | @named x n i c ts b₀ suite np pos' hds2 l2 hc hi hln hsu r ih =>
        rintro ⟨b, hb1, yes, no⟩
        refine wpAny_handleBy_cons (codeAny_handlers_test ?_) (by intro q; cases q)
        refine reads hc ((looks hb1).here ?_)
        cases b with
        | false => exact ih (no rfl)
        | true =>
          refine codeAny_handlers_suite_as (HandSPX.lands_againZ fl fun h4 fl4 up4 => ?_)
          have J4 : Inv X pins σ' H' { s' with heap := h4 } := J.landed nb fl4.1 ((up.trans up3).trans up4) os ag
          obtain ⟨o4, vs4, g4, z4, f4⟩ := fl4.there
          refine store_ok (X := X.suite a ((a, o4) :: (X.pn ++ pins))) (v := .ref a) (J4.suite g4 f4 na offL offF) hN hi (.inl hln) rfl (fun s5 T5 => ?_) (.inr hln)
          refine wpAny_mono ((hsu a o4 cls d (X.pn ++ pins) z4 ⟨_, f4⟩).run [] s5 _ H' _ T5 (yes rfl a na)) (fun f s6 hsp => ?_) (fun _ _ z => False.elim z)
          have wipes : ∀ {σ6 : L2.St} {H6 : Hp} {Q : Shared → Prop}, Inv (X.suite a ((a, o4) :: (X.pn ++ pins))) [] σ6 H6 s6 → (∀ s7, Inv X pins (σ6.set i none) H6 s7 → Q s7) →
              wpAny (model X.prog X.w) X.A (do bindName X.env n .none; unbindBehindTheSuite X.env n pos') (fun _ s7 => Q s7) X.xe s6 := fun T6 hq => gone_ok (T6.unsuite ok) hN hi hln hq
          cases f with
          | ret u => obtain ⟨v6, σ6, H6, T6, r6, q6⟩ := hsp; exact wipes T6 fun s7 J7 => ⟨_, _, _, J7, r6, q6⟩
          | next => obtain ⟨σ6, H6, T6, q6⟩ := hsp; exact wipes T6 fun s7 J7 => ⟨_, _, J7, q6⟩
          | brk => obtain ⟨σ6, H6, T6, q6⟩ := hsp; exact wipes T6 fun s7 J7 => ⟨_, _, J7, q6⟩
          | cont => obtain ⟨σ6, H6, T6, q6⟩ := hsp; exact wipes T6 fun s7 J7 => ⟨_, _, J7, q6⟩
    exact go hh wish
  · cases f with
    | ret u => obtain ⟨v, σ', H', J', r, q⟩ := hsp; exact ⟨v, σ', H', J'.ofTry ok, r, q⟩
    | next => obtain ⟨σ', H', J', q⟩ := hsp; exact wpAny_execs_nil ⟨σ', H', J'.ofTry ok, q⟩
    | brk => obtain ⟨σ', H', J', q⟩ := hsp; exact ⟨σ', H', J'.ofTry ok, q⟩
    | cont => obtain ⟨σ', H', J', q⟩ := hsp; exact ⟨σ', H', J'.ofTry ok, q⟩
end
end Dn
namespace Dn
open PySem PySem.Spec PyProof.Rows L2 RZ
abbrev ClM := List (Nat × Bool) × Option Nat × (Nat → List (Str × D) → Addr → MS)
def noEx : F → F
  | .ex _ _ _ _ => .stuck
  | r => r
def handF (c : Nat) (fs : List (Str × D)) (ρ : Ev) (S : Sto) : List ClM → F
  | [] => .ex c fs ρ S
  | (tab, oi, ms) :: r => match tab.lookup c with
    | some true => match oi with
      | some i => if i < ρ.length then wipeF i (ms c fs 0 (ρ.set i (some (.raw 0))) S) else .stuck
      | none => noEx (ms c fs 0 ρ S)
    | some false => handF c fs ρ S r
    | none => .stuck
def sTryM (mb : MS) (cls : List ClM) : MS := fun ρ S => match mb ρ S with
  | .ex c fs ρ1 S1 => handF c fs ρ1 S1 cls
  | r => r
theorem XD.off {K : Kx} {μ : Mp} {S : Sto} {H : Hp} {d : Addr} {fs : List (Str × D)} (xd : XD K μ H d fs) (rs : RS K μ S H) : d ∉ μ.m := fun z => by
  obtain ⟨vs, h1, _⟩ := xd.ex
  obtain ⟨k, hk⟩ := List.getElem?_of_mem z
  obtain ⟨o, _, ho⟩ := rs.atA hk
  cases o with
  | lst ds => obtain ⟨w, h, _⟩ := ho; rw [h1] at h; cases h
  | ins C' ns' fs' => obtain ⟨w, w2, w3, _, h, _⟩ := ho; rw [h1] at h; cases h
  | dk ds => obtain ⟨w, h, _⟩ := ho; rw [h1] at h; cases h
  | dt ds => obtain ⟨w, h, _⟩ := ho; rw [h1] at h; cases h
  | hid => obtain ⟨w, w2, h⟩ := ho; rw [h1] at h; cases h
inductive ClSS (G : Fx) : List ExceptHandler → List ClM → Prop
  | nil : ClSS G [] []
  | named {x n : Str} {i : Nat} {tab : List (Nat × Bool)} {ms : Nat → List (Str × D) → Addr → MS} {b₀ : Stmt} {suite : List Stmt} {np pos' : Pos} {hds : List ExceptHandler} {l : List ClM} (M : Cat G.k G.X.mg x tab) (hg : Gl G.X x) (hdb : (x == ("__debug__" : Str)) = false) (hi : G.X.N[i]? = some n) (hln : G.X.env.kindOf n = some .local)
      (hsu : ∀ (a : Addr) (oe : Obj) (k : Nat) (C : Addr) (d : Option Addr) (fs : List (Str × D)) (pn : List (Addr × Obj)), G.cl[k]? = some C → Zc (.ref C) d oe → (∃ vs, oe.data = .fields vs) → tab.lookup k = some true → SSs (sufx G a oe pn d fs) (b₀ :: suite) (ms k fs a))
      (hpar : ∀ C fs a (ρ : Ev) S, i < ρ.length → tab.lookup C = some true → wipeF i (ms C fs a (ρ.set i (some (.raw a))) S) = wipeF i (ms C fs 0 (ρ.set i (some (.raw 0))) S)) (r : ClSS G hds l) :
      ClSS G (.ExceptHandler (some (.Name x np)) (some n) (b₀ :: suite) pos' :: hds) ((tab, some i, ms) :: l)
  | bare {x : Str} {tab : List (Nat × Bool)} {ms : Nat → List (Str × D) → Addr → MS} {b₀ : Stmt} {suite : List Stmt} {np pos' : Pos} {hds : List ExceptHandler} {l : List ClM} (M : Cat G.k G.X.mg x tab) (hg : Gl G.X x) (hdb : (x == ("__debug__" : Str)) = false)
      (hsu : ∀ (a : Addr) (oe : Obj) (k : Nat) (C : Addr) (d : Option Addr) (fs : List (Str × D)) (pn : List (Addr × Obj)), G.cl[k]? = some C → Zc (.ref C) d oe → (∃ vs, oe.data = .fields vs) → tab.lookup k = some true → SSs (sufx G a oe pn d fs) (b₀ :: suite) (ms k fs a))
      (hpar : ∀ C fs a (ρ : Ev) S, tab.lookup C = some true → noEx (ms C fs a ρ S) = noEx (ms C fs 0 ρ S)) (r : ClSS G hds l) :
      ClSS G (.ExceptHandler (some (.Name x np)) none (b₀ :: suite) pos' :: hds) ((tab, none, ms) :: l)
section
variable {G : Fx} {hds : List ExceptHandler} {cls : List ClM} {body : List Stmt} {h₀ : ExceptHandler} {pos : Pos} {mb : MS}
def tsM (G : Fx) (tab : List (Nat × Bool)) (ms : Nat → List (Str × D) → Addr → MS) : Addr → Value → Option Addr → TS := fun a cls d D σ H => ∃ k C fs, cls = .ref C ∧ G.cl[k]? = some C ∧ tab.lookup k = some true ∧ tS (sugx G d fs) (ms k fs a) D σ H
theorem tsM_ok {tab : List (Nat × Bool)} {ms : Nat → List (Str × D) → Addr → MS} {b₀ : Stmt} {suite : List Stmt}
    (hsu : ∀ (a : Addr) (oe : Obj) (k : Nat) (C : Addr) (d : Option Addr) (fs : List (Str × D)) (pn : List (Addr × Obj)), G.cl[k]? = some C → Zc (.ref C) d oe → (∃ vs, oe.data = .fields vs) → tab.lookup k = some true → SSs (sufx G a oe pn d fs) (b₀ :: suite) (ms k fs a)) :
    ∀ (a : Addr) (oe : Obj) (cls : Value) (d : Option Addr) (pn : List (Addr × Obj)), Zc cls d oe → (∃ vs, oe.data = .fields vs) → PSs (G.X.suite a ((a, oe) :: pn)) (b₀ :: suite) (tsM G tab ms a cls d) := fun a oe cls d pn hz hd =>
  ⟨fun pins s σ H D I h => by
    obtain ⟨k, C, fs, rfl, hk, hm, h⟩ := h
    exact (hsu a oe k C d fs pn hk hz hd hm).run pins s σ H D I h⟩
theorem clss_ok (h : ClSS G hds cls) : ∃ l, ClaOk G.X hds l ∧ ∀ (μ : Mp) (H : Hp) (D0 : Ends) (c : Nat) (fs : List (Str × D)) (ρ : Ev) (S : Sto), PoS G.g μ H D0 (handF c fs ρ S cls) →
    ∀ (μ1 : Mp) (H1 : Hp) (σ1 : L2.St) (d Ca : Addr), Nx μ μ1 H H1 → RS G.k μ1 S H1 → RE G.k μ1 H1 ρ σ1 → XD G.k μ1 H1 d fs → G.cl[c]? = some Ca → G.pin μ1 H1 → wMs G.X.K G.W D0 l (.ref Ca) (some d) σ1 H1 := by
  induction h with
  | nil => exact ⟨[], .nil, fun μ H D0 c fs ρ S q μ1 H1 σ1 d Ca n r e x hC hp => q μ1 H1 σ1 d Ca n r e x hC⟩
  | @named x n i tab ms b₀ suite np pos' hds l M hg hdb hi hln hsu hpar r ih =>
    obtain ⟨C0, hm0, ht⟩ := M.ex
    obtain ⟨l', hl', hw⟩ := ih
    refine ⟨(.ref C0, some i, tsM G tab ms) :: l', .named ⟨hg, hdb, .inl hm0⟩ hi hln (tsM_ok hsu) hl', fun μ H D0 c fs ρ S q μ1 H1 σ1 d Ca n1 r1 e1 xd hCa hp => ?_⟩
    simp only [handF] at q
    cases hm : tab.lookup c with
    | none => rw [hm] at q; exact q.elim
    | some b =>
      rw [hm] at q
      refine ⟨b, (ht.get c b Ca hm hCa).1, fun hb1 a na => ?_, fun hb1 => ?_⟩
      · subst hb1
        dsimp only at q
        by_cases hl : i < ρ.length
        · rw [if_pos hl, ← hpar c fs a ρ S hl hm] at q
          have nm := xd.off r1
          obtain ⟨vs, h1, h2, h3⟩ := xd.ex
          refine ⟨c, Ca, fs, rfl, hCa, hm, ρ.set i (some (.raw a)), μ1, S, ⟨e1.set i (.raw a), r1, hp, ⟨d, vs, rfl, nm, h1, h2, h3⟩⟩, ?_⟩
          revert q
          cases ms c fs a (ρ.set i (some (.raw a))) S with
          | nx ρ2 S2 => exact fun q μ2 H2 σ2 n2 r2 e2 => q μ2 H2 _ (n1.trans n2) r2 (e2.wipe1 i)
          | bk ρ2 S2 => exact fun q μ2 H2 σ2 n2 r2 e2 => q μ2 H2 _ (n1.trans n2) r2 (e2.wipe1 i)
          | ct ρ2 S2 => exact fun q μ2 H2 σ2 n2 r2 e2 => q μ2 H2 _ (n1.trans n2) r2 (e2.wipe1 i)
          | rt d2 S2 => exact fun q μ2 H2 v n2 r2 e2 => q μ2 H2 v (n1.trans n2) r2 e2
          | ex c2 f2 ρ2 S2 => exact fun q => q.elim
          | stuck => exact fun q => q.elim
        · rw [if_neg hl] at q; exact q.elim
      · subst hb1
        exact hw μ H D0 c fs ρ S q μ1 H1 σ1 d Ca n1 r1 e1 xd hCa hp
  | @bare x tab ms b₀ suite np pos' hds l M hg hdb hsu hpar r ih =>
    obtain ⟨C0, hm0, ht⟩ := M.ex
    obtain ⟨l', hl', hw⟩ := ih
    refine ⟨(.ref C0, none, tsM G tab ms) :: l', .bare ⟨hg, hdb, .inl hm0⟩ (tsM_ok hsu) hl', fun μ H D0 c fs ρ S q μ1 H1 σ1 d Ca n1 r1 e1 xd hCa hp => ?_⟩
    simp only [handF] at q
    cases hm : tab.lookup c with
    | none => rw [hm] at q; exact q.elim
    | some b =>
      rw [hm] at q
      refine ⟨b, (ht.get c b Ca hm hCa).1, fun hb1 a na => ?_, fun hb1 => ?_⟩
      · subst hb1
        dsimp only at q
        rw [← hpar c fs a ρ S hm] at q
        have nm := xd.off r1
        obtain ⟨vs, h1, h2, h3⟩ := xd.ex
        refine ⟨c, Ca, fs, rfl, hCa, hm, ρ, μ1, S, ⟨e1, r1, hp, ⟨d, vs, rfl, nm, h1, h2, h3⟩⟩, ?_⟩
        revert q
        cases ms c fs a ρ S with
        | nx ρ2 S2 => exact fun q μ2 H2 σ2 n2 r2 e2 => q μ2 H2 _ (n1.trans n2) r2 e2
        | bk ρ2 S2 => exact fun q μ2 H2 σ2 n2 r2 e2 => q μ2 H2 _ (n1.trans n2) r2 e2
        | ct ρ2 S2 => exact fun q μ2 H2 σ2 n2 r2 e2 => q μ2 H2 _ (n1.trans n2) r2 e2
        | rt d2 S2 => exact fun q μ2 H2 v n2 r2 e2 => q μ2 H2 v (n1.trans n2) r2 e2
        | ex c2 f2 ρ2 S2 => exact fun q => q.elim
        | stuck => exact fun q => q.elim
      · subst hb1
        exact hw μ H D0 c fs ρ S q μ1 H1 σ1 d Ca n1 r1 e1 xd hCa hp
theorem ss_tryM (hs : G.X.stack = G.X.env :: G.X.outer) (hf : G.X.env.frame = some G.X.env.locals) (hN : G.X.N.Nodup)
    (hb : ∀ (W : WX) (pn : List (Addr × Obj)) (xe : Value → Shared → Prop) (tk : Takes (G.X.tr pn xe) W), PassesOwn (model G.X.prog G.X.w) G.X.A G.X.env xe → SSs (trfx G W pn xe tk) body mb) (h : ClSS G (h₀ :: hds) cls) :
    SS G (.Try body (h₀ :: hds) [] [] pos) (sTryM mb cls) := by
  obtain ⟨l, hl, hw⟩ := clss_ok h
  refine ps_imp (ps_try_ms (l := l) (tb := fun W => tS ⟨G.k, W, G.pin, G.pinK⟩ mb) (Wout := G.W) hs hf hN G.tk (fun W pn xe tk hp => hb W pn xe tk hp) hl) fun D0 σ H h => ?_
  obtain ⟨ρ, μ, S, at', q⟩ := h
  refine ⟨ρ, μ, S, ⟨at'.re, at'.rs, at'.pin⟩, ?_⟩
  unfold sTryM at q
  revert q
  cases mb ρ S with
  | nx ρ1 S1 => exact fun q => q
  | bk ρ1 S1 => exact fun q => q
  | ct ρ1 S1 => exact fun q => q
  | rt d1 S1 => exact fun q => q
  | stuck => exact fun q => q
  | ex c fs ρ1 S1 => exact fun q μ1 H1 σ1 d Ca n1 r1 e1 xd hCa => hw μ H D0 c fs ρ1 S1 q μ1 H1 σ1 d Ca n1 r1 e1 xd hCa (G.pinK _ _ _ _ n1 at'.pin)
end
end Dn

set_option Elab.async false
set_option linter.all false
set_option maxRecDepth 100000
set_option maxHeartbeats 2000000
namespace Dn
open PySem PySem.Spec PyProof.Rows L2 RZ
/-! isinstance(e, C) of a caught exception with a dict -/
def rIsE2 (K : PySem.W.Frag) (D a : Addr) (d : Option Addr) : List V → Hp → VK → Prop := fun xs H Q => ∃ (dd : Addr) (vs : List (Str × V)) (c : V) (cv : Value) (b : Bool), xs = [.ref a, c] ∧ d = some dd ∧ H dd = some (.xd vs) ∧ (∀ u, RelV c u → u = cv) ∧ PySem.W.kitOne K (.ref D) cv = some b ∧ Q (.bl b) H
theorem call_isE2 {X : Cx} {a D : Addr} {oe : Obj} {d : Option Addr} {pn : List (Addr × Obj)} (C : ExcC X.K D) (hz : Zc (.ref D) d oe) (hf : ∃ vs, oe.data = .fields vs) : CallR (X.suite a ((a, oe) :: pn)) (.builtin "isinstance") (rIsE2 X.K D a d) := by
  rintro pins s σ H xs us Q I r ⟨dd, fs, c, cv, b, rfl, rfl, hx, hcv, e, q⟩
  match us, r with
  | [u1, u2], .cons r1 (.cons r2 .nil) =>
    obtain rfl : u1 = Value.ref a := r1
    obtain rfl := hcv _ r2
    have hg := (I.pin (a, oe) (List.mem_append.mpr (.inl List.mem_cons_self))).1
    obtain ⟨vs, hv⟩ := hf
    obtain ⟨mA, hns, _⟩ : ObjOk X.prog X.w H s.heap dd (.xd fs) := I.hok dd _ hx
    obtain ⟨od, ho, _⟩ := lookIn_ns hns
    have J : PySem.W.InstAt s.heap a oe D (some od) := ⟨hg, hz.1, by unfold PySem.W.notCls; rw [hv] <;> rfl, by rw [hz.2]; exact ho⟩
    have hc : (PySem.W.clsIn X.K D).isSome = true := by
      obtain ⟨cd, h, _⟩ := PySem.W.any_some C.hd
      rw [h]; rfl
    exact PySem.W.kia_one (PySem.W.kitx_exc hc C.hg C.hk C.hs C.ha C.hn C.ht C.hm) I.kIn J e (fun z => nomatch z) fun tk => ⟨.bl b, H, I.kept (t' := tk) fun _ _ z => z, rfl, q⟩
def mIsX (i : Nat) (a : Addr) (tab : List (Nat × Bool)) (k : Nat) : ME := fun ρ S => match ρ[i]? with
  | some (some (.raw b)) => if b = a then (match tab.lookup k with | some r => .ok (.bl r) S | none => .stuck) else .stuck
  | _ => .stuck
section
variable {G : Fx} {pos p p1 p2 : Pos} {x xe f n : Str} {c i : Nat} {tab tab2 : List (Nat × Bool)}
theorem se_isX {a : Addr} {C : Addr} {oe : Obj} {pn : List (Addr × Obj)} {d : Option Addr} {fs : List (Str × D)} (i : Nat) (X : Exc G.X.prog G.X.w G.k G.X.mg G.X.base xe c f) (M : Cat G.k G.X.mg x tab) {k : Nat} (hC : G.cl[k]? = some C) (hk : tab2.lookup k = some true) (hz : Zc (.ref C) d oe) (hf : ∃ vs, oe.data = .fields vs)
    (hgi : Gl G.X "isinstance") (hmi : G.X.mg "isinstance" = none) (hg : Gl G.X x)
    (h1 : tab2.all (fun kb => !kb.2 || kb.1 == c) = true := by rfl) (hN : G.X.N[i]? = some n := by rfl) (hv : Vis G.X.env.scope n := by first | exact Or.inl rfl | exact Or.inr (Or.inl rfl) | exact Or.inr (Or.inr rfl)) (hd : (n == ("__debug__" : Str)) = false := by decide)
    (hcd : (n == ("__classdict__" : Str)) = false := by decide) (hdb : (x == ("__debug__" : Str)) = false := by decide)
    (he : starEach [.Name n p1, .Name x p2] G.X.env = (false, eval (.Name n p1) G.X.env) :: starEach [.Name x p2] G.X.env := by rfl) (he2 : starEach [.Name x p2] G.X.env = (false, eval (.Name x p2) G.X.env) :: starEach [] G.X.env := by rfl) (hpl : (backTo pos (starEach [.Name x p2] G.X.env)).any (·.1) = false := by rfl) :
    SE (sufx G a oe pn d fs) (.Call (.Name "isinstance" p) [.Name n p1, .Name x p2] [] pos) (mIsX i a tab k) := by
  obtain ⟨C', fI, fd, hC', hm, T, iC, tI, F1, hb', XF, hno, XC⟩ := X.ex
  have e := cat1 hk h1
  subst e
  have : C' = C := by
    have h2 : G.k.c[k]? = some C := hC
    rw [hC'] at h2; cases h2; rfl
  subst this
  obtain ⟨C0, hm0, ht⟩ := M.ex
  refine pe_imp (pe_callB (X := G.X.suite a ((a, oe) :: pn)) (call_isE2 XC hz hf) hgi hmi (by decide +kernel) (pa_cons (pe_var (i := i) hN hv hd hcd) (pa_cons (pe_glob hg hm0 (v := .ref C0) rfl hdb) pa_nil he2) he) (by decide) (by decide) he hpl) fun σ H Q h => ?_
  obtain ⟨ρ, μ, S, at', q⟩ := h
  unfold mIsX at q
  cases e : ρ[i]? with
  | none => rw [e] at q; exact q.elim
  | some o =>
    cases o with
    | none => rw [e] at q; exact q.elim
    | some dd =>
      rw [e] at q
      obtain ⟨v, hv, r⟩ := at'.re.2 i dd e
      cases r with
      | raw b =>
        dsimp only at q
        by_cases hb : b = a
        · rw [if_pos hb] at q
          subst hb
          cases l : tab.lookup k with
          | none => rw [l] at q; exact q.elim
          | some y =>
            rw [l] at q
            obtain ⟨_, xp⟩ := at'.pin
            obtain ⟨d0, vs, e1, _, e2, e3, e4⟩ := xp.ex
            have hkit := (ht.get k y C' l hC).2
            exact ⟨.ref b, hv, d0, vs, .ref C0, .ref C0, y, rfl, e1, e2, fun u hu => hu, hkit, q μ H _ (Nx.refl μ H) at'.rs (.bl _)⟩
        · rw [if_neg hb] at q; exact q.elim
      | _ => exact q.elim
end
end Dn

set_option Elab.async false
set_option linter.all false
set_option maxRecDepth 100000
set_option maxHeartbeats 2000000
namespace Dn
open PySem PySem.Spec PyProof.Rows L2 RZ
/-! what is not told of; o.f as a target; tuple(range(..)); methods by name -/
def mStuck : ME := fun _ _ => .stuck
def sStuck : MS := fun _ _ => .stuck
section
variable {G : Fx} {e o a b : Expr} {es : List Expr} {st : Stmt} {mo ma mb : ME} {mA : ML} {pos p apos : Pos} {f : Str}
theorem se_stuck : SE G e mStuck := ⟨fun pins s σ H Q I h => by
  obtain ⟨ρ, μ, S, at', q⟩ := h
  exact q.elim⟩
theorem ss_stuck : SS G st sStuck := ⟨fun pins s σ H D I h => by
  obtain ⟨ρ, μ, S, at', q⟩ := h
  exact q.elim⟩
def gFld (cs : List Nat) (f : Str) (mo : ME) : MG := fun d ρ S => (mo ρ S).bind fun o S1 => match putA cs f o S1 d with
  | some S2 => .ok ρ S2
  | none => .stuck
theorem sg_fld {cs : List Nat} (ho : SE G o mo) (A : Flds G.k f cs) (ha : ∀ v, assign (.Attribute o f pos) G.X.env v = (do
      let ov ← holding [v] (eval o G.X.env)
      standAt pos.atName
      holding [v, ov] (setAttr ov f v)
      release [v, ov] []) := by intro _; rfl) : SG G [] (.Attribute o f pos) (gFld cs f mo) := ⟨fun pins s σ H y u Q I ry h => by
  rw [ha]
  obtain ⟨d, ρ, μ, S, at', r, q⟩ := h
  have h2 : tE G.g mo σ H fun x H1 => ∃ a C dx fs, x = .ref a ∧ H1 a = some (.ins C dx fs) ∧ Cls G.X.K C ∧ NoAttr G.X.K C f ∧ fs.length < 1000 ∧ Q σ (upd H1 a (.ins C dx (putF f y fs))) := by
    refine ⟨ρ, μ, S, at', nf_ok (Rel := relD G.g) at' q fun μ1 H1 S1 ov x n1 a1 d1 q1 => ?_⟩
    split at q1
    · rename_i S3 h3
      obtain ⟨a, C, dx, fs, rfl, g, cl, na, hl, nx, r3⟩ := putA_ok a1.rs A d1 (r.mono n1) h3
      exact ⟨a, C, dx, fs, rfl, g, cl, na, hl, q1 μ1 _ σ nx r3 (a1.re.mono nx) (Off.refl _ _)⟩
    · exact q1.elim
  refine wpAny_bind (wpAny_holding (thn (ho.run pins s σ H _ I h2) fun ov s1 ⟨x, H1, I1, rx, a, C, dx, fs, ex, ea, cl, na, hl, q1⟩ => ?_))
  subst ex
  obtain rfl : ov = Value.ref a := rx
  refine wpAny_bind (wpAny_standAt (wpAny_bind (wpAny_holding (setattr_ok I1 ea cl na hl ry fun s3 I3 => ?_))))
  exact wpAny_release ⟨σ, _, I3, q1⟩⟩
/-- tuple(range(a)), tuple(range(a, b)) -/
def rgD (a b : Int) : List D := (List.range (b - a).toNat).map fun i => D.int (a + (i : Nat))
theorem rds_rg {K : Kx} {μ : Mp} {H : Hp} (a b : Int) : RDs K μ H (rgD a b) (rgV a b) := by
  unfold rgD rgV
  generalize List.range (b - a).toNat = l
  induction l with
  | nil => exact .nil
  | cons x r ih => exact .cons (.int _) ih
def tupRgD (ds : List D) (S : Sto) : R D := match ds with
  | [.int n] => if 0 ≤ n ∧ n ≤ 16777216 then .ok (.tup (rgD 0 n)) S else .stuck
  | [.int m, .int n] => if 0 ≤ n ∧ n ≤ 16777216 ∧ 0 ≤ m ∧ m ≤ 16777216 then .ok (.tup (rgD m n)) S else .stuck
  | _ => .stuck
def tTupRgF (te : L2.St → Hp → (Int → Int → Hp → Prop) → Prop) : TE := fun σ H Q => te σ H fun a b H1 => RgOk a b ∧ NewT H1 (rgV a b) Q
theorem pe_tupRgF {X : Cx} {te : L2.St → Hp → (Int → Int → Hp → Prop) → Prop} {p pos : Pos} (hc : X.calm = true) (hg : Gl X "tuple") (hm : X.mg "tuple" = none) (he : PRg X e te) (na : starEach [e] X.env = (false, eval e X.env) :: starEach [] X.env := by rfl) : PE X (.Call (.Name "tuple" p) [e] [] pos) (tTupRgF te) := by
  refine ⟨fun pins s σ H Q I h => ?_⟩
  refine Call_ (ld_blt I hg hm boot_tuple (PyProof.Rows.callWith_type1 (args_cons (thn (he pins s σ H _ I h) fun x s1 ⟨r, a, b, t, u, v, H1, ex, hr, I1, ok, q⟩ => args_nil ?_) na) na))
  subst ex
  obtain ⟨b1, b2, b3, b4, b5⟩ := ok
  refine call_tuple_range (n := (b - a).toNat) (I1.ok.hd hc) hr (small_one b1 b2 b3 b4) (rangeSize_nat a b) b5 fun h' tk acc hk hi => ?_
  have I2 : Inv X pins σ H1 { s1 with heap := h', toks := tk } := I1.kept hk
  refine laidT (s := { s1 with heap := h', toks := tk }) (us := acc.toList) (c := 0) I2 (fun c o e => Heap.get?_push_of_some _ e) (Nat.le_refl _) ?_ (vals_rg hi) (by rw [rgV_length, sizeLine_eq]; omega) q
  rw [Array.toArray_toList]
  exact Heap.get?_push_size _ rfl
theorem se_tupRg1 {p2 pos2 : Pos} (hc : G.X.calm = true) (hg : Gl G.X "tuple") (hm : G.X.mg "tuple" = none) (hg2 : Gl G.X "range") (hm2 : G.X.mg "range" = none) (ha : SE G a ma) (na2 : starEach [a] G.X.env = (false, eval a G.X.env) :: starEach [] G.X.env := by rfl) (na : starEach [.Call (.Name "range" p2) [a] [] pos2] G.X.env = (false, eval (.Call (.Name "range" p2) [a] [] pos2) G.X.env) :: starEach [] G.X.env := by rfl) :
    SE G (.Call (.Name "tuple" p) [.Call (.Name "range" p2) [a] [] pos2] [] pos) (mL tupRgD (mCons ma mNil)) :=
  pe_imp (pe_tupRgF hc hg hm (prg_1 hg2 hm2 ha na2) na) fun σ H Q h => by
    obtain ⟨ρ, μ, S, at', q⟩ := h
    have q0 : Po G.g (relD G.g) μ H σ Q ((ma ρ S).bind fun d S1 => tupRgD [d] S1) := by
      revert q
      unfold mL mCons mNil
      cases ma ρ S with
      | stuck => exact fun q => q
      | exc c fs S1 => exact fun q => q
      | ok d S1 => exact fun q => q
    refine ⟨ρ, μ, S, at', po_1 at' q0 fun μ1 H1 S1 d v n1 a1 d1 q1 => ?_⟩
    unfold tupRgD at q1
    split at q1
    · split at q1
      · rename_i n e hn
        cases e
        cases d1
        exact ⟨n, rfl, RgOk.of_le (by omega) hn.2 (by omega) hn.1, Po.newT a1.rs (rds_rg 0 n) q1⟩
      · exact q1.elim
    · rename_i e
      cases e
    · exact q1.elim
theorem se_tupRg2 {p2 pos2 : Pos} (hc : G.X.calm = true) (hg : Gl G.X "tuple") (hm : G.X.mg "tuple" = none) (hg2 : Gl G.X "range") (hm2 : G.X.mg "range" = none) (ha : SE G a ma) (hb : SE G b mb) (na2 : starEach [a, b] G.X.env = (false, eval a G.X.env) :: starEach [b] G.X.env := by rfl) (nb2 : starEach [b] G.X.env = (false, eval b G.X.env) :: starEach [] G.X.env := by rfl) (hp : (backTo pos (starEach [b] G.X.env)).any (·.1) = false := by rfl)
    (hp2 : ∀ pos2 : Pos, (backTo pos2 (starEach [b] G.X.env)).any (·.1) = false := by intro _; rfl) (na : ∀ p2 pos2 : Pos, starEach [.Call (.Name "range" p2) [a, b] [] pos2] G.X.env = (false, eval (.Call (.Name "range" p2) [a, b] [] pos2) G.X.env) :: starEach [] G.X.env := by intro _ _; rfl) :
    SE G (.Call (.Name "tuple" p) [.Call (.Name "range" p2) [a, b] [] pos2] [] pos) (mL tupRgD (mCons ma (mCons mb mNil))) :=
  pe_imp (pe_tupRgF hc hg hm (prg_2 hg2 hm2 ha hb na2 nb2 (hp2 _)) (na _ _)) fun σ H Q h => by
    obtain ⟨ρ, μ, S, at', q⟩ := h
    have q0 : Po G.g (relD G.g) μ H σ Q ((ma ρ S).bind fun d S1 => (mb ρ S1).bind fun d2 S2 => tupRgD [d, d2] S2) := by
      revert q
      unfold mL mCons
      dsimp only [mCons, mNil]
      cases ma ρ S with
      | stuck => exact fun q => q
      | exc c fs S1 => exact fun q => q
      | ok d S1 =>
        show Po _ _ _ _ _ _ (R.bind (R.bind (R.bind (mb ρ S1) _) _) _) → Po _ _ _ _ _ _ (R.bind (mb ρ S1) _)
        cases mb ρ S1 with
        | stuck => exact fun q => q
        | exc c fs S1 => exact fun q => q
        | ok d S1 => exact fun q => q
    refine ⟨ρ, μ, S, at', po_1 at' q0 fun μ1 H1 S1 d v n1 a1 d1 q1 => ?_⟩
    refine ⟨ρ, μ1, S1, a1, po_1 a1 q1 fun μ2 H2 S2 d' v' n2 a2 d2 q2 => ?_⟩
    have d1' := d1.mono n2
    unfold tupRgD at q2
    split at q2
    · rename_i e
      cases e
    · split at q2
      · rename_i m n e hn
        cases e
        cases d1'
        cases d2
        exact ⟨m, n, rfl, rfl, RgOk.of_le hn.2.2.1 hn.2.1 hn.2.2.2 hn.1, Po.newT a2.rs (rds_rg m n) q2⟩
      · exact q2.elim
    · exact q2.elim
end
section
variable {G : Fx} {e o : Expr} {mo : ME} {mA : ML} {pos apos : Pos} {j : Nat}
theorem se_tcount (hr : Room j G.X.A) (ho : SE G o mo) (ha : SA G [e] mA) (hbase : attributeBase o "count" G.X.env (eval o G.X.env) = eval o G.X.env := by rfl)
    (hfew : ((backTo pos (starEach [e] G.X.env)).all (fun x => !x.1) && (backToKw pos (keywordEach [] G.X.env)).all (fun x => x.1.isSome) && decide (([e] : List Expr).length + ([] : List Keyword).length + (if ([] : List Keyword).isEmpty then 0 else 1) < 30)) = true := by rfl)
    (hline : (apos.endLine == pos.line) = true := by rfl) (hs : starEach [e] G.X.env = (false, eval e G.X.env) :: starEach [] G.X.env := by rfl) (hplain : (backTo pos (starEach [] G.X.env)).any (·.1) = false := by rfl) :
    SE G (.Call (.Attribute o "count" apos) [e] [] pos) (mTMeth tcntD mo mA) := se_tm PySem.F.slot_tuple_count PySem.F.type_tuple_count (mt_tcountD (units65 hr)) tcnt_ok ho ha hbase hfew hline hs hplain
theorem se_tindex (hr : Room j G.X.A) (ho : SE G o mo) (ha : SA G [e] mA) (hbase : attributeBase o "index" G.X.env (eval o G.X.env) = eval o G.X.env := by rfl)
    (hfew : ((backTo pos (starEach [e] G.X.env)).all (fun x => !x.1) && (backToKw pos (keywordEach [] G.X.env)).all (fun x => x.1.isSome) && decide (([e] : List Expr).length + ([] : List Keyword).length + (if ([] : List Keyword).isEmpty then 0 else 1) < 30)) = true := by rfl)
    (hline : (apos.endLine == pos.line) = true := by rfl) (hs : starEach [e] G.X.env = (false, eval e G.X.env) :: starEach [] G.X.env := by rfl) (hplain : (backTo pos (starEach [] G.X.env)).any (·.1) = false := by rfl) :
    SE G (.Call (.Attribute o "index" apos) [e] [] pos) (mTMeth tidxD mo mA) := se_tm PySem.F.slot_tuple_index PySem.F.type_tuple_index (mt_tindexD (units65 hr)) tidx_ok ho ha hbase hfew hline hs hplain
theorem se_lcount (hr : Room j G.X.A) (ho : SE G o mo) (ha : SA G [e] mA) (hbase : attributeBase o "count" G.X.env (eval o G.X.env) = eval o G.X.env := by rfl)
    (hfew : ((backTo pos (starEach [e] G.X.env)).all (fun x => !x.1) && (backToKw pos (keywordEach [] G.X.env)).all (fun x => x.1.isSome) && decide (([e] : List Expr).length + ([] : List Keyword).length + (if ([] : List Keyword).isEmpty then 0 else 1) < 30)) = true := by rfl)
    (hline : (apos.endLine == pos.line) = true := by rfl) (hs : starEach [e] G.X.env = (false, eval e G.X.env) :: starEach [] G.X.env := by rfl) (hplain : (backTo pos (starEach [] G.X.env)).any (·.1) = false := by rfl) :
    SE G (.Call (.Attribute o "count" apos) [e] [] pos) (mMeth "list" lcntD mo mA) := se_bm PySem.F.plainAttrs_list PySem.F.slot_list_count PySem.F.type_list_count (mt_lcountD (units65 hr)) lcnt_ok ho ha hbase hfew hline hs hplain
theorem se_extend (ho : SE G o mo) (ha : SA G [e] mA) (hbase : attributeBase o "extend" G.X.env (eval o G.X.env) = eval o G.X.env := by rfl)
    (hfew : ((backTo pos (starEach [e] G.X.env)).all (fun x => !x.1) && (backToKw pos (keywordEach [] G.X.env)).all (fun x => x.1.isSome) && decide (([e] : List Expr).length + ([] : List Keyword).length + (if ([] : List Keyword).isEmpty then 0 else 1) < 30)) = true := by rfl)
    (hline : (apos.endLine == pos.line) = true := by rfl) (hs : starEach [e] G.X.env = (false, eval e G.X.env) :: starEach [] G.X.env := by rfl) (hplain : (backTo pos (starEach [] G.X.env)).any (·.1) = false := by rfl) :
    SE G (.Call (.Attribute o "extend" apos) [e] [] pos) (mMeth "list" extD mo mA) := se_bm PySem.F.plainAttrs_list PySem.F.slot_list_extend PySem.F.type_list_extend (Dn.MtR.or mt_extend mt_extT) ext_ok ho ha hbase hfew hline hs hplain
theorem se_remove (ho : SE G o mo) (ha : SA G [e] mA) (hbase : attributeBase o "remove" G.X.env (eval o G.X.env) = eval o G.X.env := by rfl)
    (hfew : ((backTo pos (starEach [e] G.X.env)).all (fun x => !x.1) && (backToKw pos (keywordEach [] G.X.env)).all (fun x => x.1.isSome) && decide (([e] : List Expr).length + ([] : List Keyword).length + (if ([] : List Keyword).isEmpty then 0 else 1) < 30)) = true := by rfl)
    (hline : (apos.endLine == pos.line) = true := by rfl) (hs : starEach [e] G.X.env = (false, eval e G.X.env) :: starEach [] G.X.env := by rfl) (hplain : (backTo pos (starEach [] G.X.env)).any (·.1) = false := by rfl) :
    SE G (.Call (.Attribute o "remove" apos) [e] [] pos) (mMeth "list" remD mo mA) := se_bm PySem.F.plainAttrs_list PySem.F.slot_list_remove PySem.F.type_list_remove mt_remove rem_ok ho ha hbase hfew hline hs hplain
end
end Dn

set_option Elab.async false
set_option linter.all false
set_option maxRecDepth 100000
set_option maxHeartbeats 2000000
namespace Dn
open PySem PySem.Spec PyProof.Rows L2 RZ
/-! keyword-only parameters with defaults -/
def pk1 {α : Type} (us mv ws : List α) (q : Nat × Nat) : Option α := match q.1 with
  | 0 => us[q.2]?
  | 1 => mv[q.2]?
  | _ => ws[q.2]?
def pick {α : Type} (src : List (Nat × Nat)) (us mv ws : List α) : List α := src.filterMap (pk1 us mv ws)
def shf (q : Nat × Nat) : Nat × Nat := match q.1 with
  | 0 => (0, q.2 + 1)
  | _ => q
theorem pk1_shf {α : Type} (x : α) (us mv ws : List α) (q : Nat × Nat) : pk1 (x :: us) mv ws (shf q) = pk1 us mv ws q := by
  obtain ⟨a, b⟩ := q
  match a with
  | 0 => simp [shf, pk1]
  | 1 => simp [shf, pk1]
  | n + 2 => simp [shf, pk1]
theorem pick_shf {α : Type} (x : α) (src : List (Nat × Nat)) (us mv ws : List α) : pick ((0, 0) :: src.map shf) (x :: us) mv ws = x :: pick src us mv ws := by
  unfold pick
  rw [List.filterMap_cons, List.filterMap_map]
  have : pk1 (x :: us) mv ws (0, 0) = some x := rfl
  rw [this]
  simp only [List.cons.injEq, true_and]
  congr 1
  funext q
  exact pk1_shf x us mv ws q
theorem vals_get {vs : List V} {us : List Value} (r : Vals vs us) (i : Nat) : (vs[i]? = none ∧ us[i]? = none) ∨ ∃ v u, vs[i]? = some v ∧ us[i]? = some u ∧ RelV v u := by
  induction r generalizing i with
  | nil => exact .inl ⟨by simp, by simp⟩
  | cons h t ih =>
    cases i with
    | zero => exact .inr ⟨_, _, rfl, rfl, h⟩
    | succ i => simpa using ih i
theorem pick_vals {vs mz zs : List V} {us mv ws : List Value} (r1 : Vals vs us) (r2 : Vals mz mv) (r3 : Vals zs ws) : ∀ (src : List (Nat × Nat)), Vals (pick src vs mz zs) (pick src us mv ws)
  | [] => .nil
  | q :: src => by
    have h : (pk1 vs mz zs q = none ∧ pk1 us mv ws q = none) ∨ ∃ v u, pk1 vs mz zs q = some v ∧ pk1 us mv ws q = some u ∧ RelV v u := by
      obtain ⟨a, b⟩ := q
      match a with
      | 0 => exact vals_get r1 b
      | 1 => exact vals_get r2 b
      | n + 2 => exact vals_get r3 b
    have ih := pick_vals r1 r2 r3 src
    unfold pick at ih ⊢
    rw [List.filterMap_cons, List.filterMap_cons]
    rcases h with ⟨h1, h2⟩ | ⟨v, u, h1, h2, h3⟩
    · rw [h1, h2]; exact ih
    · rw [h1, h2]; exact .cons h3 ih
theorem rds_get {K : Kx} {μ : Mp} {H : Hp} : ∀ {ds : List D} {vs : List V} (r : RDs K μ H ds vs) (i : Nat), (ds[i]? = none ∧ vs[i]? = none) ∨ ∃ d v, ds[i]? = some d ∧ vs[i]? = some v ∧ RD K μ H d v
  | _, _, .nil, i => .inl ⟨by simp, by simp⟩
  | _, _, .cons h t, 0 => .inr ⟨_, _, rfl, rfl, h⟩
  | _, _, .cons h t, i + 1 => by simpa using rds_get t i
theorem pick_rds {K : Kx} {μ : Mp} {H : Hp} {vs mz zs : List D} {us mv ws : List V} (r1 : RDs K μ H vs us) (r2 : RDs K μ H mz mv) (r3 : RDs K μ H zs ws) : ∀ (src : List (Nat × Nat)), RDs K μ H (pick src vs mz zs) (pick src us mv ws)
  | [] => .nil
  | q :: src => by
    have h : (pk1 vs mz zs q = none ∧ pk1 us mv ws q = none) ∨ ∃ v u, pk1 vs mz zs q = some v ∧ pk1 us mv ws q = some u ∧ RD K μ H v u := by
      obtain ⟨a, b⟩ := q
      match a with
      | 0 => exact rds_get r1 b
      | 1 => exact rds_get r2 b
      | n + 2 => exact rds_get r3 b
    have ih := pick_rds r1 r2 r3 src
    unfold pick at ih ⊢
    rw [List.filterMap_cons, List.filterMap_cons]
    rcases h with ⟨h1, h2⟩ | ⟨v, u, h1, h2, h3⟩
    · rw [h1, h2]; exact ih
    · rw [h1, h2]; exact .cons h3 ih
theorem clK_mk {P : Program} {w : World} {K : Kx} {mg : Str → Option Value} {base : Heap} {x : Str} {c k n : Nat} {ps ks : List Str} {m : List D → Sto → R D} {C f : Addr} {fd : FuncData} {src : List (Nat × Nat)} {msV : List V} {msD : List D}
    (hC : K.c[c]? = some C) (hm : mg x = some (.ref C)) (M : Mk K.K C f) (ok : FnOk P w K.K mg base (L2.CX P w) k f fd ps (spD K m ps.length))
    (hb : ∃ mv : List Value, KBn K.K fd ps (n + 1) ks (fun us ws => pick ((0, 0) :: src.map shf) us mv ws) (fun vs zs => pick ((0, 0) :: src.map shf) vs msV zs)) (hr : ∀ μ H, RDs K μ H msD msV) :
    ClK P w K mg base x c k n ps ks m (fun vs zs => pick ((0, 0) :: src.map shf) vs msV zs) (fun vs zs => pick src vs msV zs) (fun ds es => pick src ds msD es) := by
  obtain ⟨mv, hb⟩ := hb
  exact ⟨⟨C, f, fd, _, hC, hm, M, ok, hb⟩, fun x vs zs _ _ => pick_shf x src vs msV zs, fun r1 r2 => pick_rds r1 (hr _ _) r2 src⟩
theorem dspR0 {P : Program} {w : World} {K : Kx} {mg : Str → Option Value} {base : Heap} {x : Str} {st : Stmt} {k j i n n' : Nat} {ps : List Str} {m : List D → Sto → R D} (C : Cal P w K mg base x st k ps m) (b : BindsOk x st ps) (hj : k ≤ j) (hc : ∃ a, mg x = some (.ref a) ∧ K.c[i]? = some a) (hn : ps.length = n' := by rfl) : Dsp P w K mg base j i n (callD n' m) := by
  obtain ⟨a, hm, hi⟩ := hc
  subst hn
  exact Cal.dsp C Tri.call b hj hi hm
theorem dspR1 {P : Program} {w : World} {K : Kx} {mg : Str → Option Value} {base : Heap} {x : Str} {st : Stmt} {k j i n n' : Nat} {ps : List Str} {m : List D → Sto → R D} {fz : Bool} {mask : List Bool} (C : Cal P w K mg base x st k ps m) (b : BindsOk x st ps) (hj : k ≤ j) (hc : ∃ a, mg x = some (.ref a) ∧ K.c[i]? = some a) (hn : ps.length = n' := by rfl) : Dsp P w K mg base j i n (callM fz mask (callD n' m)) := by
  obtain ⟨a, hm, hi⟩ := hc
  subst hn
  exact Cal.dsp C (Tri.callM Tri.call) b hj hi hm
end Dn

set_option Elab.async false
set_option linter.all false
set_option maxRecDepth 100000
set_option maxHeartbeats 2000000
namespace Dn
open PySem PySem.Spec PyProof.Rows L2 RZ
/-! for k, v in d.items(): the dict is locked meanwhile -/
def kDk : Key → D
  | .inl i => .int i
  | .inr x => .str x
theorem kDk_ok {K : Kx} {μ : Mp} {H : Hp} (k : Key) : RD K μ H (kDk k) (kV k) := by
  cases k with
  | inl i => exact .int i
  | inr x => exact .str x
/-- a locked dict is opened -/
structure Ul (μ : Mp) (H : Hp) (a : Addr) (od : Obj) (ws : List (Key × V)) : Prop where
  at_ : H a = some (.frz od (.dK ws))
  mem : a ∈ μ.m
section
variable {K : Kx} {μ : Mp} {H : Hp} {a : Addr} {od : Obj} {ws : List (Key × V)}
theorem Ul.ne {b : Addr} {o : HO} (u : Ul μ H a od ws) (h : H b = some o) (hn : ∀ ws, o ≠ .frz od (.dK ws)) : upd H a (.dK ws) b = some o := by
  rw [upd_ne (fun e => by subst e; rw [u.at_] at h; cases h; exact hn _ rfl)]; exact h
theorem Ul.sqT {b : Addr} {xs : List V} (u : Ul μ H a od ws) (h : SqT K.K H b xs) : SqT K.K (upd H a (.dK ws)) b xs := by
  rcases h with (h | ⟨o, h⟩) | h
  · exact .inl (.inl (u.ne h fun _ z => by cases z))
  · exact .inl (.inr ⟨o, u.ne h fun _ z => by cases z⟩)
  · exact .inr h
theorem Ul.tupN {b : Addr} {xs : List V} (u : Ul μ H a od ws) (h : TupN K.K H b xs) : TupN K.K (upd H a (.dK ws)) b xs := by
  rcases h with ⟨o, h, q⟩ | h
  · exact .inl ⟨o, u.ne h (fun _ z => by cases z), q⟩
  · exact .inr h
theorem Ul.roL {b : Addr} {xs : List V} (u : Ul μ H a od ws) (h : RoL K.K μ H b xs) : RoL K.K μ (upd H a (.dK ws)) b xs := by
  rcases h with ⟨o, h⟩ | h | ⟨h, q⟩
  · exact .inl ⟨o, u.ne h fun _ z => by cases z⟩
  · exact .inr (.inl h)
  · exact .inr (.inr ⟨u.ne h (fun _ z => by cases z), q⟩)
mutual
theorem RD.ul (u : Ul μ H a od ws) : ∀ {d : D} {v : V}, RD K μ H d v → RD K μ (upd H a (.dK ws)) d v
  | _, _, .non => .non
  | _, _, .bl b => .bl b
  | _, _, .int i => .int i
  | _, _, .str x => .str x
  | _, _, .tup h r => .tup (u.tupN h) (RDs.ul u r)
  | _, _, .twk h r => .twk (u.sqT h) (RDs.ul u r)
  | _, _, .rol h r => .rol (u.roL h) (RDs.ul u r)
  | _, _, .obj hc h f hn hl r => .obj hc (u.ne h (fun _ z => by cases z)) f hn hl (RDs.ul u r)
  | _, _, .ref h => .ref h
  | _, _, .adr h => .adr h
  | _, _, .raw a => .raw a
theorem RDs.ul (u : Ul μ H a od ws) : ∀ {d : List D} {v : List V}, RDs K μ H d v → RDs K μ (upd H a (.dK ws)) d v
  | _, _, .nil => .nil
  | _, _, .cons h t => .cons (RD.ul u h) (RDs.ul u t)
end
theorem ObR.ul {b : Addr} (u : Ul μ H a od ws) (hb : b ≠ a) : ∀ {o : Ob}, ObR K μ H b o → ObR K μ (upd H a (.dK ws)) b o
  | .lst _, ⟨vs, h, r⟩ => ⟨vs, by rw [upd_ne hb]; exact h, r.ul u⟩
  | .ins _ _ _, ⟨C, dx, gs, hc, h, e, r⟩ => ⟨C, dx, gs, hc, by rw [upd_ne hb]; exact h, e, r.ul u⟩
  | .dk _, ⟨gs, h, e, r⟩ => ⟨gs, by rw [upd_ne hb]; exact h, e, r.ul u⟩
  | .dt _, ⟨gs, h, e, r⟩ => ⟨gs, by rw [upd_ne hb]; exact h, e, r.ul u⟩
  | .hid, ⟨o, u', h⟩ => ⟨o, u', by rw [upd_ne hb]; exact h⟩
theorem RS.ul {S : Sto} {i : Nat} {o : Ob} (u : Ul μ H a od ws) (rs : RS K μ S H) (hi : μ.m[i]? = some a) (ho : ObR K μ (upd H a (.dK ws)) a o) : RS K μ (S.set i o) (upd H a (.dK ws)) where
  len := by simp [rs.len]
  nd := rs.nd
  dz := rs.dz
  zt := zt_upd rs.zt
  ob := fun j b u' h1 h2 => by
    by_cases hj : i = j
    · subst hj
      rw [hi] at h1; cases h1
      rw [List.getElem?_set_self (by rw [← rs.len]; exact (List.getElem?_eq_some_iff.mp hi).1)] at h2
      cases h2
      exact ho
    · rw [List.getElem?_set_ne hj] at h2
      have ne : b ≠ a := fun e => by
        subst e
        obtain ⟨l1, e1⟩ := List.getElem?_eq_some_iff.mp hi
        obtain ⟨l2, e2⟩ := List.getElem?_eq_some_iff.mp h1
        exact hj ((List.getElem_inj rs.nd).mp (e1.trans e2.symm))
      exact (rs.ob j b u' h1 h2).ul u ne
theorem RE.ul {ρ : Ev} {σ : L2.St} (u : Ul μ H a od ws) (re : RE K μ H ρ σ) : RE K μ (upd H a (.dK ws)) ρ σ := ⟨re.1, fun i d h => by
  obtain ⟨v, h1, h2⟩ := re.2 i d h
  exact ⟨v, h1, h2.ul u⟩⟩
theorem Nx.ul {μ' : Mp} {H' : Hp} (ha : H a = some (.dK ws)) (hm : a ∈ μ.m) (n : Nx μ μ' (upd H a (.frz od (.dK ws))) H') : Nx μ μ' H (upd H' a (.dK ws)) where
  pre := n.pre
  zz := n.zz
  keep := fun b o h hb => by
    have ne : b ≠ a := fun e => hb (by rw [e]; exact hm)
    rw [upd_ne ne]
    exact n.keep b o (by rw [upd_ne ne]; exact h) hb
  new := fun b hb => by
    rcases n.new b hb with h | h
    · exact .inl h
    · right
      by_cases e : b = a
      · rw [e, upd_same] at h; cases h
      · rw [upd_ne e] at h; exact h
  hard := fun b o h ho => by
    have ne : b ≠ a := fun e => by rw [e, ha] at h; cases h; exact ho
    rw [upd_ne ne]
    exact n.hard b o (by rw [upd_ne ne]; exact h) ho
  dom := fun b h => by
    by_cases e : b = a
    · rw [e, upd_same] at h; cases h
    · rw [upd_ne e] at h
      have := n.dom b h
      rw [upd_ne e] at this; exact this
end
def prsD (kvs : List (Key × D)) : List D := kvs.map fun kv => .twk [kDk kv.1, kv.2]
def unhid (i : Nat) (kvs : List (Key × D)) : F → F
  | .nx ρ S => match S[i]? with
    | some .hid => .nx ρ (S.set i (.dk kvs))
    | _ => .stuck
  | .rt d S => match S[i]? with
    | some .hid => .rt d (S.set i (.dk kvs))
    | _ => .stuck
  | .ex c fs ρ S => .ex c fs ρ S
  | _ => .stuck
def sItems (v : Nat) (tg : MG) (body : MS) : MS := fun ρ S => match ρ[v]? with
  | some (some (.ref i)) => match S[i]? with
    | some (.dk kvs) => unhid i kvs (forF (itT (prsD kvs)) tg body kvs.length ρ (S.set i .hid))
    | _ => .stuck
  | _ => .stuck
theorem ri_items {K : Kx} {μ : Mp} {H : Hp} {a : Addr} {od : Obj} {ws : List (Key × V)} {kvs : List (Key × D)} (h : H a = some (.frz od (.dK ws))) (e : ws.map (·.1) = kvs.map (·.1)) (r : RDs K μ H (kvs.map (·.2)) (ws.map (·.2))) : RI K μ H (itT (prsD kvs)) (Iti a od ws) where
  go := fun μ1 H1 S k d n rs hk e1 => by
    have h1 := n.hard _ _ h trivial
    have hl : ws.length = kvs.length := by simpa using congrArg List.length e
    have hk' : k < kvs.length := by simpa [itT, prsD] using hk
    have ed : d = .twk [kDk kvs[k].1, kvs[k].2] := by
      have := e1
      simp only [itT, prsD, List.getElem?_map, List.getElem?_eq_getElem hk', Option.map_some, Option.some.injEq] at this
      exact this.symm
    refine ⟨⟨h1, by omega⟩, fun x H' y => ?_⟩
    obtain ⟨T, k', v, hkv, rfl, hT, rfl⟩ := y
    have nx : Nx μ1 μ1 H1 (upd H1 T (.tup [kV k', v])) := Nx.hardNew hT
    have ek : k' = kvs[k].1 := by
      have := congrArg (fun l => l[k]?) e
      simp only [List.getElem?_map, hkv, List.getElem?_eq_getElem hk', Option.map_some, Option.some.injEq] at this
      exact this
    obtain ⟨u, hu, ru⟩ := r.get (i := k) (d := kvs[k].2) (by simp [hk'])
    have eu : u = v := by
      rw [List.getElem?_map, hkv] at hu
      simpa using hu.symm
    subst ek eu ed
    exact ⟨nx, rs.hardNew hT, .twk (SqT.of upd_same) (.cons (kDk_ok _) (.cons ((ru.mono n).mono nx) .nil))⟩
  stop := fun μ1 H1 S n rs _ => ⟨n.hard _ _ h trivial, by
    have hl : ws.length = kvs.length := by simpa using congrArg List.length e
    simp [itT, prsD, hl]⟩
section
variable {G : Fx} {body : List Stmt}
theorem PoS.hid {μ : Mp} {H : Hp} {a : Addr} {od : Obj} {ws : List (Key × V)} {kvs : List (Key × D)} {i : Nat} {E : Ends} (ha : H a = some (.dK ws)) (hi : μ.m[i]? = some a) (e : ws.map (·.1) = kvs.map (·.1)) (r : RDs G.k μ H (kvs.map (·.2)) (ws.map (·.2))) (n0 : Nx μ μ H (upd H a (.frz od (.dK ws)))) :
    ∀ {f : F}, PoS G.g μ H E (unhid i kvs f) → PoS G.g μ (upd H a (.frz od (.dK ws))) ⟨fun σ' H' => H' a = some (.frz od (.dK ws)) ∧ E.nx σ' (upd H' a (.dK ws)), fun v H' => H' a = some (.frz od (.dK ws)) ∧ E.rt v (upd H' a (.dK ws)), fun σ' H' => H' a = some (.frz od (.dK ws)) ∧ E.bk σ' (upd H' a (.dK ws)), fun σ' H' => H' a = some (.frz od (.dK ws)) ∧ E.ct σ' (upd H' a (.dK ws))⟩ f
  | .nx ρ S, q => fun μ' H' σ' n rs re => by
    have h1 := n.hard _ _ (upd_same (H := H) (a := a)) trivial
    have m1 := n.at hi
    have u : Ul μ' H' a od ws := ⟨h1, List.mem_of_getElem? m1⟩
    simp only [unhid] at q
    split at q
    · exact ⟨h1, q μ' _ σ' (n.ul ha (List.mem_of_getElem? hi)) (rs.ul u m1 ⟨ws, upd_same, e, r.mono (n.ul ha (List.mem_of_getElem? hi))⟩) (re.ul u)⟩
    · exact q.elim
  | .rt d S, q => fun μ' H' v n rs rd => by
    have h1 := n.hard _ _ (upd_same (H := H) (a := a)) trivial
    have m1 := n.at hi
    have u : Ul μ' H' a od ws := ⟨h1, List.mem_of_getElem? m1⟩
    simp only [unhid] at q
    split at q
    · exact ⟨h1, q μ' _ v (n.ul ha (List.mem_of_getElem? hi)) (rs.ul u m1 ⟨ws, upd_same, e, r.mono (n.ul ha (List.mem_of_getElem? hi))⟩) (rd.ul u)⟩
    · exact q.elim
  | .ex c fs ρ S, q => fun μ' H' σ' d C n rs re xd hc => q μ' H' σ' d C (n0.trans n) rs re xd hc
  | .bk _ _, q => q.elim
  | .ct _ _, q => q.elim
  | .stuck, q => q.elim
theorem ss_items (v : Nat) {x : Str} {elts : List Expr} {kk : Nat} {tpos apos cpos p pos : Pos} {g : MG} {ts : List Nat} {mb : MS} (hp : PassesOwn (model G.X.prog G.X.w) G.X.A G.X.env G.X.xe) (hc : G.X.calm = true) (hg : SG G ts (.Tuple elts kk tpos) g) (hb : SSs G body mb)
    (hN : G.X.N[v]? = some x := by rfl) (hv : Vis G.X.env.scope x := by first | exact Or.inl rfl | exact Or.inr (Or.inl rfl) | exact Or.inr (Or.inr rfl)) (hd : (x == ("__debug__" : Str)) = false := by decide) (hcd : (x == ("__classdict__" : Str)) = false := by decide)
    (hbase : attributeBase (.Name x p) "items" G.X.env (eval (.Name x p) G.X.env) = eval (.Name x p) G.X.env := by rfl) (hline : (apos.endLine == cpos.line) = true := by rfl)
    (hs : ∀ z, foldedSetIterable (.Call (.Attribute (.Name x p) "items" apos) [] [] cpos) G.X.env z = pure z := by intro _; rfl) :
    SS G (.For (.Tuple elts kk tpos) (.Call (.Attribute (.Name x p) "items" apos) [] [] cpos) body [] pos) (sItems v g mb) :=
  ps_imp (ps_lock (ps_for hp hc (pi_items (pe_var (i := v) hN hv hd hcd) hbase hline) hg hb hs)) fun E σ H h => by
    obtain ⟨ρ, μ, S, at', q⟩ := h
    unfold sItems at q
    split at q
    rotate_left
    · exact q.elim
    rename_i i hρ
    split at q
    rotate_left
    · exact q.elim
    rename_i kvs hS
    obtain ⟨y, hy, ry⟩ := at'.re.2 v _ hρ
    cases ry with
    | @ref _ a hi =>
      obtain ⟨ws, ha, e, r⟩ := at'.rs.ob i a _ hi hS
      refine ⟨a, .dK ws, ha, trivial, fun od => ?_⟩
      have n0 : Nx μ μ H (upd H a (.frz od (.dK ws))) := Nx.put (List.mem_of_getElem? hi) ha fun z => z
      have rs0 : RS G.k μ (S.set i .hid) (upd H a (.frz od (.dK ws))) := at'.rs.put hi ha (fun z => z) ⟨_, _, upd_same⟩
      have at0 : At G.g μ (upd H a (.frz od (.dK ws))) ρ σ (S.set i .hid) := at'.nx n0 rs0
      have hl : ws.length = kvs.length := by simpa using congrArg List.length e
      refine ⟨.ref a, hy, a, od, ws, rfl, upd_same, ?_⟩
      have q1 := PoS.hid (G := G) (od := od) ha hi e r n0 q
      have hn : (itT (prsD kvs)).n = kvs.length := by simp [itT, prsD]
      rw [← hn] at q1
      exact for_part at0 (ri_items upd_same e (r.mono n0)) q1
end
end Dn

set_option Elab.async false
set_option linter.all false
set_option maxRecDepth 100000
set_option maxHeartbeats 2000000
namespace Dn
open PySem PySem.Spec PyProof.Rows L2 RZ
/-! A block that is run in a store of its own: nothing that it makes is looked at behind it. -/
def flatD : D → Bool
  | .non | .bl _ | .int _ | .str _ => true
  | _ => false
def flatO : Option D → Option D
  | some d => if flatD d then some d else none
  | none => none
/-- of the slots, those at bs that hold flat values -/
def keepR : List Bool → Ev → Ev
  | _, [] => []
  | [], _ :: r => none :: keepR [] r
  | b :: bs, x :: r => (match b with
    | true => flatO x
    | false => none) :: keepR bs r
def keepY : List Bool → Ev → Ev
  | _, [] => []
  | [], _ :: r => none :: keepY [] r
  | b :: bs, x :: r => (match b with
    | true => x
    | false => none) :: keepY bs r
theorem keepR_len : ∀ (bs : List Bool) (r : Ev), (keepR bs r).length = r.length
  | _, [] => by cases ‹List Bool› <;> rfl
  | [], _ :: r => by simp [keepR, keepR_len [] r]
  | b :: bs, x :: r => by simp [keepR, keepR_len bs r]
theorem keepY_len : ∀ (bs : List Bool) (r : Ev), (keepY bs r).length = r.length
  | _, [] => by cases ‹List Bool› <;> rfl
  | [], _ :: r => by simp [keepY, keepY_len [] r]
  | b :: bs, x :: r => by simp [keepY, keepY_len bs r]
theorem keepR_at : ∀ {bs : List Bool} {r : Ev} {i : Nat} {d : D}, (keepR bs r)[i]? = some (some d) → flatD d = true ∧ r[i]? = some (some d)
  | bs, [], i, d, h => by cases bs <;> simp [keepR] at h
  | [], _ :: r, 0, d, h => by simp [keepR] at h
  | [], _ :: r, i + 1, d, h => by
    have := keepR_at (bs := []) (r := r) (i := i) (d := d) (by simpa [keepR] using h)
    simpa using this
  | b :: bs, x :: r, 0, d, h => by
    cases b with
    | false => simp [keepR] at h
    | true =>
      have h : flatO x = some d := by simpa [keepR] using h
      cases x with
      | none => cases h
      | some e =>
        have h : (if flatD e then some e else none) = some d := h
        split at h
        · rename_i hf
          cases h
          exact ⟨hf, rfl⟩
        · cases h
  | b :: bs, x :: r, i + 1, d, h => by
    have := keepR_at (bs := bs) (r := r) (i := i) (d := d) (by simpa [keepR] using h)
    simpa using this
theorem keepY_at : ∀ {bs : List Bool} {r : Ev} {i : Nat} {d : D}, (keepY bs r)[i]? = some (some d) → r[i]? = some (some d)
  | bs, [], i, d, h => by cases bs <;> simp [keepY] at h
  | [], _ :: r, 0, d, h => by simp [keepY] at h
  | [], _ :: r, i + 1, d, h => by
    have := keepY_at (bs := []) (r := r) (i := i) (d := d) (by simpa [keepY] using h)
    simpa using this
  | b :: bs, x :: r, 0, d, h => by
    cases b with
    | false => simp [keepY] at h
    | true =>
      have h : x = some d := by simpa [keepY] using h
      rw [h]
      rfl
  | b :: bs, x :: r, i + 1, d, h => by
    have := keepY_at (bs := bs) (r := r) (i := i) (d := d) (by simpa [keepY] using h)
    simpa using this
def boxE (a : Addr) (r : Ev) : Ev := some (.raw a) :: r
/-- what a box comes to -/
def resB (bs : List Bool) : F → Option Ev
  | .nx ρ _ => (match ρ with
    | x :: t => some (x :: keepY bs t)
    | [] => none)
  | _ => none
open Classical in
/-- slot 0 (a list that nothing changes) and the flat values at bs stay, all else is forgotten -/
noncomputable def sBox (bs : List Bool) (m : MS) : MS := fun ρ S => match ρ with
  | some (.rol ds) :: r => if (∀ a, resB bs (m (boxE a (keepR bs r)) []) = some (boxE a (keepR bs r))) then .nx (some (.rol ds) :: keepR bs r) S else .stuck
  | _ => .stuck
theorem sBox_nx {bs : List Bool} {m : MS} {ds : List D} {r : Ev} {S : Sto} (h : ∀ a, resB bs (m (boxE a (keepR bs r)) []) = some (boxE a (keepR bs r))) : sBox bs m (some (.rol ds) :: r) S = .nx (some (.rol ds) :: keepR bs r) S := by
  unfold sBox
  exact if_pos h
/-- the same, the kept slots told -/
theorem box_run {bs : List Bool} {m : MS} {ds : List D} {r r' : Ev} {S : Sto} (hr : keepR bs r = r') (h : ∀ a, resB bs (m (boxE a r') []) = some (boxE a r')) : sBox bs m (some (.rol ds) :: r) S = .nx (some (.rol ds) :: r') S := by
  subst hr
  exact sBox_nx h
theorem RD.flat {K : Kx} {μ μ' : Mp} {H : Hp} {d : D} {v : V} (f : flatD d = true) (h : RD K μ H d v) : RD K μ' H d v := by
  cases h with
  | non => exact .non
  | bl b => exact .bl b
  | int i => exact .int i
  | str x => exact .str x
  | _ => cases f
theorem RS.later {K : Kx} {μ : Mp} {S : Sto} {H H' : Hp} (r : RS K μ S H) (n : Nx μ μ H H') (k : ∀ a ∈ μ.m, ∀ o, H a = some o → H' a = some o) : RS K μ S H' where
  len := r.len
  nd := r.nd
  dz := r.dz
  zt := fun a z => by
    obtain ⟨u, hu⟩ := r.zt a z
    exact ⟨u, n.keep a u hu fun hm => r.dz a hm z⟩
  ob := fun i a o h1 h2 => (r.ob i a o h1 h2).mono n fun u hu => k a (List.mem_of_getElem? h1) u hu
variable {G : Fx} {st : List Stmt} {m : MS}
theorem sss_box {bs : List Bool} (hp : ∀ μ H, G.g.pin μ H) (h : SSs G st m) : SSs G st (sBox bs m) := pss_imp h fun E σ H q => by
  obtain ⟨ρ, μ, S, at', po⟩ := q
  obtain ⟨ds, r, rfl, hb⟩ : ∃ ds r, ρ = some (.rol ds) :: r ∧ ∀ a, resB bs (m (boxE a (keepR bs r)) []) = some (boxE a (keepR bs r)) := by
    unfold sBox at po
    split at po
    · rename_i ds r
      split at po
      · rename_i hc
        exact ⟨ds, r, rfl, hc⟩
      · exact po.elim
    · exact po.elim
  rw [sBox_nx hb] at po
  obtain ⟨v, hv, hrd⟩ := at'.re.2 0 (.rol ds) rfl
  obtain ⟨a, rfl⟩ : ∃ a, v = .ref a := by
    cases hrd with
    | rol h r => exact ⟨_, rfl⟩
  have hl := at'.re.1
  have at0 : At G.g ⟨[], μ.z⟩ H (boxE a (keepR bs r)) σ [] := by
    refine ⟨⟨by simpa [boxE, keepR_len] using hl, fun i d e => ?_⟩, ⟨rfl, List.nodup_nil, fun b hb => (nomatch hb), at'.rs.zt, fun i b o h1 h2 => by simp at h1⟩, hp _ _⟩
    cases i with
    | zero =>
      have e : some (D.raw a) = some d := by simpa [boxE] using e
      cases e
      exact ⟨_, hv, .raw a⟩
    | succ i =>
      obtain ⟨hf, hr⟩ := keepR_at (bs := bs) (r := r) (i := i) (d := d) (by simpa [boxE] using e)
      obtain ⟨u, h1, h2⟩ := at'.re.2 (i + 1) d (by simpa using hr)
      exact ⟨u, h1, h2.flat hf⟩
  refine ⟨boxE a (keepR bs r), ⟨[], μ.z⟩, [], at0, ?_⟩
  have ho := hb a
  revert ho
  cases m (boxE a (keepR bs r)) [] with
  | nx ρ' S' =>
    intro ho μ' H' σ' n rs re
    obtain ⟨t, rfl, hs⟩ : ∃ t, ρ' = some (.raw a) :: t ∧ keepY bs t = keepR bs r := by
      cases ρ' with
      | nil => cases ho
      | cons x t =>
        have ho : some (x :: keepY bs t) = some (some (D.raw a) :: keepR bs r) := ho
        obtain ⟨e1, e2⟩ := List.cons.inj (Option.some.inj ho)
        exact ⟨t, by rw [e1], e2⟩
    have nx : Nx μ μ H H' := ⟨List.prefix_refl _, rfl, fun b o h _ => n.keep b o h (List.not_mem_nil), fun _ h => .inl h, n.hard, n.dom⟩
    refine po μ H' σ' nx (at'.rs.later nx fun b _ o h => n.keep b o h (List.not_mem_nil)) ⟨?_, fun i d e => ?_⟩
    · have h1 := re.1
      have h2 := congrArg List.length hs
      rw [keepY_len] at h2
      simp only [List.length_cons] at h1 ⊢
      omega
    · cases i with
      | zero =>
        have e : some (D.rol ds) = some d := by simpa using e
        cases e
        obtain ⟨u, h3, h4⟩ := re.2 0 _ rfl
        cases h4
        exact ⟨_, h3, hrd.mono nx⟩
      | succ i =>
        have e : (keepR bs r)[i]? = some (some d) := by simpa using e
        obtain ⟨hf, _⟩ := keepR_at e
        rw [← hs] at e
        obtain ⟨u, h3, h4⟩ := re.2 (i + 1) d (by simpa using keepY_at e)
        exact ⟨u, h3, h4.flat hf⟩
  | _ => exact fun ho => by cases ho
theorem wp_app {M : Model} {Γ : PySem.Ctx} {env : Env} {r : List Stmt} {Q : Flow → Pos → Shared → Prop} {E : Value → Pos → Shared → Prop} : ∀ (l : List Stmt) (p : Pos) (s : Shared), Sem.wp M Γ (execs l env) (fun f p' s1 => match f with | .next => Sem.wp M Γ (execs r env) Q E p' s1 | f => Q f p' s1) E p s → Sem.wp M Γ (execs (l ++ r) env) Q E p s
  | [], p, s, h => h
  | st :: l, p, s, h => by
    rw [execs_cons, Sem.wp_bind'] at h
    rw [List.cons_append, execs_cons, Sem.wp_bind']
    refine Sem.wp_mono M Γ _ (fun f p' s' q => ?_) (fun _ _ _ q => q) _ _ h
    cases f with
    | next => exact wp_app l p' s' q
    | _ => exact q
theorem pss_app {X : Cx} {l r : List Stmt} {t u : TS} (h1 : PSs X l t) (h2 : PSs X r u) : PSs X (l ++ r) (tSeq t u) := by
  refine ⟨fun pins s σ H D I h => ?_⟩
  intro Γ p hΓ
  refine wp_app l p s (Sem.wp_mono _ Γ _ (fun f p' s1 q => ?_) (fun _ _ _ q => q) _ _ (h1.run pins s σ H { D with nx := u D } I h Γ p hΓ))
  cases f with
  | next =>
    obtain ⟨σ', H', I', q⟩ := q
    exact h2.run pins s1 σ' H' D I' q Γ p' hΓ
  | _ => exact q
/-- n statements, then the others -/
theorem sss_cut {l : List Stmt} {ms mr : MS} (n : Nat) (h1 : SSs G (l.take n) ms) (h2 : SSs G (l.drop n) mr) : SSs G l (sSeq ms mr) := by
  have h := pss_imp (pss_app h1 h2) fun E σ H h => tS_seq h
  rw [List.take_append_drop] at h
  exact h
end Dn

set_option Elab.async false
set_option linter.all false
set_option maxRecDepth 100000
set_option maxHeartbeats 2000000
namespace Dn
open PySem PySem.Spec PyProof.Rows L2 RZ
/-! The end of a def, run in a store of its own, lists read by value. -/
def val1 (S : Sto) : Option D → Option D
  | some d => mapR (lkX S false true [] fuelM) true d
  | none => none
def keepV (S : Sto) (ρ : Ev) : Ev := ρ.map (val1 S)
def resR : F → Bool
  | .rt (.bl b) _ => b
  | _ => false
def sBoxR (m : MS) : MS := fun ρ S => match resR (m (keepV S ρ) []) with
  | true => .rt (.bl true) S
  | false => .stuck
theorem sBoxR_rt {m : MS} {ρ : Ev} {S : Sto} (h : resR (m (keepV S ρ) []) = true) : sBoxR m ρ S = .rt (.bl true) S := by
  unfold sBoxR
  rw [h]
variable {G : Fx} {st : List Stmt} {m : MS}
theorem sss_boxR (hp : ∀ μ H, G.g.pin μ H) (h : SSs G st m) : SSs G st (sBoxR m) := pss_imp h fun E σ H q => by
  obtain ⟨ρ, μ, S, at', po⟩ := q
  have hb : resR (m (keepV S ρ) []) = true := by
    cases hr : resR (m (keepV S ρ) []) with
    | true => rfl
    | false =>
      unfold sBoxR at po
      rw [hr] at po
      exact po.elim
  rw [sBoxR_rt hb] at po
  have off : ∀ a, μ.Off a → Mp.Off ⟨[], μ.z⟩ a := fun a h => ⟨List.not_mem_nil, h.2⟩
  have at0 : At G.g ⟨[], μ.z⟩ H (keepV S ρ) σ [] := by
    refine ⟨⟨by simpa [keepV] using at'.re.1, fun i d e => ?_⟩, ⟨rfl, List.nodup_nil, fun b hb => (nomatch hb), at'.rs.zt, fun i b o h1 h2 => by simp at h1⟩, hp _ _⟩
    unfold keepV at e
    rw [List.getElem?_map] at e
    cases hr : ρ[i]? with
    | none => rw [hr] at e; cases e
    | some x =>
      rw [hr] at e
      have e : val1 S x = some d := Option.some.inj e
      cases x with
      | none => cases e
      | some d' =>
        obtain ⟨v, h1, h2⟩ := at'.re.2 i d' hr
        have e : mapR (lkX S false true [] fuelM) true d' = some d := e
        exact ⟨v, h1, mapR_gen (fun a _ _ _ _ h => off a h) (fun _ a h => off a h) (lkX_ok at'.rs (fun a _ _ _ _ h => off a h) (fun _ a h => off a h) (fun i a _ hi _ => ⟨List.not_mem_nil, at'.rs.dz a (List.mem_of_getElem? hi)⟩) fuelM) h2 e⟩
  refine ⟨keepV S ρ, ⟨[], μ.z⟩, [], at0, ?_⟩
  revert hb
  cases m (keepV S ρ) [] with
  | rt d S' =>
    intro hb
    cases d with
    | bl b =>
      have e : b = true := hb
      subst e
      intro μ' H' v n rs rd
      have nx : Nx μ μ H H' := ⟨List.prefix_refl _, rfl, fun b o h _ => n.keep b o h (List.not_mem_nil), fun _ h => .inl h, n.hard, n.dom⟩
      cases rd
      exact po μ H' _ nx (at'.rs.later nx fun b _ o h => n.keep b o h (List.not_mem_nil)) (.bl true)
    | _ => cases hb
  | _ => exact fun hb => by cases hb
end Dn

set_option Elab.async false
set_option linter.all false
set_option maxRecDepth 100000
set_option maxHeartbeats 4000000
set_option maxErrors 1000
/-! The text by its places, its mirrors and what ties them. Printed by a program of my own. -/
namespace My
open PySem PySem.Spec PyProof.Rows L2 RZ Dn
def top (i : Nat) : Stmt := PySem.Challenge.pw_homefrees_k12_machines_refused.main.body.getD i (.Pass ⟨0, 0, 0, 0⟩)
def sub (i j : Nat) : Stmt := match top i with
  | .ClassDef _ _ _ body _ _ _ _ _ _ _ => body.getD j (.Pass ⟨0, 0, 0, 0⟩)
  | s => s
def tab_HeapError : List (Nat × Bool) := [(0, true)]
def tab_InvalidMachine : List (Nat × Bool) := [(0, true)]
def tab_LIMITS_programs : List (Str × D) := [("alloc", .tup [.tup [.int 0, .int 2], .tup [.int 0, .int 7]]), ("free", .tup [.tup [.int 0, .int 7]]), ("adopt", .tup [.tup [.int 0, .int 7]]), ("large", .tup [.tup [.int 1, .int 8], .tup [.int 0, .int 7]]), ("grow", .tup [.tup [.int 0, .int 7]]), ("drain", .tup [])]
def tab_LIMITS_parameters : List (Str × D) := [("sockets", .tup [.int 1, .int 4]), ("pages", .tup [.int 1, .int 64]), ("batch", .tup [.int 1, .int 8]), ("spare", .tup [.int 0, .int 8]), ("slots", .tup [.int 1, .int 8]), ("stops", .tup [.int 0, .int 6])]
def tabA__classes : List (Nat × Str) := [(2, "_classes")]
def tabA__threads : List (Nat × Str) := [(1, "_threads"), (2, "_threads")]
def tabA_classes : List (Nat × Str) := [(2, "_classes")]
def tabA_pages : List (Nat × Str) := [(1, "_pages"), (2, "_pages")]
def tabA_slots : List (Nat × Str) := [(1, "_slots"), (2, "_slots")]
def tabA_sockets : List (Nat × Str) := [(2, "_sockets")]
def tabA_threads : List (Nat × Str) := [(1, "_threads"), (2, "_threads")]
def cs__all : List Nat := [2]
def cs__arrivals : List Nat := [1]
def cs__batch : List Nat := [2]
def cs__classes : List Nat := [2]
def cs__fault : List Nat := [2]
def cs__flight : List Nat := [1]
def cs__key : List Nat := [1]
def cs__pages : List Nat := [1, 2]
def cs__slots : List Nat := [1, 2]
def cs__sockets : List Nat := [2]
def cs__spare : List Nat := [2]
def cs__start : List Nat := [2]
def cs__stops : List Nat := [2]
def cs__threads : List Nat := [1, 2]
/-! _law_pool -/
abbrev st__law_pool : Stmt := top 31
abbrev N__law_pool : List Str := ["_law_script", "_law_k", "_law_cell", "_law_number", "_law_mixed"]
abbrev P__law_pool : List Str := ["_law_script", "_law_k"]
theorem sc__law_pool : FnScope N__law_pool P__law_pool (defScope st__law_pool) := ⟨rfl, rfl, rfl, by decide +kernel, rfl, by decide +kernel, by decide +kernel⟩
theorem bd__law_pool : BindsOk "_law_pool" st__law_pool P__law_pool := fun _ _ _ _ _ _ us hl => match us, hl with | [_, _], _ => rfl
def b__law_pool : MS := (sSeq (sSet (m2 itemD (m2 addD (mSl (mVar 0) (mYo (mVar 1)) (mYo (m2 addD (mVar 1) (mC (.int 1))))) (mL lstD (mCons (mC (.int 0)) mNil))) (mC (.int 0))) 2)
    (sSeq (sSet (mIf (mTb (m2 (icmpD fun i j => decide (j ≤ i)) (mVar 2) (mC (.int 0)))) (mVar 2) (m2 (int0D fun i j => i - j) (m1 negD (mC (.int 1))) (mVar 2))) 3)
    (sSeq (sSet (m2 (intD cMod fun i j => i % j) (m2 mulD (mL intC (mCons (m2 addD (m2 addD (m2 addD (m2 (intD cMod fun i j => i % j) (mVar 3) (mC (.int 2147483629))) (m2 mulD (m2 mulD (mC (.int 7919)) (mVar 1)) (mVar 1))) (m2 mulD (mC (.int 31)) (mVar 1))) (mC (.int 17))) mNil)) (mC (.int 48271))) (mC (.int 2147483647))) 4)
    (sRet (mL lstD (mCons (m2 mulD (mVar 3) (mL intC (mCons (m2 (icmpD fun i j => decide (j ≤ i)) (mVar 3) (m2 (intD cPow fun i j => i ^ j.toNat) (mC (.int 10)) (mC (.int 18)))) mNil))) (mCons (m2 (intD cMod fun i j => i % j) (m2 mulD (mVar 4) (mVar 4)) (mC (.int 2147483629))) mNil)))))))
def d__law_pool : List D → Sto → R D := fnD b__law_pool 5
/-! is_int -/
abbrev st_is_int : Stmt := top 8
abbrev N_is_int : List Str := ["value"]
abbrev P_is_int : List Str := ["value"]
theorem sc_is_int : FnScope N_is_int P_is_int (defScope st_is_int) := ⟨rfl, rfl, rfl, by decide +kernel, rfl, by decide +kernel, by decide +kernel⟩
theorem bd_is_int : BindsOk "is_int" st_is_int P_is_int := fun _ _ _ _ _ _ us hl => match us, hl with | [_], _ => rfl
def b_is_int : MS := (sRet (mAndV (m1 (isiD "int") (mVar 0)) (m1 notD (m1 (isiD "bool") (mVar 0)))))
def d_is_int : List D → Sto → R D := fnD b_is_int 1
/-! is_between -/
abbrev st_is_between : Stmt := top 9
abbrev N_is_between : List Str := ["value", "low", "high"]
abbrev P_is_between : List Str := ["value", "low", "high"]
theorem sc_is_between : FnScope N_is_between P_is_between (defScope st_is_between) := ⟨rfl, rfl, rfl, by decide +kernel, rfl, by decide +kernel, by decide +kernel⟩
theorem bd_is_between : BindsOk "is_between" st_is_between P_is_between := fun _ _ _ _ _ _ us hl => match us, hl with | [_, _, _], _ => rfl
def b_is_between : MS := (sRet (mAndV (mL (callD 1 d_is_int) (mCons (mVar 0) mNil)) (mChain (icmpD fun i j => decide (i ≤ j)) (icmpD fun i j => decide (i ≤ j)) (mVar 1) (mVar 0) (mVar 2))))
def d_is_between : List D → Sto → R D := fnD b_is_between 3
/-! is_within -/
abbrev st_is_within : Stmt := top 19
abbrev N_is_within : List Str := ["name", "value", "low", "high"]
abbrev P_is_within : List Str := ["name", "value"]
theorem sc_is_within : FnScope N_is_within P_is_within (defScope st_is_within) := ⟨rfl, rfl, rfl, by decide +kernel, rfl, by decide +kernel, by decide +kernel⟩
theorem bd_is_within : BindsOk "is_within" st_is_within P_is_within := fun _ _ _ _ _ _ us hl => match us, hl with | [_, _], _ => rfl
def b_is_within : MS := (sSeq (sAsg (m1 (kixD tab_LIMITS_parameters) (mVar 0)) (gT 2 (gsC (gN 2) (gsC (gN 3) gs0))))
    (sRet (mL (callD 3 d_is_between) (mCons (mVar 1) (mCons (mVar 2) (mCons (mVar 3) mNil))))))
def d_is_within : List D → Sto → R D := fnD b_is_within 4
/-! are_classes -/
abbrev st_are_classes : Stmt := top 20
abbrev N_are_classes : List Str := ["value", "blocks"]
abbrev P_are_classes : List Str := ["value"]
theorem sc_are_classes : FnScope N_are_classes P_are_classes (defScope st_are_classes) := ⟨rfl, rfl, rfl, by decide +kernel, rfl, by decide +kernel, by decide +kernel⟩
theorem bd_are_classes : BindsOk "are_classes" st_are_classes P_are_classes := fun _ _ _ _ _ _ us hl => match us, hl with | [_], _ => rfl
def b_are_classes : MS := (sSeq (sIf (mOr (mNot (mT (m1 (isi2D "list" "tuple") (mVar 0)))) (mNot (mT (mL (callD 3 d_is_between) (mCons (mL lenD (mCons (mVar 0) mNil)) (mCons (mC (.int 1)) (mCons (mC (.int 3)) mNil))))))) (sRet (mC (.bl false))) sSkip)
    (sRet (mL allC (mCons (mLc (mIx (mVar 0)) (gN 1) tYesM (mL (callD 3 d_is_between) (mCons (mVar 1) (mCons (mC (.int 1)) (mCons (mC (.int 8)) mNil)))) [1]) mNil))))
def d_are_classes : List D → Sto → R D := fnD b_are_classes 2
/-! is_operation -/
abbrev st_is_operation : Stmt := top 12
abbrev N_is_operation : List Str := ["value", "limits", "high", "low", "number"]
abbrev P_is_operation : List Str := ["value"]
theorem sc_is_operation : FnScope N_is_operation P_is_operation (defScope st_is_operation) := ⟨rfl, rfl, rfl, by decide +kernel, rfl, by decide +kernel, by decide +kernel⟩
theorem bd_is_operation : BindsOk "is_operation" st_is_operation P_is_operation := fun _ _ _ _ _ _ us hl => match us, hl with | [_], _ => rfl
def b_is_operation : MS := (sSeq (sIf (mOr (mNot (mT (m1 (isiD "tuple") (mVar 0)))) (mOr (mTb (m2 (eqD false) (mL lenD (mCons (mVar 0) mNil)) (mC (.int 0)))) (mNot (mT (m1 (isiD "str") (m2 itemX (mVar 0) (mC (.int 0)))))))) (sRet (mC (.bl false))) sSkip)
    (sSeq (sSet (m1 (kgetD tab_LIMITS_programs) (m2 itemX (mVar 0) (mC (.int 0)))) 1)
    (sSeq (sIf (mOr (mTb (m2 (isND false) (mVar 1) (mC .non))) (mTb (m2 (eqD true) (mL lenD (mCons (mVar 0) mNil)) (m2 addD (mL lenD (mCons (mVar 1) mNil)) (mC (.int 1)))))) (sRet (mC (.bl false))) sSkip)
    (sRet (mL allC (mCons (mLc (mIA zipI (mCons (mSl (mVar 0) (mYo (mC (.int 1))) mNo) (mCons (mVar 1) mNil))) (gT 2 (gsC (gN 4) (gsC (gT 2 (gsC (gN 3) (gsC (gN 2) gs0))) gs0))) tYesM (mL (callD 3 d_is_between) (mCons (mVar 4) (mCons (mVar 3) (mCons (mVar 2) mNil)))) [2, 3, 4]) mNil))))))
def d_is_operation : List D → Sto → R D := fnD b_is_operation 5
/-! is_operation_of -/
abbrev st_is_operation_of : Stmt := top 21
abbrev N_is_operation_of : List Str := ["value", "kinds", "slots"]
abbrev P_is_operation_of : List Str := ["value", "kinds", "slots"]
theorem sc_is_operation_of : FnScope N_is_operation_of P_is_operation_of (defScope st_is_operation_of) := ⟨rfl, rfl, rfl, by decide +kernel, rfl, by decide +kernel, by decide +kernel⟩
theorem bd_is_operation_of : BindsOk "is_operation_of" st_is_operation_of P_is_operation_of := fun _ _ _ _ _ _ us hl => match us, hl with | [_, _, _], _ => rfl
def b_is_operation_of : MS := (sSeq (sIf (mNot (mT (mL (callD 1 d_is_operation) (mCons (mVar 0) mNil)))) (sRet (mC (.bl false))) sSkip)
    (sSeq (sIf (mAnd (mTb (m2 (eqD false) (m2 itemX (mVar 0) (mC (.int 0))) (mC (.str "alloc")))) (mTb (m2 (icmpD fun i j => decide (j ≤ i)) (m2 itemX (mVar 0) (mC (.int 1))) (mVar 1)))) (sRet (mC (.bl false))) sSkip)
    (sRet (mOrV (m2 (eqD false) (m2 itemX (mVar 0) (mC (.int 0))) (mC (.str "drain"))) (m2 (icmpD fun i j => decide (i < j)) (m2 itemX (mVar 0) (m1 negD (mC (.int 1)))) (mVar 2))))))
def d_is_operation_of : List D → Sto → R D := fnD b_is_operation_of 3
/-! is_thread -/
abbrev st_is_thread : Stmt := top 22
abbrev N_is_thread : List Str := ["value", "sockets", "kinds", "slots", "socket", "program", "operation"]
abbrev P_is_thread : List Str := ["value", "sockets", "kinds", "slots"]
theorem sc_is_thread : FnScope N_is_thread P_is_thread (defScope st_is_thread) := ⟨rfl, rfl, rfl, by decide +kernel, rfl, by decide +kernel, by decide +kernel⟩
theorem bd_is_thread : BindsOk "is_thread" st_is_thread P_is_thread := fun _ _ _ _ _ _ us hl => match us, hl with | [_, _, _, _], _ => rfl
def b_is_thread : MS := (sSeq (sIf (mOr (mNot (mT (m1 (isiD "tuple") (mVar 0)))) (mTb (m2 (eqD true) (mL lenD (mCons (mVar 0) mNil)) (mC (.int 2))))) (sRet (mC (.bl false))) sSkip)
    (sSeq (sAsg (mVar 0) (gT 2 (gsC (gN 4) (gsC (gN 5) gs0))))
    (sSeq (sIf (mOr (mNot (mT (mL (callD 3 d_is_between) (mCons (mVar 4) (mCons (mC (.int 0)) (mCons (m2 (int0D fun i j => i - j) (mVar 1) (mC (.int 1))) mNil)))))) (mNot (mT (m1 (isi2D "list" "tuple") (mVar 5))))) (sRet (mC (.bl false))) sSkip)
    (sSeq (sIf (mTb (m2 (icmpD fun i j => decide (j < i)) (mL lenD (mCons (mVar 5) mNil)) (mC (.int 30)))) (sRet (mC (.bl false))) sSkip)
    (sRet (mL allC (mCons (mLc (mIx (mVar 5)) (gN 6) tYesM (mL (callD 3 d_is_operation_of) (mCons (mVar 6) (mCons (mVar 2) (mCons (mVar 3) mNil)))) [6]) mNil)))))))
def d_is_thread : List D → Sto → R D := fnD b_is_thread 7
/-! are_threads -/
abbrev st_are_threads : Stmt := top 23
abbrev N_are_threads : List Str := ["value", "sockets", "kinds", "slots", "thread"]
abbrev P_are_threads : List Str := ["value", "sockets", "kinds", "slots"]
theorem sc_are_threads : FnScope N_are_threads P_are_threads (defScope st_are_threads) := ⟨rfl, rfl, rfl, by decide +kernel, rfl, by decide +kernel, by decide +kernel⟩
theorem bd_are_threads : BindsOk "are_threads" st_are_threads P_are_threads := fun _ _ _ _ _ _ us hl => match us, hl with | [_, _, _, _], _ => rfl
def b_are_threads : MS := (sSeq (sIf (mOr (mNot (mT (m1 (isi2D "list" "tuple") (mVar 0)))) (mNot (mT (mL (callD 3 d_is_between) (mCons (mL lenD (mCons (mVar 0) mNil)) (mCons (mC (.int 1)) (mCons (mC (.int 6)) mNil))))))) (sRet (mC (.bl false))) sSkip)
    (sRet (mL allC (mCons (mLc (mIx (mVar 0)) (gN 4) tYesM (mL (callD 4 d_is_thread) (mCons (mVar 4) (mCons (mVar 1) (mCons (mVar 2) (mCons (mVar 3) mNil))))) [4]) mNil))))
def d_are_threads : List D → Sto → R D := fnD b_are_threads 5
/-! wrong_parameter -/
abbrev st_wrong_parameter : Stmt := top 24
abbrev N_wrong_parameter : List Str := ["sockets", "classes", "threads", "pages", "batch", "spare", "slots", "stops", "fault", "room", "numbers", "name", "value"]
abbrev P_wrong_parameter : List Str := ["sockets", "classes", "threads", "pages", "batch", "spare", "slots", "stops", "fault"]
theorem sc_wrong_parameter : FnScope N_wrong_parameter P_wrong_parameter (defScope st_wrong_parameter) := ⟨rfl, rfl, rfl, by decide +kernel, rfl, by decide +kernel, by decide +kernel⟩
theorem bd_wrong_parameter : BindsOk "wrong_parameter" st_wrong_parameter P_wrong_parameter := fun _ _ _ _ _ _ us hl => match us, hl with | [_, _, _, _, _, _, _, _, _], _ => rfl
def b_wrong_parameter : MS := (sSeq (sIf (mNot (mT (mL (callD 2 d_is_within) (mCons (mC (.str "sockets")) (mCons (mVar 0) mNil))))) (sRet (mC (.str "sockets"))) sSkip)
    (sSeq (sIf (mNot (mT (mL (callD 1 d_are_classes) (mCons (mVar 1) mNil)))) (sRet (mC (.str "classes"))) sSkip)
    (sSeq (sSet (mIf (mT (mL (callD 2 d_is_within) (mCons (mC (.str "slots")) (mCons (mVar 6) mNil)))) (mVar 6) (m2 itemX (m1 (kixD tab_LIMITS_parameters) (mC (.str "slots"))) (mC (.int 1)))) 9)
    (sSeq (sIf (mNot (mT (mL (callD 4 d_are_threads) (mCons (mVar 2) (mCons (mVar 0) (mCons (mL lenD (mCons (mVar 1) mNil)) (mCons (mVar 9) mNil))))))) (sRet (mC (.str "threads"))) sSkip)
    (sSeq (sSet (mDisp [((mC (.str "pages")), (mVar 3)), ((mC (.str "batch")), (mVar 4)), ((mC (.str "spare")), (mVar 5)), ((mC (.str "slots")), (mVar 6)), ((mC (.str "stops")), (mVar 7))]) 10)
    (sSeq (sItems 10 (gT 2 (gsC (gN 11) (gsC (gN 12) gs0))) (sIf (mNot (mT (mL (callD 2 d_is_within) (mCons (mVar 11) (mCons (mVar 12) mNil))))) (sRet (mVar 11)) sSkip))
    (sRet (mIf (mTb (m2 (inX false) (mVar 8) (mC (.tup [.non, .str "take", .str "fill", .str "batches"])))) (mC .non) (mC (.str "fault"))))))))))
def d_wrong_parameter : List D → Sto → R D := fnD b_wrong_parameter 13
/-! copied_threads -/
abbrev st_copied_threads : Stmt := top 26
abbrev N_copied_threads : List Str := ["threads", "program", "socket"]
abbrev P_copied_threads : List Str := ["threads"]
theorem sc_copied_threads : FnScope N_copied_threads P_copied_threads (defScope st_copied_threads) := ⟨rfl, rfl, rfl, by decide +kernel, rfl, by decide +kernel, by decide +kernel⟩
theorem bd_copied_threads : BindsOk "copied_threads" st_copied_threads P_copied_threads := fun _ _ _ _ _ _ us hl => match us, hl with | [_], _ => rfl
def b_copied_threads : MS := (sRet (mL tupC (mCons (mLc (mIx (mVar 0)) (gT 2 (gsC (gN 2) (gsC (gN 1) gs0))) tYesM (mL tupD (mCons (mVar 2) (mCons (mL tupC (mCons (mVar 1) mNil)) mNil))) [1, 2]) mNil)))
def d_copied_threads : List D → Sto → R D := fnD b_copied_threads 3
/-! first_thread -/
abbrev st_first_thread : Stmt := top 27
abbrev N_first_thread : List Str := ["program", "sockets", "kinds", "caches", "batches"]
abbrev P_first_thread : List Str := ["program", "sockets", "kinds"]
theorem sc_first_thread : FnScope N_first_thread P_first_thread (defScope st_first_thread) := ⟨rfl, rfl, rfl, by decide +kernel, rfl, by decide +kernel, by decide +kernel⟩
theorem bd_first_thread : BindsOk "first_thread" st_first_thread P_first_thread := fun _ _ _ _ _ _ us hl => match us, hl with | [_, _, _], _ => rfl
def b_first_thread : MS := (sSeq (sSet (m2 mulD (mL tupD (mCons (mL tupD mNil) mNil)) (mVar 2)) 3)
    (sSeq (sSet (m2 mulD (mL tupD (mCons (mVar 3) mNil)) (mVar 1)) 4)
    (sSeq (sIf (mTb (m2 (eqD false) (mL lenD (mCons (mVar 0) mNil)) (mC (.int 0)))) (sRet (mL tupD (mCons (mC (.str "ended")) (mCons (mC (.int 0)) (mCons (mC (.str "over")) (mCons (mL tupD mNil) (mCons (mVar 3) (mCons (mVar 4) mNil)))))))) sSkip)
    (sRet (mL tupD (mCons (mC (.str "running")) (mCons (mC (.int 0)) (mCons (mC (.str "begin")) (mCons (mL tupD mNil) (mCons (mVar 3) (mCons (mVar 4) mNil)))))))))))
def d_first_thread : List D → Sto → R D := fnD b_first_thread 5
/-! State___init__ -/
abbrev st_State___init__ : Stmt := sub 5 0
abbrev N_State___init__ : List Str := ["self", "pages", "slots", "threads", "arrivals", "flight"]
abbrev P_State___init__ : List Str := ["self", "pages", "slots", "threads", "arrivals", "flight"]
theorem sc_State___init__ : FnScope N_State___init__ P_State___init__ (defScope st_State___init__) := ⟨rfl, rfl, rfl, by decide +kernel, rfl, by decide +kernel, by decide +kernel⟩
def b_State___init__ : MS := (sSeq (sFldD cs__pages "_pages" (mVar 0) (mVar 1))
    (sSeq (sFldD cs__slots "_slots" (mVar 0) (mVar 2))
    (sSeq (sFldD cs__threads "_threads" (mVar 0) (mVar 3))
    (sSeq (sFldD cs__arrivals "_arrivals" (mVar 0) (mVar 4))
    (sSeq (sFldD cs__flight "_flight" (mVar 0) (mVar 5))
    (sFldD cs__key "_key" (mVar 0) (mL tupD (mCons (mVar 1) (mCons (mVar 2) (mCons (mVar 3) (mCons (mVar 4) (mCons (mVar 5) mNil))))))))))))
def d_State___init__ : List D → Sto → R D := fnD b_State___init__ 6
/-! first_state -/
abbrev st_first_state : Stmt := top 28
abbrev N_first_state : List Str := ["machine", "kinds", "threads", "pages", "slots", "arrivals", "_", "program"]
abbrev P_first_state : List Str := ["machine"]
theorem sc_first_state : FnScope N_first_state P_first_state (defScope st_first_state) := ⟨rfl, rfl, rfl, by decide +kernel, rfl, by decide +kernel, by decide +kernel⟩
theorem bd_first_state : BindsOk "first_state" st_first_state P_first_state := fun _ _ _ _ _ _ us hl => match us, hl with | [_], _ => rfl
def b_first_state : MS := (sSeq (sSet (mL lenD (mCons (m1 (attrD tabA_classes) (mVar 0)) mNil)) 1)
    (sSeq (sSet (mLc (mIx (m1 (attrD tabA_threads) (mVar 0))) (gT 2 (gsC (gN 6) (gsC (gN 7) gs0))) tYesM (mL (callD 3 d_first_thread) (mCons (mVar 7) (mCons (m1 (attrD tabA_sockets) (mVar 0)) (mCons (mVar 1) mNil)))) [6, 7]) 2)
    (sSeq (sSet (m2 mulD (mL tupD (mCons (mC (.tup [.str "store"])) mNil)) (m1 (attrD tabA_pages) (mVar 0))) 3)
    (sSeq (sSet (m2 mulD (mL tupD (mCons (mC .non) mNil)) (m1 (attrD tabA_slots) (mVar 0))) 4)
    (sSeq (sSet (m2 mulD (mL tupD (mCons (mL tupD mNil) mNil)) (m1 (attrD tabA_sockets) (mVar 0))) 5)
    (sRet (mL (fun ds S => if ds.length + 1 = P_State___init__.length then newD 1 (callD P_State___init__.length d_State___init__) ds S else .stuck) (mCons (mVar 3) (mCons (mVar 4) (mCons (mL tupC (mCons (mVar 2) mNil)) (mCons (mVar 5) (mCons (mL tupD mNil) mNil))))))))))))
def d_first_state : List D → Sto → R D := fnD b_first_state 8
/-! Machine___init__ -/
abbrev st_Machine___init__ : Stmt := sub 29 0
abbrev N_Machine___init__ : List Str := ["self", "sockets", "classes", "threads", "pages", "batch", "spare", "slots", "stops", "fault", "name", "numbers"]
abbrev P_Machine___init__ : List Str := ["self", "sockets", "classes", "threads", "pages", "batch", "spare", "slots", "stops", "fault"]
theorem sc_Machine___init__ : FnScope N_Machine___init__ P_Machine___init__ (defScope st_Machine___init__) := ⟨rfl, rfl, rfl, by decide +kernel, rfl, by decide +kernel, by decide +kernel⟩
def kf_Machine_3_pages_batch_spare_slots_stops_fault_src : List (Nat × Nat) := [(0, 0), (0, 1), (0, 2), (2, 0), (2, 1), (2, 2), (2, 3), (2, 4), (2, 5)]
def kf_Machine_3_pages_batch_spare_slots_stops_fault_ms : List (Str × V) := []
def kf_Machine_3_pages_batch_spare_slots_stops_fault_md : List D := []
abbrev kf_Machine_3_pages_batch_spare_slots_stops_fault_ks : List Str := ["pages", "batch", "spare", "slots", "stops", "fault"]
def kf_Machine_3_pages_batch_spare_slots_stops_fault_gV (vs zs : List V) : List V := pick ((0, 0) :: kf_Machine_3_pages_batch_spare_slots_stops_fault_src.map shf) vs (kf_Machine_3_pages_batch_spare_slots_stops_fault_ms.map (·.2)) zs
def kf_Machine_3_pages_batch_spare_slots_stops_fault_gR (vs zs : List V) : List V := pick kf_Machine_3_pages_batch_spare_slots_stops_fault_src vs (kf_Machine_3_pages_batch_spare_slots_stops_fault_ms.map (·.2)) zs
def kf_Machine_3_pages_batch_spare_slots_stops_fault_g (ds es : List D) : List D := pick kf_Machine_3_pages_batch_spare_slots_stops_fault_src ds kf_Machine_3_pages_batch_spare_slots_stops_fault_md es
theorem kf_Machine_3_pages_batch_spare_slots_stops_fault_h (D : Addr) (doc pm : Value) (an : Option Addr) (cdv ct : Value) (us mv ws : List Value) (h1 : us.length = 4) (h2 : mv.length = kf_Machine_3_pages_batch_spare_slots_stops_fault_ms.length) (h3 : ws.length = kf_Machine_3_pages_batch_spare_slots_stops_fault_ks.length) : KwChain D ((kf_Machine_3_pages_batch_spare_slots_stops_fault_ms.map (·.1)).zip mv) (bindArgs (PySem.W.fnOf "__init__" "Machine.__init__" (defArgs st_Machine___init__) (defBody st_Machine___init__) (defScope st_Machine___init__) .none (.ref D) doc pm an cdv ct) ⟨us, kf_Machine_3_pages_batch_spare_slots_stops_fault_ks.zip ws⟩) (P_Machine___init__.zip (pick ((0, 0) :: kf_Machine_3_pages_batch_spare_slots_stops_fault_src.map shf) us mv ws)) :=
  match us, mv, ws, h1, h2, h3 with
  | [_, _, _, _], [], [_, _, _, _, _, _], _, _, _ => rfl
def b_Machine___init__ : MS := (sSeq (sSet (mL (callD 9 d_wrong_parameter) (mCons (mVar 1) (mCons (mVar 2) (mCons (mVar 3) (mCons (mVar 4) (mCons (mVar 5) (mCons (mVar 6) (mCons (mVar 7) (mCons (mVar 8) (mCons (mVar 9) mNil)))))))))) 10)
    (sSeq (sIf (mTb (m2 (isND true) (mVar 10) (mC .non))) (sRaise 0 "name" (mVar 10)) sSkip)
    (sSeq (sFldD cs__sockets "_sockets" (mVar 0) (mVar 1))
    (sSeq (sFldD cs__classes "_classes" (mVar 0) (mL tupC (mCons (mVar 2) mNil)))
    (sSeq (sFldD cs__threads "_threads" (mVar 0) (mL (callD 1 d_copied_threads) (mCons (mVar 3) mNil)))
    (sSeq (sFldD cs__pages "_pages" (mVar 0) (mVar 4))
    (sSeq (sFldD cs__batch "_batch" (mVar 0) (mVar 5))
    (sSeq (sFldD cs__spare "_spare" (mVar 0) (mVar 6))
    (sSeq (sFldD cs__slots "_slots" (mVar 0) (mVar 7))
    (sSeq (sFldD cs__stops "_stops" (mVar 0) (mVar 8))
    (sSeq (sFldD cs__fault "_fault" (mVar 0) (mVar 9))
    (sSeq (sSet (mL tupD (mCons (mVar 4) (mCons (mVar 5) (mCons (mVar 6) (mCons (mVar 7) (mCons (mVar 8) mNil)))))) 11)
    (sSeq (sFldD cs__all "_all" (mVar 0) (mL tupD (mCons (mVar 1) (mCons (m1 (attrD tabA__classes) (mVar 0)) (mCons (m1 (attrD tabA__threads) (mVar 0)) (mCons (mVar 11) (mCons (mVar 9) mNil)))))))
    (sFldD cs__start "_start" (mVar 0) (mL (callD 1 d_first_state) (mCons (mVar 0) mNil))))))))))))))))
def d_Machine___init__ : List D → Sto → R D := fnD b_Machine___init__ 12
/-! _law_said -/
abbrev st__law_said : Stmt := top 33
abbrev N__law_said : List Str := ["_law_row", "_law_first", "_law_rest", "e"]
abbrev P__law_said : List Str := ["_law_row"]
theorem sc__law_said : FnScope N__law_said P__law_said (defScope st__law_said) := ⟨rfl, rfl, rfl, by decide +kernel, rfl, by decide +kernel, by decide +kernel⟩
theorem bd__law_said : BindsOk "_law_said" st__law_said P__law_said := fun _ _ _ _ _ _ us hl => match us, hl with | [_], _ => rfl
def b__law_said : MS := (sSeq (sTryAs (fun k => tab_InvalidMachine.lookup k) 3
    (sSeq (sPar (mCons (mSl (mVar 0) mNo (mYo (mC (.int 3)))) (mCons (mSl (mVar 0) (mYo (mC (.int 3))) mNo) mNil)) 1 2)
    (sExpr (mKwT kf_Machine_3_pages_batch_spare_slots_stops_fault_g (newD 2 (callD P_Machine___init__.length d_Machine___init__)) 3 kf_Machine_3_pages_batch_spare_slots_stops_fault_ks.length (mCons (m2 itemX (mVar 1) (mC (.int 0))) (mCons (m2 itemX (mVar 1) (mC (.int 1))) (mCons (m2 itemX (mVar 1) (mC (.int 2))) mNil))) (mCons (m2 itemX (mVar 2) (mC (.int 0))) (mCons (m2 itemX (mVar 2) (mC (.int 1))) (mCons (m2 itemX (mVar 2) (mC (.int 2))) (mCons (m2 itemX (mVar 2) (mC (.int 3))) (mCons (m2 itemX (mVar 2) (mC (.int 4))) (mCons (m2 itemX (mVar 2) (mC (.int 5))) mNil)))))))))
    fun k fs xa => (sRet (mL lstD (mCons (mXf 3 xa fs "name") (mCons (mIsX 3 xa tab_HeapError k) mNil)))))
    (sRet (mL lstD mNil)))
def d__law_said : List D → Sto → R D := fnD b__law_said 4
/-! _law_take -/
abbrev st__law_take : Stmt := top 32
abbrev N__law_take : List Str := ["_law_pool_here", "_law_many", "_law_digit"]
abbrev P__law_take : List Str := ["_law_pool_here", "_law_many"]
theorem sc__law_take : FnScope N__law_take P__law_take (defScope st__law_take) := ⟨rfl, rfl, rfl, by decide +kernel, rfl, by decide +kernel, by decide +kernel⟩
theorem bd__law_take : BindsOk "_law_take" st__law_take P__law_take := fun _ _ _ _ _ _ us hl => match us, hl with | [_, _], _ => rfl
def b__law_take : MS := (sSeq (sIf (mTb (m2 (icmpD fun i j => decide (j < i)) (m2 itemD (mVar 0) (mC (.int 0))) (mC (.int 0)))) (sSeq (sSet (m2 (intD cMod fun i j => i % j) (mL intC (mCons (m2 itemD (mVar 0) (mC (.int 0))) mNil)) (mVar 1)) 2)
    (sSeq (sAsg (m2 (intD cDiv fun i j => i / j) (m2 itemD (mVar 0) (mC (.int 0))) (mVar 1)) (gSub (mVar 0) (mC (.int 0))))
    (sRet (mVar 2)))) sSkip)
    (sSeq (sAsg (m2 (intD cMod fun i j => i % j) (mL intC (mCons (m2 addD (m2 mulD (m2 itemD (mVar 0) (mC (.int 1))) (mC (.int 48271))) (mC (.int 12345))) mNil)) (mC (.int 2147483647))) (gSub (mVar 0) (mC (.int 1))))
    (sRet (m2 (intD cMod fun i j => i % j) (m2 (intD cDiv fun i j => i / j) (m2 (intD cMod fun i j => i % j) (mL intC (mCons (m2 mulD (m2 itemD (mVar 0) (mC (.int 1))) (m2 itemD (mVar 0) (mC (.int 1)))) mNil)) (mC (.int 2147483629))) (mC (.int 64))) (mVar 1)))))
def d__law_take : List D → Sto → R D := fnD b__law_take 3
/-! _law_menu -/
abbrev st__law_menu : Stmt := top 34
abbrev N__law_menu : List Str := ["_law_at", "_law_some", "_law_limits", "_law_least", "_law_most"]
abbrev P__law_menu : List Str := ["_law_at"]
theorem sc__law_menu : FnScope N__law_menu P__law_menu (defScope st__law_menu) := ⟨rfl, rfl, rfl, by decide +kernel, rfl, by decide +kernel, by decide +kernel⟩
theorem bd__law_menu : BindsOk "_law_menu" st__law_menu P__law_menu := fun _ _ _ _ _ _ us hl => match us, hl with | [_], _ => rfl
def b__law_menu : MS := (sSeq (sIf (mTb (m2 (eqD false) (mVar 0) (mC (.int 0)))) (sRet (mL lstD (mCons (mC (.int 0)) (mCons (mC (.int 5)) (mCons (mC (.bl true)) (mCons (mC .non) (mCons (mC (.str "1")) (mCons (mL lstD (mCons (mC (.int 1)) mNil)) mNil)))))))) sSkip)
    (sSeq (sIf (mTb (m2 (eqD false) (mVar 0) (mC (.int 1)))) (sRet (mL lstD (mCons (mL tupD mNil) (mCons (mL lstD (mCons (mC (.int 1)) (mCons (mC (.int 2)) (mCons (mC (.int 3)) (mCons (mC (.int 4)) mNil))))) (mCons (mL lstD (mCons (mC (.int 0)) mNil)) (mCons (mL lstD (mCons (mC (.int 9)) mNil)) (mCons (mL lstD (mCons (mC (.bl true)) mNil)) (mCons (mL lstD (mCons (mC .non) mNil)) (mCons (mC .non) (mCons (mC (.int 2)) (mCons (mC (.str "2")) (mCons (mL lstD (mCons (mC (.int 2)) (mCons (mC (.int 9)) mNil))) (mCons (mL tupD (mCons (mL tupD (mCons (mC (.int 2)) mNil)) mNil)) mNil))))))))))))) sSkip)
    (sSeq (sIf (mTb (m2 (eqD false) (mVar 0) (mC (.int 2)))) (sSeq (sSet (mL lstD (mCons (mL lstD mNil) (mCons (mC .non) (mCons (mC (.int 5)) (mCons (mL lstD (mCons (mC .non) mNil)) (mCons (mL lstD (mCons (mL tupD (mCons (mC (.int 0)) mNil)) mNil)) (mCons (mL lstD (mCons (mL lstD (mCons (mC (.int 0)) (mCons (mL lstD mNil) mNil))) mNil)) (mCons (mL lstD (mCons (mL tupD (mCons (mC (.int 2)) (mCons (mL lstD mNil) mNil))) mNil)) (mCons (mL lstD (mCons (mL tupD (mCons (mC (.int 0)) (mCons (mC .non) mNil))) mNil)) mNil))))))))) 1)
    (sSeq (sSet (m2 addD (mVar 1) (mL lstD (mCons (mL lstD (mCons (mL tupD (mCons (mC (.int 0)) (mCons (m2 mulD (mL lstD (mCons (mL tupD (mCons (mC (.str "drain")) mNil)) mNil)) (mC (.int 31))) mNil))) mNil)) (mCons (mL lstD (mCons (mL tupD (mCons (m1 negD (mC (.int 1))) (mCons (mL tupD mNil) mNil))) mNil)) mNil)))) 1)
    (sSeq (sSet (m2 addD (mVar 1) (mL lstD (mCons (mL lstD (mCons (mL tupD (mCons (mC (.int 0)) (mCons (mL lstD (mCons (mL tupD (mCons (mC (.str "alloc")) (mCons (mC (.int 2)) (mCons (mC (.int 0)) mNil)))) mNil)) mNil))) mNil)) (mCons (mL lstD (mCons (mL tupD (mCons (mC (.int 0)) (mCons (mL lstD (mCons (mL tupD (mCons (mC (.str "free")) (mCons (mC (.int 2)) mNil))) mNil)) mNil))) mNil)) (mCons (mL lstD (mCons (mL tupD (mCons (mC (.int 0)) (mCons (mL lstD (mCons (mL tupD (mCons (mC (.str "large")) (mCons (mC (.int 9)) (mCons (mC (.int 0)) mNil)))) mNil)) mNil))) mNil)) mNil))))) 1)
    (sSeq (sSet (m2 addD (mVar 1) (mL lstD (mCons (mL lstD (mCons (mL tupD (mCons (mC (.bl true)) (mCons (mL tupD mNil) mNil))) mNil)) mNil))) 1)
    (sRet (m2 addD (mVar 1) (mL lstD (mCons (m2 mulD (mL lstD (mCons (mL tupD (mCons (mC (.int 0)) (mCons (mL tupD mNil) mNil))) mNil)) (mC (.int 7))) (mCons (mL lstD (mCons (mL tupD (mCons (mC (.int 0)) (mCons (mL lstD (mCons (mL tupD (mCons (mC (.str "drain")) (mCons (mC (.int 0)) mNil))) mNil)) mNil))) mNil)) (mCons (mL lstD (mCons (mL tupD (mCons (mC (.int 0)) (mCons (mL lstD mNil) mNil))) (mCons (mL tupD (mCons (mC (.int 0)) (mCons (mL lstD (mCons (mL lstD (mCons (mC (.str "drain")) mNil)) mNil)) mNil))) mNil))) (mCons (mC (.str "threads")) (mCons (mL tupD (mCons (mL tupD (mCons (mC (.int 0)) (mCons (mL tupD mNil) mNil))) (mCons (mC (.int 5)) mNil))) mNil)))))))))))) sSkip)
    (sSeq (sSet (mL lstD (mCons (mL tupD (mCons (mC (.int 1)) (mCons (mC (.int 64)) mNil))) (mCons (mL tupD (mCons (mC (.int 1)) (mCons (mC (.int 8)) mNil))) (mCons (mL tupD (mCons (mC (.int 0)) (mCons (mC (.int 8)) mNil))) (mCons (mL tupD (mCons (mC (.int 1)) (mCons (mC (.int 8)) mNil))) (mCons (mL tupD (mCons (mC (.int 0)) (mCons (mC (.int 6)) mNil))) mNil)))))) 2)
    (sSeq (sIf (mTb (m2 (icmpD fun i j => decide (i < j)) (mVar 0) (mC (.int 8)))) (sSeq (sAsg (m2 itemX (mVar 2) (m2 (int0D fun i j => i - j) (mVar 0) (mC (.int 3)))) (gT 2 (gsC (gN 3) (gsC (gN 4) gs0))))
    (sRet (mL lstD (mCons (m2 (int0D fun i j => i - j) (mVar 3) (mC (.int 1))) (mCons (m2 addD (mVar 4) (mC (.int 1))) (mCons (mC .non) (mCons (mC (.str "1")) (mCons (mC (.bl true)) (mCons (mL lstD (mCons (mVar 3) mNil)) (mCons (m2 (intD cPow fun i j => i ^ j.toNat) (mC (.int 10)) (mC (.int 20))) mNil)))))))))) sSkip)
    (sRet (mL lstD (mCons (mC (.str "")) (mCons (mC (.str "Take")) (mCons (mC (.int 0)) (mCons (mC (.bl true)) (mCons (mC (.str "none")) (mCons (mL lstD (mCons (mC (.str "take")) mNil)) (mCons (mL tupD (mCons (mC (.str "fill")) mNil)) mNil))))))))))))))
def d__law_menu : List D → Sto → R D := fnD b__law_menu 5
/-! law -/
abbrev st_law : Stmt := top 35
abbrev N_law : List Str := ["_law_script", "_law_names", "_law_good", "_law_k", "_law_pool_here", "_law_first", "_law_row", "_law_at", "_law_menu_here", "_law_value", "_law_full"]
abbrev P_law : List Str := ["_law_script"]
theorem sc_law : FnScope N_law P_law (defScope st_law) := ⟨rfl, rfl, rfl, by decide +kernel, rfl, by decide +kernel, by decide +kernel⟩
theorem bd_law : BindsOk "law" st_law P_law := fun _ _ _ _ _ _ us hl => match us, hl with | [_], _ => rfl
def boxr1_law : MS := (sSeq (sSet (m2 addD (m2 addD (mSl (mVar 2) mNo (mYo (mC (.int 2)))) (mL lstD (mCons (mL lstD (mCons (mL tupD (mCons (mC (.int 0)) (mCons (mL lstD (mCons (mL tupD (mCons (mC (.str "free")) (mCons (mC (.int 7)) mNil))) mNil)) mNil))) mNil)) mNil))) (mSl (mVar 2) (mYo (mC (.int 3))) mNo)) 6)
    (sSeq (sFor (mIx (mL (callM false [false] (callD 1 d__law_menu)) (mCons (mC (.int 6)) mNil))) (gN 9) (sIf (mTb (m2 (eqD true) (mL (callM false [false] (callD 1 d__law_said)) (mCons (m2 addD (m2 addD (mSl (mVar 6) mNo (mYo (mC (.int 6)))) (mL lstD (mCons (mVar 9) mNil))) (mSl (mVar 6) (mYo (mC (.int 7))) mNo)) mNil)) (mL lstD (mCons (mC (.str "slots")) (mCons (mC (.bl true)) mNil))))) (sRet (mC (.bl false))) sSkip))
    (sSeq (sIf (mOr (mTb (m2 (eqD true) (mL (callM false [false] (callD 1 d__law_said)) (mCons (m2 addD (m2 addD (mSl (mVar 6) mNo (mYo (mC (.int 6)))) (mL lstD (mCons (mC (.int 7)) mNil))) (mSl (mVar 6) (mYo (mC (.int 7))) mNo)) mNil)) (mL lstD (mCons (mC (.str "threads")) (mCons (mC (.bl true)) mNil))))) (mTb (m2 (eqD true) (mL (callM false [false] (callD 1 d__law_said)) (mCons (m2 addD (m2 addD (mSl (mVar 6) mNo (mYo (mC (.int 6)))) (mL lstD (mCons (mC (.int 8)) mNil))) (mSl (mVar 6) (mYo (mC (.int 7))) mNo)) mNil)) (mL lstD mNil)))) (sRet (mC (.bl false))) sSkip)
    (sSeq (sSet (mL lstD (mCons (mC (.int 4)) (mCons (mL tupD (mCons (mC (.int 8)) (mCons (mC (.int 8)) (mCons (mC (.int 8)) mNil)))) (mCons (m2 mulD (mL lstD (mCons (mL tupD (mCons (mC (.int 3)) (mCons (m2 mulD (mL lstD (mCons (mL tupD (mCons (mC (.str "drain")) mNil)) mNil)) (mC (.int 30))) mNil))) mNil)) (mC (.int 6))) (mCons (mC (.int 64)) (mCons (mC (.int 8)) (mCons (mC (.int 8)) (mCons (mC (.int 8)) (mCons (mC (.int 6)) (mCons (mC .non) mNil)))))))))) 10)
    (sRet (mAndV (m2 (eqD false) (mL (callM false [false] (callD 1 d__law_said)) (mCons (mVar 10) mNil)) (mL lstD mNil)) (m2 (eqD false) (mL (callM false [false] (callD 1 d__law_said)) (mCons (mL lstD (mCons (mC (.int 1)) (mCons (mL tupD (mCons (mC (.int 1)) mNil)) (mCons (mL lstD (mCons (mL tupD (mCons (mC (.int 0)) (mCons (mL tupD mNil) mNil))) mNil)) (mCons (mC (.int 1)) (mCons (mC (.int 1)) (mCons (mC (.int 0)) (mCons (mC (.int 1)) (mCons (mC (.int 0)) (mCons (mC .non) mNil)))))))))) mNil)) (mL lstD mNil))))))))
def boxr0_law : MS := (sSeq (sFor (mIA (fun ds _ => rng1 ds) (mCons (mL max2C (mCons (mC (.int 1)) (mCons (mL min2C (mCons (mC (.int 20)) (mCons (mL lenD (mCons (mVar 0) mNil)) mNil))) mNil))) mNil)) (gN 3) (sSeq (sSet (mL (callM false [false, false] (callD 2 d__law_pool)) (mCons (mVar 0) (mCons (mVar 3) mNil))) 4)
    (sSeq (sIf (mTb (m2 (eqD true) (mL (callM false [false] (callD 1 d__law_said)) (mCons (m2 addD (mSl (mVar 2) mNo (mYo (mC (.int 8)))) (mL lstD (mCons (m2 itemX (mL lstD (mCons (mC .non) (mCons (mC (.str "take")) (mCons (mC (.str "fill")) (mCons (mC (.str "batches")) mNil))))) (mL (callM false [true, false] (callD 2 d__law_take)) (mCons (mVar 4) (mCons (mC (.int 4)) mNil)))) mNil))) mNil)) (mL lstD mNil))) (sRet (mC (.bl false))) sSkip)
    (sSeq (sSet (mL (callM false [true, false] (callD 2 d__law_take)) (mCons (mVar 4) (mCons (mC (.int 9)) mNil))) 5)
    (sSeq (sSet (mL lstC (mCons (mVar 2) mNil)) 6)
    (sSeq (sFor (mIA (fun ds _ => rng2 ds) (mCons (mVar 5) (mCons (mC (.int 9)) mNil))) (gN 7) (sSeq (sSet (mL (callM false [false] (callD 1 d__law_menu)) (mCons (mVar 7) mNil)) 8)
    (sIf (mOr (mTb (m2 (eqD false) (mVar 7) (mVar 5))) (mAnd (mOr (mTb (m2 (eqD true) (mVar 5) (mC (.int 2)))) (mTb (m2 (eqD true) (mVar 7) (mC (.int 6))))) (mTb (m2 (eqD false) (mL (callM false [true, false] (callD 2 d__law_take)) (mCons (mVar 4) (mCons (mC (.int 2)) mNil))) (mC (.int 0)))))) (sPutX (mVar 6) (mVar 7) (m2 itemX (mVar 8) (mL (callM false [true, false] (callD 2 d__law_take)) (mCons (mVar 4) (mCons (mL lenD (mCons (mVar 8) mNil)) mNil))))) sSkip)))
    (sIf (mTb (m2 (eqD true) (mL (callM false [false] (callD 1 d__law_said)) (mCons (mVar 6) mNil)) (mL lstD (mCons (m2 itemX (mVar 1) (mVar 5)) (mCons (mC (.bl true)) mNil))))) (sRet (mC (.bl false))) sSkip)))))))
    (sBoxR boxr1_law))
def b_law : MS := (sSeq (sSet (mL lstD (mCons (mC (.str "sockets")) (mCons (mC (.str "classes")) (mCons (mC (.str "threads")) (mCons (mC (.str "pages")) (mCons (mC (.str "batch")) (mCons (mC (.str "spare")) (mCons (mC (.str "slots")) (mCons (mC (.str "stops")) (mCons (mC (.str "fault")) mNil)))))))))) 1)
    (sSeq (sSet (mL lstD (mCons (mC (.int 2)) (mCons (mL lstD (mCons (mC (.int 3)) (mCons (mC (.int 1)) mNil))) (mCons (mL lstD (mCons (mL tupD (mCons (mC (.int 0)) (mCons (mL lstD (mCons (mL tupD (mCons (mC (.str "alloc")) (mCons (mC (.int 1)) (mCons (mC (.int 1)) mNil)))) (mCons (mL tupD (mCons (mC (.str "free")) (mCons (mC (.int 1)) mNil))) mNil))) mNil))) (mCons (mL tupD (mCons (mC (.int 1)) (mCons (mL tupD mNil) mNil))) mNil))) (mCons (mC (.int 4)) (mCons (mC (.int 2)) (mCons (mC (.int 1)) (mCons (mC (.int 2)) (mCons (mC (.int 1)) (mCons (mC .non) mNil)))))))))) 2)
    (sBoxR boxr0_law)))
def d_law : List D → Sto → R D := fnD b_law 11
/-! what the module's names are -/
structure Tx (P : Program) (w : World) (K : Kx) (mg : Str → Option Value) (a_LIMITS_parameters : Addr) (a_LIMITS_programs : Addr) : Prop where
  n_all : mg "all" = none
  n_bool : mg "bool" = none
  n_int : mg "int" = none
  n_isinstance : mg "isinstance" = none
  n_len : mg "len" = none
  n_list : mg "list" = none
  n_max : mg "max" = none
  n_min : mg "min" = none
  n_range : mg "range" = none
  n_str : mg "str" = none
  n_tuple : mg "tuple" = none
  n_zip : mg "zip" = none
  g_LIMITS_parameters : mg "LIMITS_parameters" = some (.ref a_LIMITS_parameters)
  t_LIMITS_parameters : KTab K w a_LIMITS_parameters tab_LIMITS_parameters
  g_LIMITS_programs : mg "LIMITS_programs" = some (.ref a_LIMITS_programs)
  t_LIMITS_programs : KTab K w a_LIMITS_programs tab_LIMITS_programs
  v_FAULTS : ∃ u, mg "FAULTS" = some u ∧ kD K 6 u = some (.tup [.non, .str "take", .str "fill", .str "batches"])
  v_MOST_CLASSES : ∃ u, mg "MOST_CLASSES" = some u ∧ kD K 6 u = some (.int 3)
  v_MOST_OPERATIONS : ∃ u, mg "MOST_OPERATIONS" = some u ∧ kD K 6 u = some (.int 30)
  v_MOST_THREADS : ∃ u, mg "MOST_THREADS" = some u ∧ kD K 6 u = some (.int 6)
  v_STORE : ∃ u, mg "STORE" = some u ∧ kD K 6 u = some (.tup [.str "store"])
  m_HeapError : Cat K mg "HeapError" tab_HeapError
  m_InvalidMachine : Cat K mg "InvalidMachine" tab_InvalidMachine
section
variable {P : Program} {w : World} {K : Kx} {mg : Str → Option Value} {base : Heap} {a_LIMITS_parameters : Addr} {a_LIMITS_programs : Addr}
theorem ok__law_pool {f : Addr} {fd : FuncData} (F : Fun K.K "_law_pool" "_law_pool" st__law_pool f fd) (T : Tx P w K mg a_LIMITS_parameters a_LIMITS_programs) : FnOk P w K.K mg base (L2.CX P w) 1 f fd P__law_pool (spD K d__law_pool 2) :=
  have nd := sc__law_pool.nd
  fn_ok F sc__law_pool fun cdv A outer s H E hr =>
   (ss_cons (ss_set 2 (se_ix (se_op op_addD add_ok (se_slice (se_var 0) (so_yes (se_var 1)) (so_yes (se_op op_addD add_ok (se_var 1) se_int))) (se_lst (sa_cons se_int sa_nil))) se_int) nd)
    (ss_cons (ss_set 3 (se_if (sb_cmp (op_ge) icmp_ok (se_var 2) se_int (nomark _)) (se_var 2) (se_op op_sub int0_ok (se_neg se_int) (se_var 2))) nd)
    (ss_cons (ss_set 4 (se_op op_mod (int_ok cMod_ok) (se_op op_mulD mul_ok (se_callTy (call_int1) int1_ok (by rfl) T.n_int (by decide +kernel) (sa_cons (se_op op_addD add_ok (se_op op_addD add_ok (se_op op_addD add_ok (se_op op_mod (int_ok cMod_ok) (se_var 3) se_int) (se_op op_mulD mul_ok (se_op op_mulD mul_ok se_int (se_var 1)) (se_var 1))) (se_op op_mulD mul_ok se_int (se_var 1))) se_int) sa_nil)) se_int) se_int) nd)
    (ss_one (ss_ret (se_lst (sa_cons (se_op op_mulD mul_ok (se_var 3) (se_callTy (call_int1) int1_ok (by rfl) T.n_int (by decide +kernel) (sa_cons (se_cmp (op_ge) icmp_ok (se_var 3) (se_op op_pow (int_ok cPow_ok) se_int se_int) (nomark _)) sa_nil))) (sa_cons (se_op op_mod (int_ok cMod_ok) (se_op op_mulD mul_ok (se_var 4) (se_var 4)) se_int) sa_nil))))))))
theorem ok_is_int {f : Addr} {fd : FuncData} (F : Fun K.K "is_int" "is_int" st_is_int f fd) (T : Tx P w K mg a_LIMITS_parameters a_LIMITS_programs) : FnOk P w K.K mg base (L2.CX P w) 1 f fd P_is_int (spD K d_is_int 1) :=
  have nd := sc_is_int.nd
  fn_ok F sc_is_int fun cdv A outer s H E hr =>
   (ss_one (ss_ret (se_and (se_isi (by rfl) T.n_isinstance (by rfl) T.n_int (by decide +kernel) (se_var 0)) (se_one (se_not (se_isi (by rfl) T.n_isinstance (by rfl) T.n_bool (by decide +kernel) (se_var 0)))))))
theorem ok_is_between {f : Addr} {fd : FuncData} (F : Fun K.K "is_between" "is_between" st_is_between f fd) (T : Tx P w K mg a_LIMITS_parameters a_LIMITS_programs) (C_is_int : Cal P w K mg base "is_int" st_is_int 1 P_is_int d_is_int) : FnOk P w K.K mg base (L2.CX P w) 2 f fd P_is_between (spD K d_is_between 3) :=
  have nd := sc_is_between.nd
  fn_ok F sc_is_between fun cdv A outer s H E hr =>
   (ss_one (ss_ret (se_and (se_callC C_is_int bd_is_int hr (by decide) (by rfl) (sa_cons (se_var 0) sa_nil)) (se_one (se_chain (op_le) icmp_ok (op_le) icmp_ok (se_var 1) (se_var 0) (se_var 2))))))
theorem ok_is_within {f : Addr} {fd : FuncData} (F : Fun K.K "is_within" "is_within" st_is_within f fd) (T : Tx P w K mg a_LIMITS_parameters a_LIMITS_programs) (C_is_between : Cal P w K mg base "is_between" st_is_between 2 P_is_between d_is_between) : FnOk P w K.K mg base (L2.CX P w) 3 f fd P_is_within (spD K d_is_within 2) :=
  have nd := sc_is_within.nd
  fn_ok F sc_is_within fun cdv A outer s H E hr =>
   (ss_cons (ss_asg (se_kix (by rfl) T.g_LIMITS_parameters T.t_LIMITS_parameters (se_var 0)) (sg_tup rfl (sgs_cons (sg_name 2 nd) (sgs_cons (sg_name 3 nd) sgs_nil))))
    (ss_one (ss_ret (se_callC C_is_between bd_is_between hr (by decide) (by rfl) (sa_cons (se_var 1) (sa_cons (se_var 2) (sa_cons (se_var 3) sa_nil)))))))
theorem ok_are_classes {f : Addr} {fd : FuncData} (F : Fun K.K "are_classes" "are_classes" st_are_classes f fd) (T : Tx P w K mg a_LIMITS_parameters a_LIMITS_programs) (C_is_between : Cal P w K mg base "is_between" st_is_between 2 P_is_between d_is_between) : FnOk P w K.K mg base (L2.CX P w) 3 f fd P_are_classes (spD K d_are_classes 1) :=
  have nd := sc_are_classes.nd
  fn_ok F sc_are_classes fun cdv A outer s H E hr =>
   (ss_cons (ss_if (sb_w (sw_or (sb_not (sb_val (se_isi2 (by rfl) T.n_isinstance (by rfl) T.n_list (by decide +kernel) (by rfl) T.n_tuple (by decide +kernel) (se_var 0)))) (sw_or1 (sb_not (sb_val (se_callC C_is_between bd_is_between hr (by decide) (by rfl) (sa_cons (se_callB (call_len) len_ok (by rfl) T.n_len (by decide +kernel) (sa_cons (se_var 0) sa_nil)) (sa_cons se_int (sa_cons (se_globX (by rfl) T.v_MOST_CLASSES) sa_nil))))))))) (ss_one (ss_ret se_bl)) ss_nil)
    (ss_one (ss_ret (se_callB (cr_all rfl) all_ok (by rfl) T.n_all (by decide +kernel) (sa_cons (se_lc (own := [("blocks", 1)]) rfl nd (si_any (se_var 0)) (blkOk_by (N := N_are_classes) (sc := defScope st_are_classes) (by decide +kernel)) (fun _ _ _ _ _ => (sg_name 1 nd)) (fun _ _ _ _ _ => sts_nil) (fun _ _ _ _ _ => (se_callC C_is_between bd_is_between hr (by decide) (by rfl) (sa_cons (se_var 1) (sa_cons se_int (sa_cons se_int sa_nil))))) (by decide)) sa_nil)))))
theorem ok_is_operation {f : Addr} {fd : FuncData} (F : Fun K.K "is_operation" "is_operation" st_is_operation f fd) (T : Tx P w K mg a_LIMITS_parameters a_LIMITS_programs) (C_is_between : Cal P w K mg base "is_between" st_is_between 2 P_is_between d_is_between) : FnOk P w K.K mg base (L2.CX P w) 3 f fd P_is_operation (spD K d_is_operation 1) :=
  have nd := sc_is_operation.nd
  fn_ok F sc_is_operation fun cdv A outer s H E hr =>
   (ss_cons (ss_if (sb_w (sw_or (sb_not (sb_val (se_isi (by rfl) T.n_isinstance (by rfl) T.n_tuple (by decide +kernel) (se_var 0)))) (sw_or (sb_cmp (op_eqD hr.units) eq_ok (se_callB (call_len) len_ok (by rfl) T.n_len (by decide +kernel) (sa_cons (se_var 0) sa_nil)) se_int (nomark _)) (sw_or1 (sb_not (sb_val (se_isi (by rfl) T.n_isinstance (by rfl) T.n_str (by decide +kernel) (se_itemX (se_dget (units1 hr) (se_var 0) se_int (fun _ _ => rfl)) (se_ix (se_var 0) se_int))))))))) (ss_one (ss_ret se_bl)) ss_nil)
    (ss_cons (ss_set 1 (se_kget (by rfl) T.g_LIMITS_programs T.t_LIMITS_programs (se_itemX (se_dget (units1 hr) (se_var 0) se_int (fun _ _ => rfl)) (se_ix (se_var 0) se_int)) ⟨rfl, rfl, rfl, rfl⟩) nd)
    (ss_cons (ss_if (sb_w (sw_or (sb_cmp (op_isX) is_ok (se_var 1) se_non (nomark _)) (sw_or1 (sb_cmp (op_neD hr.units) ne_ok (se_callB (call_len) len_ok (by rfl) T.n_len (by decide +kernel) (sa_cons (se_var 0) sa_nil)) (se_op op_addD add_ok (se_callB (call_len) len_ok (by rfl) T.n_len (by decide +kernel) (sa_cons (se_var 1) sa_nil)) se_int) (nomark _))))) (ss_one (ss_ret se_bl)) ss_nil)
    (ss_one (ss_ret (se_callB (cr_all rfl) all_ok (by rfl) T.n_all (by decide +kernel) (sa_cons (se_lc (own := [("high", 2), ("low", 3), ("number", 4)]) rfl nd (si_zip (by rfl) T.n_zip (sa_cons (se_slice (se_var 0) (so_yes se_int) so_no) (sa_cons (se_var 1) sa_nil))) (blkOk_by (N := N_is_operation) (sc := defScope st_is_operation) (by decide +kernel)) (fun _ _ _ _ _ => (sg_tup rfl (sgs_cons (sg_name 4 nd) (sgs_cons (sg_tup rfl (sgs_cons (sg_name 3 nd) (sgs_cons (sg_name 2 nd) sgs_nil))) sgs_nil)))) (fun _ _ _ _ _ => sts_nil) (fun _ _ _ _ _ => (se_callC C_is_between bd_is_between hr (by decide) (by rfl) (sa_cons (se_var 4) (sa_cons (se_var 3) (sa_cons (se_var 2) sa_nil))))) (by decide)) sa_nil)))))))
theorem ok_is_operation_of {f : Addr} {fd : FuncData} (F : Fun K.K "is_operation_of" "is_operation_of" st_is_operation_of f fd) (T : Tx P w K mg a_LIMITS_parameters a_LIMITS_programs) (C_is_operation : Cal P w K mg base "is_operation" st_is_operation 3 P_is_operation d_is_operation) : FnOk P w K.K mg base (L2.CX P w) 4 f fd P_is_operation_of (spD K d_is_operation_of 3) :=
  have nd := sc_is_operation_of.nd
  fn_ok F sc_is_operation_of fun cdv A outer s H E hr =>
   (ss_cons (ss_if (sb_not (sb_val (se_callC C_is_operation bd_is_operation hr (by decide) (by rfl) (sa_cons (se_var 0) sa_nil)))) (ss_one (ss_ret se_bl)) ss_nil)
    (ss_cons (ss_if (sb_w (sw_and (sb_cmp (op_eqD hr.units) eq_ok (se_itemX (se_dget (units1 hr) (se_var 0) se_int (fun _ _ => rfl)) (se_ix (se_var 0) se_int)) se_str (nomark _)) (sw_and1 (sb_cmp (op_ge) icmp_ok (se_itemX (se_dget (units1 hr) (se_var 0) se_int (fun _ _ => rfl)) (se_ix (se_var 0) se_int)) (se_var 1) (nomark _))))) (ss_one (ss_ret se_bl)) ss_nil)
    (ss_one (ss_ret (se_or (se_cmp (op_eqD hr.units) eq_ok (se_itemX (se_dget (units1 hr) (se_var 0) se_int (fun _ _ => rfl)) (se_ix (se_var 0) se_int)) se_str (nomark _)) (se_one (se_cmp (op_lt) icmp_ok (se_itemX (se_dget (units1 hr) (se_var 0) (se_neg se_int) (fun _ _ => rfl)) (se_ix (se_var 0) (se_neg se_int))) (se_var 2) (nomark _))))))))
theorem ok_is_thread {f : Addr} {fd : FuncData} (F : Fun K.K "is_thread" "is_thread" st_is_thread f fd) (T : Tx P w K mg a_LIMITS_parameters a_LIMITS_programs) (C_is_between : Cal P w K mg base "is_between" st_is_between 2 P_is_between d_is_between) (C_is_operation_of : Cal P w K mg base "is_operation_of" st_is_operation_of 4 P_is_operation_of d_is_operation_of) : FnOk P w K.K mg base (L2.CX P w) 5 f fd P_is_thread (spD K d_is_thread 4) :=
  have nd := sc_is_thread.nd
  fn_ok F sc_is_thread fun cdv A outer s H E hr =>
   (ss_cons (ss_if (sb_w (sw_or (sb_not (sb_val (se_isi (by rfl) T.n_isinstance (by rfl) T.n_tuple (by decide +kernel) (se_var 0)))) (sw_or1 (sb_cmp (op_neD hr.units) ne_ok (se_callB (call_len) len_ok (by rfl) T.n_len (by decide +kernel) (sa_cons (se_var 0) sa_nil)) se_int (nomark _))))) (ss_one (ss_ret se_bl)) ss_nil)
    (ss_cons (ss_asg (se_var 0) (sg_tup rfl (sgs_cons (sg_name 4 nd) (sgs_cons (sg_name 5 nd) sgs_nil))))
    (ss_cons (ss_if (sb_w (sw_or (sb_not (sb_val (se_callC C_is_between bd_is_between hr (by decide) (by rfl) (sa_cons (se_var 4) (sa_cons se_int (sa_cons (se_op op_sub int0_ok (se_var 1) se_int) sa_nil)))))) (sw_or1 (sb_not (sb_val (se_isi2 (by rfl) T.n_isinstance (by rfl) T.n_list (by decide +kernel) (by rfl) T.n_tuple (by decide +kernel) (se_var 5))))))) (ss_one (ss_ret se_bl)) ss_nil)
    (ss_cons (ss_if (sb_cmp (op_gt) icmp_ok (se_callB (call_len) len_ok (by rfl) T.n_len (by decide +kernel) (sa_cons (se_var 5) sa_nil)) (se_globX (by rfl) T.v_MOST_OPERATIONS) (nomark _)) (ss_one (ss_ret se_bl)) ss_nil)
    (ss_one (ss_ret (se_callB (cr_all rfl) all_ok (by rfl) T.n_all (by decide +kernel) (sa_cons (se_lc (own := [("operation", 6)]) rfl nd (si_any (se_var 5)) (blkOk_by (N := N_is_thread) (sc := defScope st_is_thread) (by decide +kernel)) (fun _ _ _ _ _ => (sg_name 6 nd)) (fun _ _ _ _ _ => sts_nil) (fun _ _ _ _ _ => (se_callC C_is_operation_of bd_is_operation_of hr (by decide) (by rfl) (sa_cons (se_var 6) (sa_cons (se_var 2) (sa_cons (se_var 3) sa_nil))))) (by decide)) sa_nil))))))))
theorem ok_are_threads {f : Addr} {fd : FuncData} (F : Fun K.K "are_threads" "are_threads" st_are_threads f fd) (T : Tx P w K mg a_LIMITS_parameters a_LIMITS_programs) (C_is_between : Cal P w K mg base "is_between" st_is_between 2 P_is_between d_is_between) (C_is_thread : Cal P w K mg base "is_thread" st_is_thread 5 P_is_thread d_is_thread) : FnOk P w K.K mg base (L2.CX P w) 6 f fd P_are_threads (spD K d_are_threads 4) :=
  have nd := sc_are_threads.nd
  fn_ok F sc_are_threads fun cdv A outer s H E hr =>
   (ss_cons (ss_if (sb_w (sw_or (sb_not (sb_val (se_isi2 (by rfl) T.n_isinstance (by rfl) T.n_list (by decide +kernel) (by rfl) T.n_tuple (by decide +kernel) (se_var 0)))) (sw_or1 (sb_not (sb_val (se_callC C_is_between bd_is_between hr (by decide) (by rfl) (sa_cons (se_callB (call_len) len_ok (by rfl) T.n_len (by decide +kernel) (sa_cons (se_var 0) sa_nil)) (sa_cons se_int (sa_cons (se_globX (by rfl) T.v_MOST_THREADS) sa_nil))))))))) (ss_one (ss_ret se_bl)) ss_nil)
    (ss_one (ss_ret (se_callB (cr_all rfl) all_ok (by rfl) T.n_all (by decide +kernel) (sa_cons (se_lc (own := [("thread", 4)]) rfl nd (si_any (se_var 0)) (blkOk_by (N := N_are_threads) (sc := defScope st_are_threads) (by decide +kernel)) (fun _ _ _ _ _ => (sg_name 4 nd)) (fun _ _ _ _ _ => sts_nil) (fun _ _ _ _ _ => (se_callC C_is_thread bd_is_thread hr (by decide) (by rfl) (sa_cons (se_var 4) (sa_cons (se_var 1) (sa_cons (se_var 2) (sa_cons (se_var 3) sa_nil)))))) (by decide)) sa_nil)))))
theorem ok_wrong_parameter {f : Addr} {fd : FuncData} (F : Fun K.K "wrong_parameter" "wrong_parameter" st_wrong_parameter f fd) (T : Tx P w K mg a_LIMITS_parameters a_LIMITS_programs) (C_is_within : Cal P w K mg base "is_within" st_is_within 3 P_is_within d_is_within) (C_are_classes : Cal P w K mg base "are_classes" st_are_classes 3 P_are_classes d_are_classes) (C_are_threads : Cal P w K mg base "are_threads" st_are_threads 6 P_are_threads d_are_threads) : FnOk P w K.K mg base (L2.CX P w) 7 f fd P_wrong_parameter (spD K d_wrong_parameter 9) :=
  have nd := sc_wrong_parameter.nd
  fn_ok F sc_wrong_parameter fun cdv A outer s H E hr =>
   (ss_cons (ss_if (sb_not (sb_val (se_callC C_is_within bd_is_within hr (by decide) (by rfl) (sa_cons se_str (sa_cons (se_var 0) sa_nil))))) (ss_one (ss_ret se_str)) ss_nil)
    (ss_cons (ss_if (sb_not (sb_val (se_callC C_are_classes bd_are_classes hr (by decide) (by rfl) (sa_cons (se_var 1) sa_nil)))) (ss_one (ss_ret se_str)) ss_nil)
    (ss_cons (ss_set 9 (se_if (sb_val (se_callC C_is_within bd_is_within hr (by decide) (by rfl) (sa_cons se_str (sa_cons (se_var 6) sa_nil)))) (se_var 6) (se_itemX (se_dget (units1 hr) (se_kix (by rfl) T.g_LIMITS_parameters T.t_LIMITS_parameters se_str) se_int (fun _ _ => rfl)) (se_ix (se_kix (by rfl) T.g_LIMITS_parameters T.t_LIMITS_parameters se_str) se_int))) nd)
    (ss_cons (ss_if (sb_not (sb_val (se_callC C_are_threads bd_are_threads hr (by decide) (by rfl) (sa_cons (se_var 2) (sa_cons (se_var 0) (sa_cons (se_callB (call_len) len_ok (by rfl) T.n_len (by decide +kernel) (sa_cons (se_var 1) sa_nil)) (sa_cons (se_var 9) sa_nil))))))) (ss_one (ss_ret se_str)) ss_nil)
    (ss_cons (ss_set 10 (se_disp (sps_cons se_str (se_var 3) (sps_cons se_str (se_var 4) (sps_cons se_str (se_var 5) (sps_cons se_str (se_var 6) (sps_cons se_str (se_var 7) sps_nil)))))) nd)
    (ss_cons (ss_items 10 (passes_of rfl) rfl (sg_tup rfl (sgs_cons (sg_name 11 nd) (sgs_cons (sg_name 12 nd) sgs_nil))) (ss_one (ss_if (sb_not (sb_val (se_callC C_is_within bd_is_within hr (by decide) (by rfl) (sa_cons (se_var 11) (sa_cons (se_var 12) sa_nil))))) (ss_one (ss_ret (se_var 11))) ss_nil)))
    (ss_one (ss_ret (se_if (sb_inX (sb_din (units1 hr) (se_var 8) (se_globX (by rfl) T.v_FAULTS) (by rfl)) (sb_cmp op_in_sign sin_ok (se_var 8) (se_globX (by rfl) T.v_FAULTS) (by rfl)) (sb_cmp (op_inE (units65 hr)) in_ok (se_var 8) (se_globX (by rfl) T.v_FAULTS) (by rfl))) se_non se_str)))))))))
theorem ok_copied_threads {f : Addr} {fd : FuncData} (F : Fun K.K "copied_threads" "copied_threads" st_copied_threads f fd) (T : Tx P w K mg a_LIMITS_parameters a_LIMITS_programs) : FnOk P w K.K mg base (L2.CX P w) 1 f fd P_copied_threads (spD K d_copied_threads 1) :=
  have nd := sc_copied_threads.nd
  fn_ok F sc_copied_threads fun cdv A outer s H E hr =>
   (ss_one (ss_ret (se_callTy (call_tupleF) tuple1_ok (by rfl) T.n_tuple (by decide +kernel) (sa_cons (se_lc (own := [("program", 1), ("socket", 2)]) rfl nd (si_any (se_var 0)) (blkOk_by (N := N_copied_threads) (sc := defScope st_copied_threads) (by decide +kernel)) (fun _ _ _ _ _ => (sg_tup rfl (sgs_cons (sg_name 2 nd) (sgs_cons (sg_name 1 nd) sgs_nil)))) (fun _ _ _ _ _ => sts_nil) (fun _ _ _ _ _ => (se_tup (sa_cons (se_var 2) (sa_cons (se_callTy (call_tupleF) tuple1_ok (by rfl) T.n_tuple (by decide +kernel) (sa_cons (se_var 1) sa_nil)) sa_nil)))) (by decide)) sa_nil))))
theorem ok_first_thread {f : Addr} {fd : FuncData} (F : Fun K.K "first_thread" "first_thread" st_first_thread f fd) (T : Tx P w K mg a_LIMITS_parameters a_LIMITS_programs) : FnOk P w K.K mg base (L2.CX P w) 1 f fd P_first_thread (spD K d_first_thread 3) :=
  have nd := sc_first_thread.nd
  fn_ok F sc_first_thread fun cdv A outer s H E hr =>
   (ss_cons (ss_set 3 (se_op op_mulD mul_ok (se_tup (sa_cons (se_tup sa_nil) sa_nil)) (se_var 2)) nd)
    (ss_cons (ss_set 4 (se_op op_mulD mul_ok (se_tup (sa_cons (se_var 3) sa_nil)) (se_var 1)) nd)
    (ss_cons (ss_if (sb_cmp (op_eqD hr.units) eq_ok (se_callB (call_len) len_ok (by rfl) T.n_len (by decide +kernel) (sa_cons (se_var 0) sa_nil)) se_int (nomark _)) (ss_one (ss_ret (se_tup (sa_cons se_str (sa_cons se_int (sa_cons se_str (sa_cons (se_tup sa_nil) (sa_cons (se_var 3) (sa_cons (se_var 4) sa_nil))))))))) ss_nil)
    (ss_one (ss_ret (se_tup (sa_cons se_str (sa_cons se_int (sa_cons se_str (sa_cons (se_tup sa_nil) (sa_cons (se_var 3) (sa_cons (se_var 4) sa_nil))))))))))))
theorem ok_State___init__ {f : Addr} {fd : FuncData} (F : Fun K.K "__init__" "State.__init__" st_State___init__ f fd) (T : Tx P w K mg a_LIMITS_parameters a_LIMITS_programs) (L__pages : Flds K "_pages" cs__pages) (L__slots : Flds K "_slots" cs__slots) (L__threads : Flds K "_threads" cs__threads) (L__arrivals : Flds K "_arrivals" cs__arrivals) (L__flight : Flds K "_flight" cs__flight) (L__key : Flds K "_key" cs__key) : FnOk P w K.K mg base (L2.CX P w) 3 f fd P_State___init__ (spD K d_State___init__ 6) :=
  have nd := sc_State___init__.nd
  fn_ok F sc_State___init__ fun cdv A outer s H E hr =>
   (ss_cons (ss_fld (se_var 0) (se_var 1) L__pages)
    (ss_cons (ss_fld (se_var 0) (se_var 2) L__slots)
    (ss_cons (ss_fld (se_var 0) (se_var 3) L__threads)
    (ss_cons (ss_fld (se_var 0) (se_var 4) L__arrivals)
    (ss_cons (ss_fld (se_var 0) (se_var 5) L__flight)
    (ss_one (ss_fld (se_var 0) (se_tup (sa_cons (se_var 1) (sa_cons (se_var 2) (sa_cons (se_var 3) (sa_cons (se_var 4) (sa_cons (se_var 5) sa_nil)))))) L__key)))))))
theorem ok_first_state {f : Addr} {fd : FuncData} (F : Fun K.K "first_state" "first_state" st_first_state f fd) (T : Tx P w K mg a_LIMITS_parameters a_LIMITS_programs) (C_first_thread : Cal P w K mg base "first_thread" st_first_thread 1 P_first_thread d_first_thread) (A_classes : Atts P w K mg base "classes" tabA_classes) (A_threads : Atts P w K mg base "threads" tabA_threads) (A_sockets : Atts P w K mg base "sockets" tabA_sockets) (A_pages : Atts P w K mg base "pages" tabA_pages) (A_slots : Atts P w K mg base "slots" tabA_slots) (NW_State : Cl1 P w K mg base "State" 1 3 P_State___init__ d_State___init__) : FnOk P w K.K mg base (L2.CX P w) 5 f fd P_first_state (spD K d_first_state 1) :=
  have nd := sc_first_state.nd
  fn_ok F sc_first_state fun cdv A outer s H E hr =>
   (ss_cons (ss_set 1 (se_callB (call_len) len_ok (by rfl) T.n_len (by decide +kernel) (sa_cons (se_att (se_var 0) A_classes hr (by decide)) sa_nil)) nd)
    (ss_cons (ss_setLc 2 (own := [("_", 6), ("program", 7)]) rfl nd (si_any (se_att (se_var 0) A_threads hr (by decide))) (blkOk_by (N := N_first_state) (sc := defScope st_first_state) (by decide +kernel)) (fun _ _ _ _ _ => (sg_tup rfl (sgs_cons (sg_name 6 nd) (sgs_cons (sg_name 7 nd) sgs_nil)))) (fun _ _ _ _ _ => sts_nil) (fun _ _ _ _ _ => (se_callC C_first_thread bd_first_thread hr (by decide) (by rfl) (sa_cons (se_var 7) (sa_cons (se_att (se_var 0) A_sockets hr (by decide)) (sa_cons (se_var 1) sa_nil))))) (by decide))
    (ss_cons (ss_set 3 (se_op op_mulD mul_ok (se_tup (sa_cons (se_globX (by rfl) T.v_STORE) sa_nil)) (se_att (se_var 0) A_pages hr (by decide))) nd)
    (ss_cons (ss_set 4 (se_op op_mulD mul_ok (se_tup (sa_cons se_non sa_nil)) (se_att (se_var 0) A_slots hr (by decide))) nd)
    (ss_cons (ss_set 5 (se_op op_mulD mul_ok (se_tup (sa_cons (se_tup sa_nil) sa_nil)) (se_att (se_var 0) A_sockets hr (by decide))) nd)
    (ss_one (ss_ret (se_new NW_State (fun _ _ hC t => Tri.newD hC t) hr (by decide) (by rfl) (sa_cons (se_var 3) (sa_cons (se_var 4) (sa_cons (se_callTy (call_tupleF) tuple1_ok (by rfl) T.n_tuple (by decide +kernel) (sa_cons (se_var 2) sa_nil)) (sa_cons (se_var 5) (sa_cons (se_tup sa_nil) sa_nil)))))))))))))
theorem ok_Machine___init__ {f : Addr} {fd : FuncData} (F : Fun K.K "__init__" "Machine.__init__" st_Machine___init__ f fd) (T : Tx P w K mg a_LIMITS_parameters a_LIMITS_programs) (XE_InvalidMachine : Exc P w K mg base "InvalidMachine" 0 "name") (C_wrong_parameter : Cal P w K mg base "wrong_parameter" st_wrong_parameter 7 P_wrong_parameter d_wrong_parameter) (C_copied_threads : Cal P w K mg base "copied_threads" st_copied_threads 1 P_copied_threads d_copied_threads) (C_first_state : Cal P w K mg base "first_state" st_first_state 5 P_first_state d_first_state) (A__threads : Atts P w K mg base "_threads" tabA__threads) (A__classes : Atts P w K mg base "_classes" tabA__classes) (L__sockets : Flds K "_sockets" cs__sockets) (L__classes : Flds K "_classes" cs__classes) (L__threads : Flds K "_threads" cs__threads) (L__pages : Flds K "_pages" cs__pages) (L__batch : Flds K "_batch" cs__batch) (L__spare : Flds K "_spare" cs__spare) (L__slots : Flds K "_slots" cs__slots) (L__stops : Flds K "_stops" cs__stops) (L__fault : Flds K "_fault" cs__fault) (L__all : Flds K "_all" cs__all) (L__start : Flds K "_start" cs__start) : FnOk P w K.K mg base (L2.CX P w) 8 f fd P_Machine___init__ (spD K d_Machine___init__ 10) :=
  have nd := sc_Machine___init__.nd
  fn_ok F sc_Machine___init__ fun cdv A outer s H E hr =>
   (ss_cons (ss_set 10 (se_callC C_wrong_parameter bd_wrong_parameter hr (by decide) (by rfl) (sa_cons (se_var 1) (sa_cons (se_var 2) (sa_cons (se_var 3) (sa_cons (se_var 4) (sa_cons (se_var 5) (sa_cons (se_var 6) (sa_cons (se_var 7) (sa_cons (se_var 8) (sa_cons (se_var 9) sa_nil)))))))))) nd)
    (ss_cons (ss_if (sb_cmp (op_isNX) isNot_ok (se_var 10) se_non (nomark _)) (ss_one (ss_raiseX XE_InvalidMachine rfl hr (by decide) (by rfl) (se_var 10))) ss_nil)
    (ss_cons (ss_fld (se_var 0) (se_var 1) L__sockets)
    (ss_cons (ss_fld (se_var 0) (se_callTy (call_tupleF) tuple1_ok (by rfl) T.n_tuple (by decide +kernel) (sa_cons (se_var 2) sa_nil)) L__classes)
    (ss_cons (ss_fld (se_var 0) (se_callC C_copied_threads bd_copied_threads hr (by decide) (by rfl) (sa_cons (se_var 3) sa_nil)) L__threads)
    (ss_cons (ss_fld (se_var 0) (se_var 4) L__pages)
    (ss_cons (ss_fld (se_var 0) (se_var 5) L__batch)
    (ss_cons (ss_fld (se_var 0) (se_var 6) L__spare)
    (ss_cons (ss_fld (se_var 0) (se_var 7) L__slots)
    (ss_cons (ss_fld (se_var 0) (se_var 8) L__stops)
    (ss_cons (ss_fld (se_var 0) (se_var 9) L__fault)
    (ss_cons (ss_set 11 (se_tup (sa_cons (se_var 4) (sa_cons (se_var 5) (sa_cons (se_var 6) (sa_cons (se_var 7) (sa_cons (se_var 8) sa_nil)))))) nd)
    (ss_cons (ss_fld (se_var 0) (se_tup (sa_cons (se_var 1) (sa_cons (se_att (se_var 0) A__classes hr (by decide)) (sa_cons (se_att (se_var 0) A__threads hr (by decide)) (sa_cons (se_var 11) (sa_cons (se_var 9) sa_nil)))))) L__all)
    (ss_one (ss_fld (se_var 0) (se_callC C_first_state bd_first_state hr (by decide) (by rfl) (sa_cons (se_var 0) sa_nil)) L__start)))))))))))))))
theorem ok__law_said {f : Addr} {fd : FuncData} (F : Fun K.K "_law_said" "_law_said" st__law_said f fd) (T : Tx P w K mg a_LIMITS_parameters a_LIMITS_programs) (XE_InvalidMachine : Exc P w K mg base "InvalidMachine" 0 "name") (NW_kf_Machine_3_pages_batch_spare_slots_stops_fault : ClK P w K mg base "Machine" 2 8 3 P_Machine___init__ kf_Machine_3_pages_batch_spare_slots_stops_fault_ks d_Machine___init__ kf_Machine_3_pages_batch_spare_slots_stops_fault_gV kf_Machine_3_pages_batch_spare_slots_stops_fault_gR kf_Machine_3_pages_batch_spare_slots_stops_fault_g) : FnOk P w K.K mg base (L2.CX P w) 10 f fd P__law_said (spD K d__law_said 1) :=
  have nd := sc__law_said.nd
  fn_ok F sc__law_said fun cdv A outer s H E hr =>
   (ss_cons (ss_tryX (tab := tab_InvalidMachine) T.m_InvalidMachine rfl rfl nd rfl rfl (by rfl) (fun W pn xe tk hp =>
    (ss_cons (ss_par 1 2 rfl nd (sa_cons (se_slice (se_var 0) so_no (so_yes se_int)) (sa_cons (se_slice (se_var 0) (so_yes se_int) so_no) sa_nil)))
    (ss_one (ss_expr (se_newK NW_kf_Machine_3_pages_batch_spare_slots_stops_fault (fun _ _ hC t => Tri.newD hC t) hr (by decide) (by rfl) (sa_cons (se_itemX (se_dget (units1 hr) (se_var 1) se_int (fun _ _ => rfl)) (se_ix (se_var 1) se_int)) (sa_cons (se_itemX (se_dget (units1 hr) (se_var 1) se_int (fun _ _ => rfl)) (se_ix (se_var 1) se_int)) (sa_cons (se_itemX (se_dget (units1 hr) (se_var 1) se_int (fun _ _ => rfl)) (se_ix (se_var 1) se_int)) sa_nil))) (sk_cons (se_itemX (se_dget (units1 hr) (se_var 2) se_int (fun _ _ => rfl)) (se_ix (se_var 2) se_int)) (sk_cons (se_itemX (se_dget (units1 hr) (se_var 2) se_int (fun _ _ => rfl)) (se_ix (se_var 2) se_int)) (sk_cons (se_itemX (se_dget (units1 hr) (se_var 2) se_int (fun _ _ => rfl)) (se_ix (se_var 2) se_int)) (sk_cons (se_itemX (se_dget (units1 hr) (se_var 2) se_int (fun _ _ => rfl)) (se_ix (se_var 2) se_int)) (sk_cons (se_itemX (se_dget (units1 hr) (se_var 2) se_int (fun _ _ => rfl)) (se_ix (se_var 2) se_int)) (sk_cons (se_itemX (se_dget (units1 hr) (se_var 2) se_int (fun _ _ => rfl)) (se_ix (se_var 2) se_int)) sk_nil)))))))))))
    (fun a oe k C d fs pn hC hz hf hk => (ss_one (ss_ret (se_lst (sa_cons (se_xfX 3 XE_InvalidMachine hC hk hz hf) (sa_cons (se_isX 3 XE_InvalidMachine T.m_HeapError hC hk hz hf (by rfl) T.n_isinstance (by rfl)) sa_nil))))))
    (by intro C fs a ρ S hl hm; simp [mXf, mIsX, hl] <;> cases List.lookup ("name" : Str) fs <;> cases tab_HeapError.lookup C <;> simp [wipeF] <;> (repeat' split) <;> simp_all [wipeF]))
    (ss_one (ss_ret (se_lst sa_nil))))
theorem ok__law_take {f : Addr} {fd : FuncData} (F : Fun K.K "_law_take" "_law_take" st__law_take f fd) (T : Tx P w K mg a_LIMITS_parameters a_LIMITS_programs) : FnOk P w K.K mg base (L2.CX P w) 1 f fd P__law_take (spD K d__law_take 2) :=
  have nd := sc__law_take.nd
  fn_ok F sc__law_take fun cdv A outer s H E hr =>
   (ss_cons (ss_if (sb_cmp (op_gt) icmp_ok (se_ix (se_var 0) se_int) se_int (nomark _)) (ss_cons (ss_set 2 (se_op op_mod (int_ok cMod_ok) (se_callTy (call_int1) int1_ok (by rfl) T.n_int (by decide +kernel) (sa_cons (se_ix (se_var 0) se_int) sa_nil)) (se_var 1)) nd)
    (ss_cons (ss_asg (se_op op_fdiv (int_ok cDiv_ok) (se_ix (se_var 0) se_int) (se_var 1)) (sg_sub (se_var 0) se_int))
    (ss_one (ss_ret (se_var 2))))) ss_nil)
    (ss_cons (ss_asg (se_op op_mod (int_ok cMod_ok) (se_callTy (call_int1) int1_ok (by rfl) T.n_int (by decide +kernel) (sa_cons (se_op op_addD add_ok (se_op op_mulD mul_ok (se_ix (se_var 0) se_int) se_int) se_int) sa_nil)) se_int) (sg_sub (se_var 0) se_int))
    (ss_one (ss_ret (se_op op_mod (int_ok cMod_ok) (se_op op_fdiv (int_ok cDiv_ok) (se_op op_mod (int_ok cMod_ok) (se_callTy (call_int1) int1_ok (by rfl) T.n_int (by decide +kernel) (sa_cons (se_op op_mulD mul_ok (se_ix (se_var 0) se_int) (se_ix (se_var 0) se_int)) sa_nil)) se_int) se_int) (se_var 1))))))
theorem ok__law_menu {f : Addr} {fd : FuncData} (F : Fun K.K "_law_menu" "_law_menu" st__law_menu f fd) (T : Tx P w K mg a_LIMITS_parameters a_LIMITS_programs) : FnOk P w K.K mg base (L2.CX P w) 1 f fd P__law_menu (spD K d__law_menu 1) :=
  have nd := sc__law_menu.nd
  fn_ok F sc__law_menu fun cdv A outer s H E hr =>
   (ss_cons (ss_if (sb_cmp (op_eqD hr.units) eq_ok (se_var 0) se_int (nomark _)) (ss_one (ss_ret (se_lst (sa_cons se_int (sa_cons se_int (sa_cons se_bl (sa_cons se_non (sa_cons se_str (sa_cons (se_lst (sa_cons se_int sa_nil)) sa_nil))))))))) ss_nil)
    (ss_cons (ss_if (sb_cmp (op_eqD hr.units) eq_ok (se_var 0) se_int (nomark _)) (ss_one (ss_ret (se_lst (sa_cons (se_tup sa_nil) (sa_cons (se_lst (sa_cons se_int (sa_cons se_int (sa_cons se_int (sa_cons se_int sa_nil))))) (sa_cons (se_lst (sa_cons se_int sa_nil)) (sa_cons (se_lst (sa_cons se_int sa_nil)) (sa_cons (se_lst (sa_cons se_bl sa_nil)) (sa_cons (se_lst (sa_cons se_non sa_nil)) (sa_cons se_non (sa_cons se_int (sa_cons se_str (sa_cons (se_lst (sa_cons se_int (sa_cons se_int sa_nil))) (sa_cons (se_tup (sa_cons (se_tup (sa_cons se_int sa_nil)) sa_nil)) sa_nil)))))))))))))) ss_nil)
    (ss_cons (ss_if (sb_cmp (op_eqD hr.units) eq_ok (se_var 0) se_int (nomark _)) (ss_cons (ss_set 1 (se_lst (sa_cons (se_lst sa_nil) (sa_cons se_non (sa_cons se_int (sa_cons (se_lst (sa_cons se_non sa_nil)) (sa_cons (se_lst (sa_cons (se_tup (sa_cons se_int sa_nil)) sa_nil)) (sa_cons (se_lst (sa_cons (se_lst (sa_cons se_int (sa_cons (se_lst sa_nil) sa_nil))) sa_nil)) (sa_cons (se_lst (sa_cons (se_tup (sa_cons se_int (sa_cons (se_lst sa_nil) sa_nil))) sa_nil)) (sa_cons (se_lst (sa_cons (se_tup (sa_cons se_int (sa_cons se_non sa_nil))) sa_nil)) sa_nil))))))))) nd)
    (ss_cons (ss_set 1 (se_op op_addD add_ok (se_var 1) (se_lst (sa_cons (se_lst (sa_cons (se_tup (sa_cons se_int (sa_cons (se_op op_mulD mul_ok (se_lst (sa_cons (se_tup (sa_cons se_str sa_nil)) sa_nil)) se_int) sa_nil))) sa_nil)) (sa_cons (se_lst (sa_cons (se_tup (sa_cons (se_neg se_int) (sa_cons (se_tup sa_nil) sa_nil))) sa_nil)) sa_nil)))) nd)
    (ss_cons (ss_set 1 (se_op op_addD add_ok (se_var 1) (se_lst (sa_cons (se_lst (sa_cons (se_tup (sa_cons se_int (sa_cons (se_lst (sa_cons (se_tup (sa_cons se_str (sa_cons se_int (sa_cons se_int sa_nil)))) sa_nil)) sa_nil))) sa_nil)) (sa_cons (se_lst (sa_cons (se_tup (sa_cons se_int (sa_cons (se_lst (sa_cons (se_tup (sa_cons se_str (sa_cons se_int sa_nil))) sa_nil)) sa_nil))) sa_nil)) (sa_cons (se_lst (sa_cons (se_tup (sa_cons se_int (sa_cons (se_lst (sa_cons (se_tup (sa_cons se_str (sa_cons se_int (sa_cons se_int sa_nil)))) sa_nil)) sa_nil))) sa_nil)) sa_nil))))) nd)
    (ss_cons (ss_set 1 (se_op op_addD add_ok (se_var 1) (se_lst (sa_cons (se_lst (sa_cons (se_tup (sa_cons se_bl (sa_cons (se_tup sa_nil) sa_nil))) sa_nil)) sa_nil))) nd)
    (ss_one (ss_ret (se_op op_addD add_ok (se_var 1) (se_lst (sa_cons (se_op op_mulD mul_ok (se_lst (sa_cons (se_tup (sa_cons se_int (sa_cons (se_tup sa_nil) sa_nil))) sa_nil)) se_int) (sa_cons (se_lst (sa_cons (se_tup (sa_cons se_int (sa_cons (se_lst (sa_cons (se_tup (sa_cons se_str (sa_cons se_int sa_nil))) sa_nil)) sa_nil))) sa_nil)) (sa_cons (se_lst (sa_cons (se_tup (sa_cons se_int (sa_cons (se_lst sa_nil) sa_nil))) (sa_cons (se_tup (sa_cons se_int (sa_cons (se_lst (sa_cons (se_lst (sa_cons se_str sa_nil)) sa_nil)) sa_nil))) sa_nil))) (sa_cons se_str (sa_cons (se_tup (sa_cons (se_tup (sa_cons se_int (sa_cons (se_tup sa_nil) sa_nil))) (sa_cons se_int sa_nil))) sa_nil))))))))))))) ss_nil)
    (ss_cons (ss_set 2 (se_lst (sa_cons (se_tup (sa_cons se_int (sa_cons se_int sa_nil))) (sa_cons (se_tup (sa_cons se_int (sa_cons se_int sa_nil))) (sa_cons (se_tup (sa_cons se_int (sa_cons se_int sa_nil))) (sa_cons (se_tup (sa_cons se_int (sa_cons se_int sa_nil))) (sa_cons (se_tup (sa_cons se_int (sa_cons se_int sa_nil))) sa_nil)))))) nd)
    (ss_cons (ss_if (sb_cmp (op_lt) icmp_ok (se_var 0) se_int (nomark _)) (ss_cons (ss_asg (se_itemX (se_dget (units1 hr) (se_var 2) (se_op op_sub int0_ok (se_var 0) se_int) (fun _ _ => rfl)) (se_ix (se_var 2) (se_op op_sub int0_ok (se_var 0) se_int))) (sg_tup rfl (sgs_cons (sg_name 3 nd) (sgs_cons (sg_name 4 nd) sgs_nil))))
    (ss_one (ss_ret (se_lst (sa_cons (se_op op_sub int0_ok (se_var 3) se_int) (sa_cons (se_op op_addD add_ok (se_var 4) se_int) (sa_cons se_non (sa_cons se_str (sa_cons se_bl (sa_cons (se_lst (sa_cons (se_var 3) sa_nil)) (sa_cons (se_op op_pow (int_ok cPow_ok) se_int se_int) sa_nil))))))))))) ss_nil)
    (ss_one (ss_ret (se_lst (sa_cons se_str (sa_cons se_str (sa_cons se_int (sa_cons se_bl (sa_cons se_str (sa_cons (se_lst (sa_cons se_str sa_nil)) (sa_cons (se_tup (sa_cons se_str sa_nil)) sa_nil)))))))))))))))
theorem ok_law {f : Addr} {fd : FuncData} (F : Fun K.K "law" "law" st_law f fd) (T : Tx P w K mg a_LIMITS_parameters a_LIMITS_programs) (C__law_pool : Cal P w K mg base "_law_pool" st__law_pool 1 P__law_pool d__law_pool) (C__law_said : Cal P w K mg base "_law_said" st__law_said 10 P__law_said d__law_said) (C__law_take : Cal P w K mg base "_law_take" st__law_take 1 P__law_take d__law_take) (C__law_menu : Cal P w K mg base "_law_menu" st__law_menu 1 P__law_menu d__law_menu) : FnOk P w K.K mg base (L2.CX P w) 11 f fd P_law (spD K d_law 1) :=
  have nd := sc_law.nd
  fn_ok F sc_law fun cdv A outer s H E hr =>
   (ss_cons (ss_set 1 (se_lst (sa_cons se_str (sa_cons se_str (sa_cons se_str (sa_cons se_str (sa_cons se_str (sa_cons se_str (sa_cons se_str (sa_cons se_str (sa_cons se_str sa_nil)))))))))) nd)
    (ss_cons (ss_set 2 (se_lst (sa_cons se_int (sa_cons (se_lst (sa_cons se_int (sa_cons se_int sa_nil))) (sa_cons (se_lst (sa_cons (se_tup (sa_cons se_int (sa_cons (se_lst (sa_cons (se_tup (sa_cons se_str (sa_cons se_int (sa_cons se_int sa_nil)))) (sa_cons (se_tup (sa_cons se_str (sa_cons se_int sa_nil))) sa_nil))) sa_nil))) (sa_cons (se_tup (sa_cons se_int (sa_cons (se_tup sa_nil) sa_nil))) sa_nil))) (sa_cons se_int (sa_cons se_int (sa_cons se_int (sa_cons se_int (sa_cons se_int (sa_cons se_non sa_nil)))))))))) nd)
    (sss_boxR (fun _ _ => trivial) (ss_cons (ss_for (passes_of rfl) rfl (si_range1 (by rfl) T.n_range (sa_cons (se_callB (call_max2 rfl) max2_ok (by rfl) T.n_max (by decide +kernel) (sa_cons se_int (sa_cons (se_callB (call_min2 rfl) min2_ok (by rfl) T.n_min (by decide +kernel) (sa_cons se_int (sa_cons (se_callB (call_len) len_ok (by rfl) T.n_len (by decide +kernel) (sa_cons (se_var 0) sa_nil)) sa_nil))) sa_nil))) sa_nil)) (sg_name 3 nd) (ss_cons (ss_set 4 (se_callT C__law_pool (Tri.callM Tri.call) bd__law_pool hr (by decide) (by rfl) (sa_cons (se_var 0) (sa_cons (se_var 3) sa_nil))) nd)
    (ss_cons (ss_if (sb_cmp (op_neD hr.units) ne_ok (se_callT C__law_said (Tri.callM Tri.call) bd__law_said hr (by decide) (by rfl) (sa_cons (se_op op_addD add_ok (se_slice (se_var 2) so_no (so_yes se_int)) (se_lst (sa_cons (se_itemX (se_dget (units1 hr) (se_lst (sa_cons se_non (sa_cons se_str (sa_cons se_str (sa_cons se_str sa_nil))))) (se_callT C__law_take (Tri.callM Tri.call) bd__law_take hr (by decide) (by rfl) (sa_cons (se_var 4) (sa_cons se_int sa_nil))) (fun _ _ => rfl)) (se_ix (se_lst (sa_cons se_non (sa_cons se_str (sa_cons se_str (sa_cons se_str sa_nil))))) (se_callT C__law_take (Tri.callM Tri.call) bd__law_take hr (by decide) (by rfl) (sa_cons (se_var 4) (sa_cons se_int sa_nil))))) sa_nil))) sa_nil)) (se_lst sa_nil) (nomark _)) (ss_one (ss_ret se_bl)) ss_nil)
    (ss_cons (ss_set 5 (se_callT C__law_take (Tri.callM Tri.call) bd__law_take hr (by decide) (by rfl) (sa_cons (se_var 4) (sa_cons se_int sa_nil))) nd)
    (ss_cons (ss_set 6 (se_callTy (call_list_of) list1_ok (by rfl) T.n_list (by decide +kernel) (sa_cons (se_var 2) sa_nil)) nd)
    (ss_cons (ss_for (passes_of rfl) rfl (si_range2 (by rfl) T.n_range (sa_cons (se_var 5) (sa_cons se_int sa_nil))) (sg_name 7 nd) (ss_cons (ss_set 8 (se_callT C__law_menu (Tri.callM Tri.call) bd__law_menu hr (by decide) (by rfl) (sa_cons (se_var 7) sa_nil)) nd)
    (ss_one (ss_if (sb_w (sw_or (sb_cmp (op_eqD hr.units) eq_ok (se_var 7) (se_var 5) (nomark _)) (sw_or1 (sb_w (sw_and (sb_w (sw_or (sb_cmp (op_neD hr.units) ne_ok (se_var 5) se_int (nomark _)) (sw_or1 (sb_cmp (op_neD hr.units) ne_ok (se_var 7) se_int (nomark _))))) (sw_and1 (sb_cmp (op_eqD hr.units) eq_ok (se_callT C__law_take (Tri.callM Tri.call) bd__law_take hr (by decide) (by rfl) (sa_cons (se_var 4) (sa_cons se_int sa_nil))) se_int (nomark _)))))))) (ss_one (ss_putX (ss_dput (units1 hr) (se_var 6) (se_var 7) (se_itemX (se_dget (units1 hr) (se_var 8) (se_callT C__law_take (Tri.callM Tri.call) bd__law_take hr (by decide) (by rfl) (sa_cons (se_var 4) (sa_cons (se_callB (call_len) len_ok (by rfl) T.n_len (by decide +kernel) (sa_cons (se_var 8) sa_nil)) sa_nil))) (fun _ _ => rfl)) (se_ix (se_var 8) (se_callT C__law_take (Tri.callM Tri.call) bd__law_take hr (by decide) (by rfl) (sa_cons (se_var 4) (sa_cons (se_callB (call_len) len_ok (by rfl) T.n_len (by decide +kernel) (sa_cons (se_var 8) sa_nil)) sa_nil)))))) (ss_asg (se_itemX (se_dget (units1 hr) (se_var 8) (se_callT C__law_take (Tri.callM Tri.call) bd__law_take hr (by decide) (by rfl) (sa_cons (se_var 4) (sa_cons (se_callB (call_len) len_ok (by rfl) T.n_len (by decide +kernel) (sa_cons (se_var 8) sa_nil)) sa_nil))) (fun _ _ => rfl)) (se_ix (se_var 8) (se_callT C__law_take (Tri.callM Tri.call) bd__law_take hr (by decide) (by rfl) (sa_cons (se_var 4) (sa_cons (se_callB (call_len) len_ok (by rfl) T.n_len (by decide +kernel) (sa_cons (se_var 8) sa_nil)) sa_nil))))) (sg_sub (se_var 6) (se_var 7))))) ss_nil))))
    (ss_one (ss_if (sb_cmp (op_neD hr.units) ne_ok (se_callT C__law_said (Tri.callM Tri.call) bd__law_said hr (by decide) (by rfl) (sa_cons (se_var 6) sa_nil)) (se_lst (sa_cons (se_itemX (se_dget (units1 hr) (se_var 1) (se_var 5) (fun _ _ => rfl)) (se_ix (se_var 1) (se_var 5))) (sa_cons se_bl sa_nil))) (nomark _)) (ss_one (ss_ret se_bl)) ss_nil))))))))
    (sss_boxR (fun _ _ => trivial) (ss_cons (ss_set 6 (se_op op_addD add_ok (se_op op_addD add_ok (se_slice (se_var 2) so_no (so_yes se_int)) (se_lst (sa_cons (se_lst (sa_cons (se_tup (sa_cons se_int (sa_cons (se_lst (sa_cons (se_tup (sa_cons se_str (sa_cons se_int sa_nil))) sa_nil)) sa_nil))) sa_nil)) sa_nil))) (se_slice (se_var 2) (so_yes se_int) so_no)) nd)
    (ss_cons (ss_for (passes_of rfl) rfl (si_any (se_callT C__law_menu (Tri.callM Tri.call) bd__law_menu hr (by decide) (by rfl) (sa_cons se_int sa_nil))) (sg_name 9 nd) (ss_one (ss_if (sb_cmp (op_neD hr.units) ne_ok (se_callT C__law_said (Tri.callM Tri.call) bd__law_said hr (by decide) (by rfl) (sa_cons (se_op op_addD add_ok (se_op op_addD add_ok (se_slice (se_var 6) so_no (so_yes se_int)) (se_lst (sa_cons (se_var 9) sa_nil))) (se_slice (se_var 6) (so_yes se_int) so_no)) sa_nil)) (se_lst (sa_cons se_str (sa_cons se_bl sa_nil))) (nomark _)) (ss_one (ss_ret se_bl)) ss_nil)))
    (ss_cons (ss_if (sb_w (sw_or (sb_cmp (op_neD hr.units) ne_ok (se_callT C__law_said (Tri.callM Tri.call) bd__law_said hr (by decide) (by rfl) (sa_cons (se_op op_addD add_ok (se_op op_addD add_ok (se_slice (se_var 6) so_no (so_yes se_int)) (se_lst (sa_cons se_int sa_nil))) (se_slice (se_var 6) (so_yes se_int) so_no)) sa_nil)) (se_lst (sa_cons se_str (sa_cons se_bl sa_nil))) (nomark _)) (sw_or1 (sb_cmp (op_neD hr.units) ne_ok (se_callT C__law_said (Tri.callM Tri.call) bd__law_said hr (by decide) (by rfl) (sa_cons (se_op op_addD add_ok (se_op op_addD add_ok (se_slice (se_var 6) so_no (so_yes se_int)) (se_lst (sa_cons se_int sa_nil))) (se_slice (se_var 6) (so_yes se_int) so_no)) sa_nil)) (se_lst sa_nil) (nomark _))))) (ss_one (ss_ret se_bl)) ss_nil)
    (ss_cons (ss_set 10 (se_lst (sa_cons se_int (sa_cons (se_tup (sa_cons se_int (sa_cons se_int (sa_cons se_int sa_nil)))) (sa_cons (se_op op_mulD mul_ok (se_lst (sa_cons (se_tup (sa_cons se_int (sa_cons (se_op op_mulD mul_ok (se_lst (sa_cons (se_tup (sa_cons se_str sa_nil)) sa_nil)) se_int) sa_nil))) sa_nil)) se_int) (sa_cons se_int (sa_cons se_int (sa_cons se_int (sa_cons se_int (sa_cons se_int (sa_cons se_non sa_nil)))))))))) nd)
    (ss_one (ss_ret (se_and (se_cmp (op_eqD hr.units) eq_ok (se_callT C__law_said (Tri.callM Tri.call) bd__law_said hr (by decide) (by rfl) (sa_cons (se_var 10) sa_nil)) (se_lst sa_nil) (nomark _)) (se_one (se_cmp (op_eqD hr.units) eq_ok (se_callT C__law_said (Tri.callM Tri.call) bd__law_said hr (by decide) (by rfl) (sa_cons (se_lst (sa_cons se_int (sa_cons (se_tup (sa_cons se_int sa_nil)) (sa_cons (se_lst (sa_cons (se_tup (sa_cons se_int (sa_cons (se_tup sa_nil) sa_nil))) sa_nil)) (sa_cons se_int (sa_cons se_int (sa_cons se_int (sa_cons se_int (sa_cons se_int (sa_cons se_non sa_nil)))))))))) sa_nil)) (se_lst sa_nil) (nomark _)))))))))))))))
end
theorem all_mk {l : PySem.W.OpenLaw} {w : World} {K : PySem.W.Frag} {h : Heap} {mg : Str → Option Value} {fa : Addr} (X : K.In h) (G : h.Ns mainGlobals mg) (hfa : mg "law" = some (.ref fa))
    {C_InvalidMachine f_InvalidMachine : Addr} {oc_InvalidMachine kV_InvalidMachine dc_InvalidMachine pm_InvalidMachine cd_InvalidMachine ct_InvalidMachine : Value} {od_InvalidMachine an_InvalidMachine : Option Addr} {sl_InvalidMachine : Array (Option Value)}
    {n1_InvalidMachine n2_InvalidMachine : Str} {M_InvalidMachine : Addr} {bs_InvalidMachine bm_InvalidMachine sub_InvalidMachine : List Value} {sn_InvalidMachine : List Str} {ab_InvalidMachine : Bool} {col_InvalidMachine : Option Bool} {dd_InvalidMachine : Option Addr} {p0_InvalidMachine p1_InvalidMachine p2_InvalidMachine p3_InvalidMachine p5_InvalidMachine : Option Value}
    {C_HeapError : Addr}
    {C_State : Addr}
    {p_State_pages f_State_pages : Addr} {oc_State_pages kV_State_pages dc_State_pages pm_State_pages cd_State_pages ct_State_pages : Value} {od_State_pages an_State_pages : Option Addr} {sl_State_pages : Array (Option Value)} {re_State_pages : List Value}
    {p_State_slots f_State_slots : Addr} {oc_State_slots kV_State_slots dc_State_slots pm_State_slots cd_State_slots ct_State_slots : Value} {od_State_slots an_State_slots : Option Addr} {sl_State_slots : Array (Option Value)} {re_State_slots : List Value}
    {p_State_threads f_State_threads : Addr} {oc_State_threads kV_State_threads dc_State_threads pm_State_threads cd_State_threads ct_State_threads : Value} {od_State_threads an_State_threads : Option Addr} {sl_State_threads : Array (Option Value)} {re_State_threads : List Value}
    {C_Machine : Addr}
    {p_Machine_sockets f_Machine_sockets : Addr} {oc_Machine_sockets kV_Machine_sockets dc_Machine_sockets pm_Machine_sockets cd_Machine_sockets ct_Machine_sockets : Value} {od_Machine_sockets an_Machine_sockets : Option Addr} {sl_Machine_sockets : Array (Option Value)} {re_Machine_sockets : List Value}
    {p_Machine_classes f_Machine_classes : Addr} {oc_Machine_classes kV_Machine_classes dc_Machine_classes pm_Machine_classes cd_Machine_classes ct_Machine_classes : Value} {od_Machine_classes an_Machine_classes : Option Addr} {sl_Machine_classes : Array (Option Value)} {re_Machine_classes : List Value}
    {p_Machine_threads f_Machine_threads : Addr} {oc_Machine_threads kV_Machine_threads dc_Machine_threads pm_Machine_threads cd_Machine_threads ct_Machine_threads : Value} {od_Machine_threads an_Machine_threads : Option Addr} {sl_Machine_threads : Array (Option Value)} {re_Machine_threads : List Value}
    {p_Machine_pages f_Machine_pages : Addr} {oc_Machine_pages kV_Machine_pages dc_Machine_pages pm_Machine_pages cd_Machine_pages ct_Machine_pages : Value} {od_Machine_pages an_Machine_pages : Option Addr} {sl_Machine_pages : Array (Option Value)} {re_Machine_pages : List Value}
    {p_Machine_slots f_Machine_slots : Addr} {oc_Machine_slots kV_Machine_slots dc_Machine_slots pm_Machine_slots cd_Machine_slots ct_Machine_slots : Value} {od_Machine_slots an_Machine_slots : Option Addr} {sl_Machine_slots : Array (Option Value)} {re_Machine_slots : List Value}
    {f_State___init__ : Addr} {oc_State___init__ kV_State___init__ dc_State___init__ pm_State___init__ cd_State___init__ ct_State___init__ : Value} {od_State___init__ an_State___init__ : Option Addr} {sl_State___init__ : Array (Option Value)}
    {f_Machine___init__ : Addr} {oc_Machine___init__ dc_Machine___init__ pm_Machine___init__ cd_Machine___init__ ct_Machine___init__ : Value} {od_Machine___init__ an_Machine___init__ : Option Addr} {sl_Machine___init__ : Array (Option Value)}
    {kD_Machine___init__ : Addr}
    {u_Machine___init___pages : Value}
    {u_Machine___init___batch : Value}
    {u_Machine___init___spare : Value}
    {u_Machine___init___slots : Value}
    {u_Machine___init___stops : Value}
    {u_Machine___init___fault : Value}
    {f0 : Addr} {oc0 kV0 dc0 pm0 cd0 ct0 : Value} {od0 an0 : Option Addr} {sl0 : Array (Option Value)}
    {f1 : Addr} {oc1 kV1 dc1 pm1 cd1 ct1 : Value} {od1 an1 : Option Addr} {sl1 : Array (Option Value)}
    {f2 : Addr} {oc2 kV2 dc2 pm2 cd2 ct2 : Value} {od2 an2 : Option Addr} {sl2 : Array (Option Value)}
    {f3 : Addr} {oc3 kV3 dc3 pm3 cd3 ct3 : Value} {od3 an3 : Option Addr} {sl3 : Array (Option Value)}
    {f4 : Addr} {oc4 kV4 dc4 pm4 cd4 ct4 : Value} {od4 an4 : Option Addr} {sl4 : Array (Option Value)}
    {f5 : Addr} {oc5 kV5 dc5 pm5 cd5 ct5 : Value} {od5 an5 : Option Addr} {sl5 : Array (Option Value)}
    {f6 : Addr} {oc6 kV6 dc6 pm6 cd6 ct6 : Value} {od6 an6 : Option Addr} {sl6 : Array (Option Value)}
    {f7 : Addr} {oc7 kV7 dc7 pm7 cd7 ct7 : Value} {od7 an7 : Option Addr} {sl7 : Array (Option Value)}
    {f8 : Addr} {oc8 kV8 dc8 pm8 cd8 ct8 : Value} {od8 an8 : Option Addr} {sl8 : Array (Option Value)}
    {f9 : Addr} {oc9 kV9 dc9 pm9 cd9 ct9 : Value} {od9 an9 : Option Addr} {sl9 : Array (Option Value)}
    {f10 : Addr} {oc10 kV10 dc10 pm10 cd10 ct10 : Value} {od10 an10 : Option Addr} {sl10 : Array (Option Value)}
    {f11 : Addr} {oc11 kV11 dc11 pm11 cd11 ct11 : Value} {od11 an11 : Option Addr} {sl11 : Array (Option Value)}
    {f12 : Addr} {oc12 kV12 dc12 pm12 cd12 ct12 : Value} {od12 an12 : Option Addr} {sl12 : Array (Option Value)}
    {f13 : Addr} {oc13 kV13 dc13 pm13 cd13 ct13 : Value} {od13 an13 : Option Addr} {sl13 : Array (Option Value)}
    {f14 : Addr} {oc14 kV14 dc14 pm14 cd14 ct14 : Value} {od14 an14 : Option Addr} {sl14 : Array (Option Value)}
    {f15 : Addr} {oc15 kV15 dc15 pm15 cd15 ct15 : Value} {od15 an15 : Option Addr} {sl15 : Array (Option Value)}
    {f16 : Addr} {oc16 kV16 dc16 pm16 cd16 ct16 : Value} {od16 an16 : Option Addr} {sl16 : Array (Option Value)}
    {t0 : Addr} {es0 : Array DictEntry} {ep0 : Nat}
    {t1 : Addr} {es1 : Array DictEntry} {ep1 : Nat}
    {u_FAULTS : Value}
    {u_MOST_CLASSES : Value}
    {u_MOST_OPERATIONS : Value}
    {u_MOST_THREADS : Value}
    {u_STORE : Value}
    (e0_InvalidMachine : PySem.W.nsIn K mainGlobals "InvalidMachine" = some (some (.ref C_InvalidMachine)))
    (e1_InvalidMachine : K.lookup C_InvalidMachine = some (excClassObj n1_InvalidMachine n2_InvalidMachine C_InvalidMachine M_InvalidMachine bs_InvalidMachine bm_InvalidMachine true sn_InvalidMachine sub_InvalidMachine ab_InvalidMachine col_InvalidMachine dd_InvalidMachine p0_InvalidMachine p1_InvalidMachine p2_InvalidMachine p3_InvalidMachine p5_InvalidMachine "ValueError.__new__"))
    (e1b_InvalidMachine : PySem.HandSPX.refsVE bm_InvalidMachine = true)
    (e2_InvalidMachine : PySem.W.findIn K (.ref C_InvalidMachine) "__setattr__" = some (some (.builtin "object.__setattr__")))
    (e3_InvalidMachine : PySem.W.subIn K (.ref C_InvalidMachine) (.type "BaseException") = some true)
    (e4_InvalidMachine : PySem.W.typeIn K (.ref C_InvalidMachine) = some (.type "type"))
    (e5_InvalidMachine : PySem.W.keepIn K (.ref C_InvalidMachine) = true)
    (e6_InvalidMachine : PySem.W.findIn K (.ref C_InvalidMachine) "__getattribute__" = some (some (.builtin "BaseException.__getattribute__")))
    (e7_InvalidMachine : PySem.W.findIn K (.ref C_InvalidMachine) "__getattr__" = some none)
    (e8_InvalidMachine : PySem.W.hasDictIn K C_InvalidMachine = true)
    (e9_InvalidMachine : PySem.W.findIn K (.ref C_InvalidMachine) "name" = some none)
    (f0_InvalidMachine : PySem.W.findIn K (.ref C_InvalidMachine) "__init__" = some (some (.ref f_InvalidMachine)))
    (f1_InvalidMachine : PySem.W.typeIn K (.ref f_InvalidMachine) = some (.type "function"))
    (f2_InvalidMachine : K.lookup f_InvalidMachine = some ⟨oc_InvalidMachine, od_InvalidMachine, .func (PySem.W.fnOf "__init__" "InvalidMachine.__init__" (defArgs (sub 3 0)) (defBody (sub 3 0)) (defScope (sub 3 0)) .none kV_InvalidMachine dc_InvalidMachine pm_InvalidMachine an_InvalidMachine cd_InvalidMachine ct_InvalidMachine), sl_InvalidMachine⟩)
    (f3_InvalidMachine : PySem.W.codeIn K cd_InvalidMachine "InvalidMachine.__init__" = true)
    (f4_InvalidMachine : PySem.W.keepIn K (.ref f_InvalidMachine) = true)
    (f5_InvalidMachine : PySem.W.isClsIn K C_InvalidMachine = true)
    (f6_InvalidMachine : PySem.W.findIn K (.ref C_InvalidMachine) "__class__" = some (some (.builtin "object.__class__")))
    (f7_InvalidMachine : PySem.W.mroIn K C_InvalidMachine (.type "object") = some true)
    (xcn : PySem.W.specialIn K (.builtin "object.__class__") "__get__" = some (some (.builtin "getset_descriptor.__get__")))
    (xct : PySem.W.takesIn K (.builtin "object.__class__") = some true)
    (e0_HeapError : PySem.W.nsIn K mainGlobals "HeapError" = some (some (.ref C_HeapError)))
    (e3_HeapError : PySem.W.subIn K (.ref C_HeapError) (.type "BaseException") = some true)
    (e4_HeapError : PySem.W.typeIn K (.ref C_HeapError) = some (.type "type"))
    (f5_HeapError : PySem.W.isClsIn K C_HeapError = true)
    (g_HeapError_InvalidMachine : PySem.W.subIn K (.ref C_InvalidMachine) (.ref C_HeapError) = some true)
    (g_InvalidMachine_InvalidMachine : PySem.W.subIn K (.ref C_InvalidMachine) (.ref C_InvalidMachine) = some true)
    (e0_State : PySem.W.nsIn K mainGlobals "State" = some (some (.ref C_State)))
    (q0_State : PySem.W.plainGet K C_State Str.empty = true)
    (q1_State : PySem.W.hasDictIn K C_State = true)
    (q2_State : PySem.W.plainOver K C_State = true)
    (q3_State : PySem.W.findIn K (.ref C_State) "__setattr__" = some (some (.builtin "object.__setattr__")))
    (q4_State : PySem.W.makesIn K C_State = true)
    (q5_State : PySem.W.keepIn K (.ref C_State) = true)
    (n_State__pages : PySem.W.findIn K (.ref C_State) "_pages" = some none)
    (n_State__slots : PySem.W.findIn K (.ref C_State) "_slots" = some none)
    (n_State__threads : PySem.W.findIn K (.ref C_State) "_threads" = some none)
    (n_State__arrivals : PySem.W.findIn K (.ref C_State) "_arrivals" = some none)
    (n_State__flight : PySem.W.findIn K (.ref C_State) "_flight" = some none)
    (n_State__key : PySem.W.findIn K (.ref C_State) "_key" = some none)
    (r0_State_pages : PySem.W.findIn K (.ref C_State) "pages" = some (some (.ref p_State_pages)))
    (r1_State_pages : PySem.W.specialIn K (.ref p_State_pages) "__get__" = some (some (.builtin "property.__get__")))
    (r2_State_pages : PySem.W.takesIn K (.ref p_State_pages) = some true)
    (r3_State_pages : PySem.W.recIn K p_State_pages "property" = some (.ref f_State_pages :: re_State_pages))
    (r4_State_pages : K.lookup f_State_pages = some ⟨oc_State_pages, od_State_pages, .func (PySem.W.fnOf "pages" "State.pages" (defArgs (sub 5 1)) (defBody (sub 5 1)) (defScope (sub 5 1)) .none kV_State_pages dc_State_pages pm_State_pages an_State_pages cd_State_pages ct_State_pages), sl_State_pages⟩)
    (r5_State_pages : PySem.W.codeIn K cd_State_pages "State.pages" = true)
    (r6_State_pages : PySem.W.keepIn K (.ref f_State_pages) = true)
    (r0_State_slots : PySem.W.findIn K (.ref C_State) "slots" = some (some (.ref p_State_slots)))
    (r1_State_slots : PySem.W.specialIn K (.ref p_State_slots) "__get__" = some (some (.builtin "property.__get__")))
    (r2_State_slots : PySem.W.takesIn K (.ref p_State_slots) = some true)
    (r3_State_slots : PySem.W.recIn K p_State_slots "property" = some (.ref f_State_slots :: re_State_slots))
    (r4_State_slots : K.lookup f_State_slots = some ⟨oc_State_slots, od_State_slots, .func (PySem.W.fnOf "slots" "State.slots" (defArgs (sub 5 2)) (defBody (sub 5 2)) (defScope (sub 5 2)) .none kV_State_slots dc_State_slots pm_State_slots an_State_slots cd_State_slots ct_State_slots), sl_State_slots⟩)
    (r5_State_slots : PySem.W.codeIn K cd_State_slots "State.slots" = true)
    (r6_State_slots : PySem.W.keepIn K (.ref f_State_slots) = true)
    (r0_State_threads : PySem.W.findIn K (.ref C_State) "threads" = some (some (.ref p_State_threads)))
    (r1_State_threads : PySem.W.specialIn K (.ref p_State_threads) "__get__" = some (some (.builtin "property.__get__")))
    (r2_State_threads : PySem.W.takesIn K (.ref p_State_threads) = some true)
    (r3_State_threads : PySem.W.recIn K p_State_threads "property" = some (.ref f_State_threads :: re_State_threads))
    (r4_State_threads : K.lookup f_State_threads = some ⟨oc_State_threads, od_State_threads, .func (PySem.W.fnOf "threads" "State.threads" (defArgs (sub 5 3)) (defBody (sub 5 3)) (defScope (sub 5 3)) .none kV_State_threads dc_State_threads pm_State_threads an_State_threads cd_State_threads ct_State_threads), sl_State_threads⟩)
    (r5_State_threads : PySem.W.codeIn K cd_State_threads "State.threads" = true)
    (r6_State_threads : PySem.W.keepIn K (.ref f_State_threads) = true)
    (e0_Machine : PySem.W.nsIn K mainGlobals "Machine" = some (some (.ref C_Machine)))
    (q0_Machine : PySem.W.plainGet K C_Machine Str.empty = true)
    (q1_Machine : PySem.W.hasDictIn K C_Machine = true)
    (q2_Machine : PySem.W.plainOver K C_Machine = true)
    (q3_Machine : PySem.W.findIn K (.ref C_Machine) "__setattr__" = some (some (.builtin "object.__setattr__")))
    (q4_Machine : PySem.W.makesIn K C_Machine = true)
    (q5_Machine : PySem.W.keepIn K (.ref C_Machine) = true)
    (n_Machine__sockets : PySem.W.findIn K (.ref C_Machine) "_sockets" = some none)
    (n_Machine__classes : PySem.W.findIn K (.ref C_Machine) "_classes" = some none)
    (n_Machine__threads : PySem.W.findIn K (.ref C_Machine) "_threads" = some none)
    (n_Machine__pages : PySem.W.findIn K (.ref C_Machine) "_pages" = some none)
    (n_Machine__batch : PySem.W.findIn K (.ref C_Machine) "_batch" = some none)
    (n_Machine__spare : PySem.W.findIn K (.ref C_Machine) "_spare" = some none)
    (n_Machine__slots : PySem.W.findIn K (.ref C_Machine) "_slots" = some none)
    (n_Machine__stops : PySem.W.findIn K (.ref C_Machine) "_stops" = some none)
    (n_Machine__fault : PySem.W.findIn K (.ref C_Machine) "_fault" = some none)
    (n_Machine__all : PySem.W.findIn K (.ref C_Machine) "_all" = some none)
    (n_Machine__start : PySem.W.findIn K (.ref C_Machine) "_start" = some none)
    (r0_Machine_sockets : PySem.W.findIn K (.ref C_Machine) "sockets" = some (some (.ref p_Machine_sockets)))
    (r1_Machine_sockets : PySem.W.specialIn K (.ref p_Machine_sockets) "__get__" = some (some (.builtin "property.__get__")))
    (r2_Machine_sockets : PySem.W.takesIn K (.ref p_Machine_sockets) = some true)
    (r3_Machine_sockets : PySem.W.recIn K p_Machine_sockets "property" = some (.ref f_Machine_sockets :: re_Machine_sockets))
    (r4_Machine_sockets : K.lookup f_Machine_sockets = some ⟨oc_Machine_sockets, od_Machine_sockets, .func (PySem.W.fnOf "sockets" "Machine.sockets" (defArgs (sub 29 1)) (defBody (sub 29 1)) (defScope (sub 29 1)) .none kV_Machine_sockets dc_Machine_sockets pm_Machine_sockets an_Machine_sockets cd_Machine_sockets ct_Machine_sockets), sl_Machine_sockets⟩)
    (r5_Machine_sockets : PySem.W.codeIn K cd_Machine_sockets "Machine.sockets" = true)
    (r6_Machine_sockets : PySem.W.keepIn K (.ref f_Machine_sockets) = true)
    (r0_Machine_classes : PySem.W.findIn K (.ref C_Machine) "classes" = some (some (.ref p_Machine_classes)))
    (r1_Machine_classes : PySem.W.specialIn K (.ref p_Machine_classes) "__get__" = some (some (.builtin "property.__get__")))
    (r2_Machine_classes : PySem.W.takesIn K (.ref p_Machine_classes) = some true)
    (r3_Machine_classes : PySem.W.recIn K p_Machine_classes "property" = some (.ref f_Machine_classes :: re_Machine_classes))
    (r4_Machine_classes : K.lookup f_Machine_classes = some ⟨oc_Machine_classes, od_Machine_classes, .func (PySem.W.fnOf "classes" "Machine.classes" (defArgs (sub 29 2)) (defBody (sub 29 2)) (defScope (sub 29 2)) .none kV_Machine_classes dc_Machine_classes pm_Machine_classes an_Machine_classes cd_Machine_classes ct_Machine_classes), sl_Machine_classes⟩)
    (r5_Machine_classes : PySem.W.codeIn K cd_Machine_classes "Machine.classes" = true)
    (r6_Machine_classes : PySem.W.keepIn K (.ref f_Machine_classes) = true)
    (r0_Machine_threads : PySem.W.findIn K (.ref C_Machine) "threads" = some (some (.ref p_Machine_threads)))
    (r1_Machine_threads : PySem.W.specialIn K (.ref p_Machine_threads) "__get__" = some (some (.builtin "property.__get__")))
    (r2_Machine_threads : PySem.W.takesIn K (.ref p_Machine_threads) = some true)
    (r3_Machine_threads : PySem.W.recIn K p_Machine_threads "property" = some (.ref f_Machine_threads :: re_Machine_threads))
    (r4_Machine_threads : K.lookup f_Machine_threads = some ⟨oc_Machine_threads, od_Machine_threads, .func (PySem.W.fnOf "threads" "Machine.threads" (defArgs (sub 29 3)) (defBody (sub 29 3)) (defScope (sub 29 3)) .none kV_Machine_threads dc_Machine_threads pm_Machine_threads an_Machine_threads cd_Machine_threads ct_Machine_threads), sl_Machine_threads⟩)
    (r5_Machine_threads : PySem.W.codeIn K cd_Machine_threads "Machine.threads" = true)
    (r6_Machine_threads : PySem.W.keepIn K (.ref f_Machine_threads) = true)
    (r0_Machine_pages : PySem.W.findIn K (.ref C_Machine) "pages" = some (some (.ref p_Machine_pages)))
    (r1_Machine_pages : PySem.W.specialIn K (.ref p_Machine_pages) "__get__" = some (some (.builtin "property.__get__")))
    (r2_Machine_pages : PySem.W.takesIn K (.ref p_Machine_pages) = some true)
    (r3_Machine_pages : PySem.W.recIn K p_Machine_pages "property" = some (.ref f_Machine_pages :: re_Machine_pages))
    (r4_Machine_pages : K.lookup f_Machine_pages = some ⟨oc_Machine_pages, od_Machine_pages, .func (PySem.W.fnOf "pages" "Machine.pages" (defArgs (sub 29 4)) (defBody (sub 29 4)) (defScope (sub 29 4)) .none kV_Machine_pages dc_Machine_pages pm_Machine_pages an_Machine_pages cd_Machine_pages ct_Machine_pages), sl_Machine_pages⟩)
    (r5_Machine_pages : PySem.W.codeIn K cd_Machine_pages "Machine.pages" = true)
    (r6_Machine_pages : PySem.W.keepIn K (.ref f_Machine_pages) = true)
    (r0_Machine_slots : PySem.W.findIn K (.ref C_Machine) "slots" = some (some (.ref p_Machine_slots)))
    (r1_Machine_slots : PySem.W.specialIn K (.ref p_Machine_slots) "__get__" = some (some (.builtin "property.__get__")))
    (r2_Machine_slots : PySem.W.takesIn K (.ref p_Machine_slots) = some true)
    (r3_Machine_slots : PySem.W.recIn K p_Machine_slots "property" = some (.ref f_Machine_slots :: re_Machine_slots))
    (r4_Machine_slots : K.lookup f_Machine_slots = some ⟨oc_Machine_slots, od_Machine_slots, .func (PySem.W.fnOf "slots" "Machine.slots" (defArgs (sub 29 7)) (defBody (sub 29 7)) (defScope (sub 29 7)) .none kV_Machine_slots dc_Machine_slots pm_Machine_slots an_Machine_slots cd_Machine_slots ct_Machine_slots), sl_Machine_slots⟩)
    (r5_Machine_slots : PySem.W.codeIn K cd_Machine_slots "Machine.slots" = true)
    (r6_Machine_slots : PySem.W.keepIn K (.ref f_Machine_slots) = true)
    (m0_State___init__ : PySem.W.findIn K (.ref C_State) "__init__" = some (some (.ref f_State___init__)))
    (m1_State___init__ : PySem.W.isFn K (.ref f_State___init__) = true)
    (m2_State___init__ : K.lookup f_State___init__ = some ⟨oc_State___init__, od_State___init__, .func (PySem.W.fnOf "__init__" "State.__init__" (defArgs st_State___init__) (defBody st_State___init__) (defScope st_State___init__) .none kV_State___init__ dc_State___init__ pm_State___init__ an_State___init__ cd_State___init__ ct_State___init__), sl_State___init__⟩)
    (m3_State___init__ : PySem.W.codeIn K cd_State___init__ "State.__init__" = true)
    (m4_State___init__ : PySem.W.keepIn K (.ref f_State___init__) = true)
    (m0_Machine___init__ : PySem.W.findIn K (.ref C_Machine) "__init__" = some (some (.ref f_Machine___init__)))
    (m1_Machine___init__ : PySem.W.isFn K (.ref f_Machine___init__) = true)
    (m2_Machine___init__ : K.lookup f_Machine___init__ = some ⟨oc_Machine___init__, od_Machine___init__, .func (PySem.W.fnOf "__init__" "Machine.__init__" (defArgs st_Machine___init__) (defBody st_Machine___init__) (defScope st_Machine___init__) .none (.ref kD_Machine___init__) dc_Machine___init__ pm_Machine___init__ an_Machine___init__ cd_Machine___init__ ct_Machine___init__), sl_Machine___init__⟩)
    (m3_Machine___init__ : PySem.W.codeIn K cd_Machine___init__ "Machine.__init__" = true)
    (m4_Machine___init__ : PySem.W.keepIn K (.ref f_Machine___init__) = true)
    (w0_Machine___init___pages : PySem.W.nsIn K kD_Machine___init__ "pages" = some (some u_Machine___init___pages))
    (w1_Machine___init___pages : RelV (.int 4) u_Machine___init___pages)
    (w0_Machine___init___batch : PySem.W.nsIn K kD_Machine___init__ "batch" = some (some u_Machine___init___batch))
    (w1_Machine___init___batch : RelV (.int 1) u_Machine___init___batch)
    (w0_Machine___init___spare : PySem.W.nsIn K kD_Machine___init__ "spare" = some (some u_Machine___init___spare))
    (w1_Machine___init___spare : RelV (.int 0) u_Machine___init___spare)
    (w0_Machine___init___slots : PySem.W.nsIn K kD_Machine___init__ "slots" = some (some u_Machine___init___slots))
    (w1_Machine___init___slots : RelV (.int 2) u_Machine___init___slots)
    (w0_Machine___init___stops : PySem.W.nsIn K kD_Machine___init__ "stops" = some (some u_Machine___init___stops))
    (w1_Machine___init___stops : RelV (.int 0) u_Machine___init___stops)
    (w0_Machine___init___fault : PySem.W.nsIn K kD_Machine___init__ "fault" = some (some u_Machine___init___fault))
    (w1_Machine___init___fault : RelV (.non) u_Machine___init___fault)
    (a0 : PySem.W.nsIn K mainGlobals "_law_pool" = some (some (.ref f0)))
    (l0 : K.lookup f0 = some ⟨oc0, od0, .func (PySem.W.fnOf "_law_pool" "_law_pool" (defArgs st__law_pool) (defBody st__law_pool) (defScope st__law_pool) .none kV0 dc0 pm0 an0 cd0 ct0), sl0⟩)
    (c0 : PySem.W.codeIn K cd0 "_law_pool" = true)
    (k0 : PySem.W.keepIn K (.ref f0) = true)
    (a1 : PySem.W.nsIn K mainGlobals "is_int" = some (some (.ref f1)))
    (l1 : K.lookup f1 = some ⟨oc1, od1, .func (PySem.W.fnOf "is_int" "is_int" (defArgs st_is_int) (defBody st_is_int) (defScope st_is_int) .none kV1 dc1 pm1 an1 cd1 ct1), sl1⟩)
    (c1 : PySem.W.codeIn K cd1 "is_int" = true)
    (k1 : PySem.W.keepIn K (.ref f1) = true)
    (a2 : PySem.W.nsIn K mainGlobals "is_between" = some (some (.ref f2)))
    (l2 : K.lookup f2 = some ⟨oc2, od2, .func (PySem.W.fnOf "is_between" "is_between" (defArgs st_is_between) (defBody st_is_between) (defScope st_is_between) .none kV2 dc2 pm2 an2 cd2 ct2), sl2⟩)
    (c2 : PySem.W.codeIn K cd2 "is_between" = true)
    (k2 : PySem.W.keepIn K (.ref f2) = true)
    (a3 : PySem.W.nsIn K mainGlobals "is_within" = some (some (.ref f3)))
    (l3 : K.lookup f3 = some ⟨oc3, od3, .func (PySem.W.fnOf "is_within" "is_within" (defArgs st_is_within) (defBody st_is_within) (defScope st_is_within) .none kV3 dc3 pm3 an3 cd3 ct3), sl3⟩)
    (c3 : PySem.W.codeIn K cd3 "is_within" = true)
    (k3 : PySem.W.keepIn K (.ref f3) = true)
    (a4 : PySem.W.nsIn K mainGlobals "are_classes" = some (some (.ref f4)))
    (l4 : K.lookup f4 = some ⟨oc4, od4, .func (PySem.W.fnOf "are_classes" "are_classes" (defArgs st_are_classes) (defBody st_are_classes) (defScope st_are_classes) .none kV4 dc4 pm4 an4 cd4 ct4), sl4⟩)
    (c4 : PySem.W.codeIn K cd4 "are_classes" = true)
    (k4 : PySem.W.keepIn K (.ref f4) = true)
    (a5 : PySem.W.nsIn K mainGlobals "is_operation" = some (some (.ref f5)))
    (l5 : K.lookup f5 = some ⟨oc5, od5, .func (PySem.W.fnOf "is_operation" "is_operation" (defArgs st_is_operation) (defBody st_is_operation) (defScope st_is_operation) .none kV5 dc5 pm5 an5 cd5 ct5), sl5⟩)
    (c5 : PySem.W.codeIn K cd5 "is_operation" = true)
    (k5 : PySem.W.keepIn K (.ref f5) = true)
    (a6 : PySem.W.nsIn K mainGlobals "is_operation_of" = some (some (.ref f6)))
    (l6 : K.lookup f6 = some ⟨oc6, od6, .func (PySem.W.fnOf "is_operation_of" "is_operation_of" (defArgs st_is_operation_of) (defBody st_is_operation_of) (defScope st_is_operation_of) .none kV6 dc6 pm6 an6 cd6 ct6), sl6⟩)
    (c6 : PySem.W.codeIn K cd6 "is_operation_of" = true)
    (k6 : PySem.W.keepIn K (.ref f6) = true)
    (a7 : PySem.W.nsIn K mainGlobals "is_thread" = some (some (.ref f7)))
    (l7 : K.lookup f7 = some ⟨oc7, od7, .func (PySem.W.fnOf "is_thread" "is_thread" (defArgs st_is_thread) (defBody st_is_thread) (defScope st_is_thread) .none kV7 dc7 pm7 an7 cd7 ct7), sl7⟩)
    (c7 : PySem.W.codeIn K cd7 "is_thread" = true)
    (k7 : PySem.W.keepIn K (.ref f7) = true)
    (a8 : PySem.W.nsIn K mainGlobals "are_threads" = some (some (.ref f8)))
    (l8 : K.lookup f8 = some ⟨oc8, od8, .func (PySem.W.fnOf "are_threads" "are_threads" (defArgs st_are_threads) (defBody st_are_threads) (defScope st_are_threads) .none kV8 dc8 pm8 an8 cd8 ct8), sl8⟩)
    (c8 : PySem.W.codeIn K cd8 "are_threads" = true)
    (k8 : PySem.W.keepIn K (.ref f8) = true)
    (a9 : PySem.W.nsIn K mainGlobals "wrong_parameter" = some (some (.ref f9)))
    (l9 : K.lookup f9 = some ⟨oc9, od9, .func (PySem.W.fnOf "wrong_parameter" "wrong_parameter" (defArgs st_wrong_parameter) (defBody st_wrong_parameter) (defScope st_wrong_parameter) .none kV9 dc9 pm9 an9 cd9 ct9), sl9⟩)
    (c9 : PySem.W.codeIn K cd9 "wrong_parameter" = true)
    (k9 : PySem.W.keepIn K (.ref f9) = true)
    (a10 : PySem.W.nsIn K mainGlobals "copied_threads" = some (some (.ref f10)))
    (l10 : K.lookup f10 = some ⟨oc10, od10, .func (PySem.W.fnOf "copied_threads" "copied_threads" (defArgs st_copied_threads) (defBody st_copied_threads) (defScope st_copied_threads) .none kV10 dc10 pm10 an10 cd10 ct10), sl10⟩)
    (c10 : PySem.W.codeIn K cd10 "copied_threads" = true)
    (k10 : PySem.W.keepIn K (.ref f10) = true)
    (a11 : PySem.W.nsIn K mainGlobals "first_thread" = some (some (.ref f11)))
    (l11 : K.lookup f11 = some ⟨oc11, od11, .func (PySem.W.fnOf "first_thread" "first_thread" (defArgs st_first_thread) (defBody st_first_thread) (defScope st_first_thread) .none kV11 dc11 pm11 an11 cd11 ct11), sl11⟩)
    (c11 : PySem.W.codeIn K cd11 "first_thread" = true)
    (k11 : PySem.W.keepIn K (.ref f11) = true)
    (a12 : PySem.W.nsIn K mainGlobals "first_state" = some (some (.ref f12)))
    (l12 : K.lookup f12 = some ⟨oc12, od12, .func (PySem.W.fnOf "first_state" "first_state" (defArgs st_first_state) (defBody st_first_state) (defScope st_first_state) .none kV12 dc12 pm12 an12 cd12 ct12), sl12⟩)
    (c12 : PySem.W.codeIn K cd12 "first_state" = true)
    (k12 : PySem.W.keepIn K (.ref f12) = true)
    (a13 : PySem.W.nsIn K mainGlobals "_law_said" = some (some (.ref f13)))
    (l13 : K.lookup f13 = some ⟨oc13, od13, .func (PySem.W.fnOf "_law_said" "_law_said" (defArgs st__law_said) (defBody st__law_said) (defScope st__law_said) .none kV13 dc13 pm13 an13 cd13 ct13), sl13⟩)
    (c13 : PySem.W.codeIn K cd13 "_law_said" = true)
    (k13 : PySem.W.keepIn K (.ref f13) = true)
    (a14 : PySem.W.nsIn K mainGlobals "_law_take" = some (some (.ref f14)))
    (l14 : K.lookup f14 = some ⟨oc14, od14, .func (PySem.W.fnOf "_law_take" "_law_take" (defArgs st__law_take) (defBody st__law_take) (defScope st__law_take) .none kV14 dc14 pm14 an14 cd14 ct14), sl14⟩)
    (c14 : PySem.W.codeIn K cd14 "_law_take" = true)
    (k14 : PySem.W.keepIn K (.ref f14) = true)
    (a15 : PySem.W.nsIn K mainGlobals "_law_menu" = some (some (.ref f15)))
    (l15 : K.lookup f15 = some ⟨oc15, od15, .func (PySem.W.fnOf "_law_menu" "_law_menu" (defArgs st__law_menu) (defBody st__law_menu) (defScope st__law_menu) .none kV15 dc15 pm15 an15 cd15 ct15), sl15⟩)
    (c15 : PySem.W.codeIn K cd15 "_law_menu" = true)
    (k15 : PySem.W.keepIn K (.ref f15) = true)
    (a16 : PySem.W.nsIn K mainGlobals "law" = some (some (.ref f16)))
    (l16 : K.lookup f16 = some ⟨oc16, od16, .func (PySem.W.fnOf "law" "law" (defArgs st_law) (defBody st_law) (defScope st_law) .none kV16 dc16 pm16 an16 cd16 ct16), sl16⟩)
    (c16 : PySem.W.codeIn K cd16 "law" = true)
    (k16 : PySem.W.keepIn K (.ref f16) = true)
    (z0 : PySem.W.nsIn K mainGlobals "all" = some none)
    (z1 : PySem.W.nsIn K mainGlobals "bool" = some none)
    (z2 : PySem.W.nsIn K mainGlobals "int" = some none)
    (z3 : PySem.W.nsIn K mainGlobals "isinstance" = some none)
    (z4 : PySem.W.nsIn K mainGlobals "len" = some none)
    (z5 : PySem.W.nsIn K mainGlobals "list" = some none)
    (z6 : PySem.W.nsIn K mainGlobals "max" = some none)
    (z7 : PySem.W.nsIn K mainGlobals "min" = some none)
    (z8 : PySem.W.nsIn K mainGlobals "range" = some none)
    (z9 : PySem.W.nsIn K mainGlobals "str" = some none)
    (z10 : PySem.W.nsIn K mainGlobals "tuple" = some none)
    (z11 : PySem.W.nsIn K mainGlobals "zip" = some none)
    (ndc : ([C_InvalidMachine, C_State, C_Machine] : List Addr).Nodup)
    (ta0 : PySem.W.nsIn K mainGlobals "LIMITS_parameters" = some (some (.ref t0)))
    (tl0 : K.lookup t0 = some ⟨.type "dict", none, .dict es0 ep0, #[]⟩)
    (tk0 : PySem.W.KeysLit w.params es0.toList)
    (tt0 : kTab ⟨K, [C_InvalidMachine, C_State, C_Machine], ndc⟩ es0.toList = some tab_LIMITS_parameters)
    (tw0 : (t0 == sysModules) = false)
    (ta1 : PySem.W.nsIn K mainGlobals "LIMITS_programs" = some (some (.ref t1)))
    (tl1 : K.lookup t1 = some ⟨.type "dict", none, .dict es1 ep1, #[]⟩)
    (tk1 : PySem.W.KeysLit w.params es1.toList)
    (tt1 : kTab ⟨K, [C_InvalidMachine, C_State, C_Machine], ndc⟩ es1.toList = some tab_LIMITS_programs)
    (tw1 : (t1 == sysModules) = false)
    (va_FAULTS : PySem.W.nsIn K mainGlobals "FAULTS" = some (some u_FAULTS))
    (vb_FAULTS : kD ⟨K, [C_InvalidMachine, C_State, C_Machine], ndc⟩ 6 u_FAULTS = some (.tup [.non, .str "take", .str "fill", .str "batches"]))
    (va_MOST_CLASSES : PySem.W.nsIn K mainGlobals "MOST_CLASSES" = some (some u_MOST_CLASSES))
    (vb_MOST_CLASSES : kD ⟨K, [C_InvalidMachine, C_State, C_Machine], ndc⟩ 6 u_MOST_CLASSES = some (.int 3))
    (va_MOST_OPERATIONS : PySem.W.nsIn K mainGlobals "MOST_OPERATIONS" = some (some u_MOST_OPERATIONS))
    (vb_MOST_OPERATIONS : kD ⟨K, [C_InvalidMachine, C_State, C_Machine], ndc⟩ 6 u_MOST_OPERATIONS = some (.int 30))
    (va_MOST_THREADS : PySem.W.nsIn K mainGlobals "MOST_THREADS" = some (some u_MOST_THREADS))
    (vb_MOST_THREADS : kD ⟨K, [C_InvalidMachine, C_State, C_Machine], ndc⟩ 6 u_MOST_THREADS = some (.int 6))
    (va_STORE : PySem.W.nsIn K mainGlobals "STORE" = some (some u_STORE))
    (vb_STORE : kD ⟨K, [C_InvalidMachine, C_State, C_Machine], ndc⟩ 6 u_STORE = some (.tup [.str "store"]))
    : ∃ (KX : Kx) (fd : FuncData), KX.K = K ∧ (∀ (s : Shared) (v : Value), BindsTo s fd ⟨[v], []⟩ [("_law_script", v)]) ∧ ∀ base : Heap, K.In base → base.Ns mainGlobals mg → FnOk l.prog w K mg base (L2.CX l.prog w) 11 fa fd ["_law_script"] (spD KX d_law 1) := by
  have e := hfa.symm.trans (PySem.W.mg_of X G a16)
  cases e
  have T : Tx l.prog w ⟨K, [C_InvalidMachine, C_State, C_Machine], ndc⟩ mg t0 t1 := {
    n_all := PySem.W.mg_none_of X G z0
    n_bool := PySem.W.mg_none_of X G z1
    n_int := PySem.W.mg_none_of X G z2
    n_isinstance := PySem.W.mg_none_of X G z3
    n_len := PySem.W.mg_none_of X G z4
    n_list := PySem.W.mg_none_of X G z5
    n_max := PySem.W.mg_none_of X G z6
    n_min := PySem.W.mg_none_of X G z7
    n_range := PySem.W.mg_none_of X G z8
    n_str := PySem.W.mg_none_of X G z9
    n_tuple := PySem.W.mg_none_of X G z10
    n_zip := PySem.W.mg_none_of X G z11
    g_LIMITS_parameters := PySem.W.mg_of X G ta0
    t_LIMITS_parameters := ⟨⟨es0, ep0, tl0, tk0, tt0⟩, tw0⟩
    g_LIMITS_programs := PySem.W.mg_of X G ta1
    t_LIMITS_programs := ⟨⟨es1, ep1, tl1, tk1, tt1⟩, tw1⟩
    v_FAULTS := ⟨_, PySem.W.mg_of X G va_FAULTS, vb_FAULTS⟩
    v_MOST_CLASSES := ⟨_, PySem.W.mg_of X G va_MOST_CLASSES, vb_MOST_CLASSES⟩
    v_MOST_OPERATIONS := ⟨_, PySem.W.mg_of X G va_MOST_OPERATIONS, vb_MOST_OPERATIONS⟩
    v_MOST_THREADS := ⟨_, PySem.W.mg_of X G va_MOST_THREADS, vb_MOST_THREADS⟩
    v_STORE := ⟨_, PySem.W.mg_of X G va_STORE, vb_STORE⟩
    m_HeapError := ⟨C_HeapError, PySem.W.mg_of X G e0_HeapError, ⟨fun D hD => by cases hD; exact ⟨exm_of e3_HeapError f5_HeapError e4_HeapError g_HeapError_InvalidMachine, kit_of f5_HeapError e4_HeapError g_HeapError_InvalidMachine (fun h => nomatch h)⟩, trivial⟩⟩
    m_InvalidMachine := ⟨C_InvalidMachine, PySem.W.mg_of X G e0_InvalidMachine, ⟨fun D hD => by cases hD; exact ⟨exm_of e3_InvalidMachine f5_InvalidMachine e4_InvalidMachine g_InvalidMachine_InvalidMachine, kit_of f5_InvalidMachine e4_InvalidMachine g_InvalidMachine_InvalidMachine (fun h => nomatch h)⟩, trivial⟩⟩
  }
  have F0 : FunK K "_law_pool" st__law_pool f0 := ⟨a0, ⟨oc0, od0, kV0, dc0, pm0, an0, cd0, ct0, sl0, l0, c0⟩, k0⟩
  have F1 : FunK K "is_int" st_is_int f1 := ⟨a1, ⟨oc1, od1, kV1, dc1, pm1, an1, cd1, ct1, sl1, l1, c1⟩, k1⟩
  have F2 : FunK K "is_between" st_is_between f2 := ⟨a2, ⟨oc2, od2, kV2, dc2, pm2, an2, cd2, ct2, sl2, l2, c2⟩, k2⟩
  have F3 : FunK K "is_within" st_is_within f3 := ⟨a3, ⟨oc3, od3, kV3, dc3, pm3, an3, cd3, ct3, sl3, l3, c3⟩, k3⟩
  have F4 : FunK K "are_classes" st_are_classes f4 := ⟨a4, ⟨oc4, od4, kV4, dc4, pm4, an4, cd4, ct4, sl4, l4, c4⟩, k4⟩
  have F5 : FunK K "is_operation" st_is_operation f5 := ⟨a5, ⟨oc5, od5, kV5, dc5, pm5, an5, cd5, ct5, sl5, l5, c5⟩, k5⟩
  have F6 : FunK K "is_operation_of" st_is_operation_of f6 := ⟨a6, ⟨oc6, od6, kV6, dc6, pm6, an6, cd6, ct6, sl6, l6, c6⟩, k6⟩
  have F7 : FunK K "is_thread" st_is_thread f7 := ⟨a7, ⟨oc7, od7, kV7, dc7, pm7, an7, cd7, ct7, sl7, l7, c7⟩, k7⟩
  have F8 : FunK K "are_threads" st_are_threads f8 := ⟨a8, ⟨oc8, od8, kV8, dc8, pm8, an8, cd8, ct8, sl8, l8, c8⟩, k8⟩
  have F9 : FunK K "wrong_parameter" st_wrong_parameter f9 := ⟨a9, ⟨oc9, od9, kV9, dc9, pm9, an9, cd9, ct9, sl9, l9, c9⟩, k9⟩
  have F10 : FunK K "copied_threads" st_copied_threads f10 := ⟨a10, ⟨oc10, od10, kV10, dc10, pm10, an10, cd10, ct10, sl10, l10, c10⟩, k10⟩
  have F11 : FunK K "first_thread" st_first_thread f11 := ⟨a11, ⟨oc11, od11, kV11, dc11, pm11, an11, cd11, ct11, sl11, l11, c11⟩, k11⟩
  have F12 : FunK K "first_state" st_first_state f12 := ⟨a12, ⟨oc12, od12, kV12, dc12, pm12, an12, cd12, ct12, sl12, l12, c12⟩, k12⟩
  have F13 : FunK K "_law_said" st__law_said f13 := ⟨a13, ⟨oc13, od13, kV13, dc13, pm13, an13, cd13, ct13, sl13, l13, c13⟩, k13⟩
  have F14 : FunK K "_law_take" st__law_take f14 := ⟨a14, ⟨oc14, od14, kV14, dc14, pm14, an14, cd14, ct14, sl14, l14, c14⟩, k14⟩
  have F15 : FunK K "_law_menu" st__law_menu f15 := ⟨a15, ⟨oc15, od15, kV15, dc15, pm15, an15, cd15, ct15, sl15, l15, c15⟩, k15⟩
  refine ⟨⟨K, [C_InvalidMachine, C_State, C_Machine], ndc⟩, PySem.W.fnOf "law" "law" (defArgs st_law) (defBody st_law) (defScope st_law) .none kV16 dc16 pm16 an16 cd16 ct16, rfl, fun s v => .of_eq rfl, fun base _ _ => ?_⟩
  have XE_InvalidMachine : Exc l.prog w ⟨K, [C_InvalidMachine, C_State, C_Machine], ndc⟩ mg base "InvalidMachine" 0 "name" := by
    have FF : Fun K "__init__" "InvalidMachine.__init__" (sub 3 0) f_InvalidMachine _ := fun_mk f2_InvalidMachine f3_InvalidMachine f4_InvalidMachine
    have TT : OexC K C_InvalidMachine := ⟨⟨_, _, _, _, _, _, _, _, _, _, _, _, _, _, _, e1_InvalidMachine, e1b_InvalidMachine⟩, e2_InvalidMachine, e3_InvalidMachine, e4_InvalidMachine, e5_InvalidMachine⟩
    exact ⟨C_InvalidMachine, f_InvalidMachine, _, rfl, PySem.W.mg_of X G e0_InvalidMachine, TT, f0_InvalidMachine, f1_InvalidMachine, init_ok (k := 0) FF ⟨rfl, rfl, rfl, by decide +kernel, rfl, by decide +kernel, by decide +kernel⟩ TT e9_InvalidMachine rfl, FF.binds (fun _ _ _ _ _ _ us hl => match us, hl with | [_, _], _ => rfl), ⟨e6_InvalidMachine, e7_InvalidMachine, e3_InvalidMachine, e8_InvalidMachine⟩, e9_InvalidMachine, ⟨e6_InvalidMachine, e7_InvalidMachine, e3_InvalidMachine, e8_InvalidMachine, f6_InvalidMachine, xcn, xct, f7_InvalidMachine⟩⟩
  have CL_State : Cls K C_State := ⟨q0_State, q1_State, q2_State, q3_State⟩
  have CL_Machine : Cls K C_Machine := ⟨q0_Machine, q1_Machine, q2_Machine, q3_Machine⟩
  have A__classes : Atts l.prog w ⟨K, [C_InvalidMachine, C_State, C_Machine], ndc⟩ mg base "_classes" tabA__classes := by
    refine .cons ⟨C_Machine, rfl, CL_Machine, .inl ⟨rfl, n_Machine__classes⟩⟩ ?_
    exact .nil
  have A__threads : Atts l.prog w ⟨K, [C_InvalidMachine, C_State, C_Machine], ndc⟩ mg base "_threads" tabA__threads := by
    refine .cons ⟨C_State, rfl, CL_State, .inl ⟨rfl, n_State__threads⟩⟩ ?_
    refine .cons ⟨C_Machine, rfl, CL_Machine, .inl ⟨rfl, n_Machine__threads⟩⟩ ?_
    exact .nil
  have A_classes : Atts l.prog w ⟨K, [C_InvalidMachine, C_State, C_Machine], ndc⟩ mg base "classes" tabA_classes := by
    refine .cons ⟨C_Machine, rfl, CL_Machine, .inr ⟨p_Machine_classes, f_Machine_classes, _, ⟨r0_Machine_classes, r1_Machine_classes, r2_Machine_classes, ⟨_, r3_Machine_classes⟩⟩, fn_getter (k := 0) (N := ["self"]) r4_Machine_classes r5_Machine_classes ⟨rfl, rfl, rfl, by decide +kernel, rfl, by decide +kernel, by decide +kernel⟩ rfl rfl CL_Machine n_Machine__classes, (fun_mk r4_Machine_classes r5_Machine_classes r6_Machine_classes : Fun K "classes" "Machine.classes" (sub 29 2) f_Machine_classes _).binds (fun _ _ _ _ _ _ us hl => match us, hl with | [_], _ => rfl)⟩⟩ ?_
    exact .nil
  have A_pages : Atts l.prog w ⟨K, [C_InvalidMachine, C_State, C_Machine], ndc⟩ mg base "pages" tabA_pages := by
    refine .cons ⟨C_State, rfl, CL_State, .inr ⟨p_State_pages, f_State_pages, _, ⟨r0_State_pages, r1_State_pages, r2_State_pages, ⟨_, r3_State_pages⟩⟩, fn_getter (k := 0) (N := ["self"]) r4_State_pages r5_State_pages ⟨rfl, rfl, rfl, by decide +kernel, rfl, by decide +kernel, by decide +kernel⟩ rfl rfl CL_State n_State__pages, (fun_mk r4_State_pages r5_State_pages r6_State_pages : Fun K "pages" "State.pages" (sub 5 1) f_State_pages _).binds (fun _ _ _ _ _ _ us hl => match us, hl with | [_], _ => rfl)⟩⟩ ?_
    refine .cons ⟨C_Machine, rfl, CL_Machine, .inr ⟨p_Machine_pages, f_Machine_pages, _, ⟨r0_Machine_pages, r1_Machine_pages, r2_Machine_pages, ⟨_, r3_Machine_pages⟩⟩, fn_getter (k := 0) (N := ["self"]) r4_Machine_pages r5_Machine_pages ⟨rfl, rfl, rfl, by decide +kernel, rfl, by decide +kernel, by decide +kernel⟩ rfl rfl CL_Machine n_Machine__pages, (fun_mk r4_Machine_pages r5_Machine_pages r6_Machine_pages : Fun K "pages" "Machine.pages" (sub 29 4) f_Machine_pages _).binds (fun _ _ _ _ _ _ us hl => match us, hl with | [_], _ => rfl)⟩⟩ ?_
    exact .nil
  have A_slots : Atts l.prog w ⟨K, [C_InvalidMachine, C_State, C_Machine], ndc⟩ mg base "slots" tabA_slots := by
    refine .cons ⟨C_State, rfl, CL_State, .inr ⟨p_State_slots, f_State_slots, _, ⟨r0_State_slots, r1_State_slots, r2_State_slots, ⟨_, r3_State_slots⟩⟩, fn_getter (k := 0) (N := ["self"]) r4_State_slots r5_State_slots ⟨rfl, rfl, rfl, by decide +kernel, rfl, by decide +kernel, by decide +kernel⟩ rfl rfl CL_State n_State__slots, (fun_mk r4_State_slots r5_State_slots r6_State_slots : Fun K "slots" "State.slots" (sub 5 2) f_State_slots _).binds (fun _ _ _ _ _ _ us hl => match us, hl with | [_], _ => rfl)⟩⟩ ?_
    refine .cons ⟨C_Machine, rfl, CL_Machine, .inr ⟨p_Machine_slots, f_Machine_slots, _, ⟨r0_Machine_slots, r1_Machine_slots, r2_Machine_slots, ⟨_, r3_Machine_slots⟩⟩, fn_getter (k := 0) (N := ["self"]) r4_Machine_slots r5_Machine_slots ⟨rfl, rfl, rfl, by decide +kernel, rfl, by decide +kernel, by decide +kernel⟩ rfl rfl CL_Machine n_Machine__slots, (fun_mk r4_Machine_slots r5_Machine_slots r6_Machine_slots : Fun K "slots" "Machine.slots" (sub 29 7) f_Machine_slots _).binds (fun _ _ _ _ _ _ us hl => match us, hl with | [_], _ => rfl)⟩⟩ ?_
    exact .nil
  have A_sockets : Atts l.prog w ⟨K, [C_InvalidMachine, C_State, C_Machine], ndc⟩ mg base "sockets" tabA_sockets := by
    refine .cons ⟨C_Machine, rfl, CL_Machine, .inr ⟨p_Machine_sockets, f_Machine_sockets, _, ⟨r0_Machine_sockets, r1_Machine_sockets, r2_Machine_sockets, ⟨_, r3_Machine_sockets⟩⟩, fn_getter (k := 0) (N := ["self"]) r4_Machine_sockets r5_Machine_sockets ⟨rfl, rfl, rfl, by decide +kernel, rfl, by decide +kernel, by decide +kernel⟩ rfl rfl CL_Machine n_Machine__sockets, (fun_mk r4_Machine_sockets r5_Machine_sockets r6_Machine_sockets : Fun K "sockets" "Machine.sockets" (sub 29 1) f_Machine_sockets _).binds (fun _ _ _ _ _ _ us hl => match us, hl with | [_], _ => rfl)⟩⟩ ?_
    exact .nil
  have A_threads : Atts l.prog w ⟨K, [C_InvalidMachine, C_State, C_Machine], ndc⟩ mg base "threads" tabA_threads := by
    refine .cons ⟨C_State, rfl, CL_State, .inr ⟨p_State_threads, f_State_threads, _, ⟨r0_State_threads, r1_State_threads, r2_State_threads, ⟨_, r3_State_threads⟩⟩, fn_getter (k := 0) (N := ["self"]) r4_State_threads r5_State_threads ⟨rfl, rfl, rfl, by decide +kernel, rfl, by decide +kernel, by decide +kernel⟩ rfl rfl CL_State n_State__threads, (fun_mk r4_State_threads r5_State_threads r6_State_threads : Fun K "threads" "State.threads" (sub 5 3) f_State_threads _).binds (fun _ _ _ _ _ _ us hl => match us, hl with | [_], _ => rfl)⟩⟩ ?_
    refine .cons ⟨C_Machine, rfl, CL_Machine, .inr ⟨p_Machine_threads, f_Machine_threads, _, ⟨r0_Machine_threads, r1_Machine_threads, r2_Machine_threads, ⟨_, r3_Machine_threads⟩⟩, fn_getter (k := 0) (N := ["self"]) r4_Machine_threads r5_Machine_threads ⟨rfl, rfl, rfl, by decide +kernel, rfl, by decide +kernel, by decide +kernel⟩ rfl rfl CL_Machine n_Machine__threads, (fun_mk r4_Machine_threads r5_Machine_threads r6_Machine_threads : Fun K "threads" "Machine.threads" (sub 29 3) f_Machine_threads _).binds (fun _ _ _ _ _ _ us hl => match us, hl with | [_], _ => rfl)⟩⟩ ?_
    exact .nil
  have L__all : Flds ⟨K, [C_InvalidMachine, C_State, C_Machine], ndc⟩ "_all" cs__all := (.cons ⟨C_Machine, rfl, CL_Machine, n_Machine__all⟩ .nil)
  have L__arrivals : Flds ⟨K, [C_InvalidMachine, C_State, C_Machine], ndc⟩ "_arrivals" cs__arrivals := (.cons ⟨C_State, rfl, CL_State, n_State__arrivals⟩ .nil)
  have L__batch : Flds ⟨K, [C_InvalidMachine, C_State, C_Machine], ndc⟩ "_batch" cs__batch := (.cons ⟨C_Machine, rfl, CL_Machine, n_Machine__batch⟩ .nil)
  have L__classes : Flds ⟨K, [C_InvalidMachine, C_State, C_Machine], ndc⟩ "_classes" cs__classes := (.cons ⟨C_Machine, rfl, CL_Machine, n_Machine__classes⟩ .nil)
  have L__fault : Flds ⟨K, [C_InvalidMachine, C_State, C_Machine], ndc⟩ "_fault" cs__fault := (.cons ⟨C_Machine, rfl, CL_Machine, n_Machine__fault⟩ .nil)
  have L__flight : Flds ⟨K, [C_InvalidMachine, C_State, C_Machine], ndc⟩ "_flight" cs__flight := (.cons ⟨C_State, rfl, CL_State, n_State__flight⟩ .nil)
  have L__key : Flds ⟨K, [C_InvalidMachine, C_State, C_Machine], ndc⟩ "_key" cs__key := (.cons ⟨C_State, rfl, CL_State, n_State__key⟩ .nil)
  have L__pages : Flds ⟨K, [C_InvalidMachine, C_State, C_Machine], ndc⟩ "_pages" cs__pages := (.cons ⟨C_State, rfl, CL_State, n_State__pages⟩ (.cons ⟨C_Machine, rfl, CL_Machine, n_Machine__pages⟩ .nil))
  have L__slots : Flds ⟨K, [C_InvalidMachine, C_State, C_Machine], ndc⟩ "_slots" cs__slots := (.cons ⟨C_State, rfl, CL_State, n_State__slots⟩ (.cons ⟨C_Machine, rfl, CL_Machine, n_Machine__slots⟩ .nil))
  have L__sockets : Flds ⟨K, [C_InvalidMachine, C_State, C_Machine], ndc⟩ "_sockets" cs__sockets := (.cons ⟨C_Machine, rfl, CL_Machine, n_Machine__sockets⟩ .nil)
  have L__spare : Flds ⟨K, [C_InvalidMachine, C_State, C_Machine], ndc⟩ "_spare" cs__spare := (.cons ⟨C_Machine, rfl, CL_Machine, n_Machine__spare⟩ .nil)
  have L__start : Flds ⟨K, [C_InvalidMachine, C_State, C_Machine], ndc⟩ "_start" cs__start := (.cons ⟨C_Machine, rfl, CL_Machine, n_Machine__start⟩ .nil)
  have L__stops : Flds ⟨K, [C_InvalidMachine, C_State, C_Machine], ndc⟩ "_stops" cs__stops := (.cons ⟨C_Machine, rfl, CL_Machine, n_Machine__stops⟩ .nil)
  have L__threads : Flds ⟨K, [C_InvalidMachine, C_State, C_Machine], ndc⟩ "_threads" cs__threads := (.cons ⟨C_State, rfl, CL_State, n_State__threads⟩ (.cons ⟨C_Machine, rfl, CL_Machine, n_Machine__threads⟩ .nil))
  have C__law_pool : Cal l.prog w ⟨K, [C_InvalidMachine, C_State, C_Machine], ndc⟩ mg base "_law_pool" st__law_pool 1 P__law_pool d__law_pool := Cal.mk' F0 X G fun fd ff => ok__law_pool ff T
  have C_is_int : Cal l.prog w ⟨K, [C_InvalidMachine, C_State, C_Machine], ndc⟩ mg base "is_int" st_is_int 1 P_is_int d_is_int := Cal.mk' F1 X G fun fd ff => ok_is_int ff T
  have C_is_between : Cal l.prog w ⟨K, [C_InvalidMachine, C_State, C_Machine], ndc⟩ mg base "is_between" st_is_between 2 P_is_between d_is_between := Cal.mk' F2 X G fun fd ff => ok_is_between ff T C_is_int
  have C_is_within : Cal l.prog w ⟨K, [C_InvalidMachine, C_State, C_Machine], ndc⟩ mg base "is_within" st_is_within 3 P_is_within d_is_within := Cal.mk' F3 X G fun fd ff => ok_is_within ff T C_is_between
  have C_are_classes : Cal l.prog w ⟨K, [C_InvalidMachine, C_State, C_Machine], ndc⟩ mg base "are_classes" st_are_classes 3 P_are_classes d_are_classes := Cal.mk' F4 X G fun fd ff => ok_are_classes ff T C_is_between
  have C_is_operation : Cal l.prog w ⟨K, [C_InvalidMachine, C_State, C_Machine], ndc⟩ mg base "is_operation" st_is_operation 3 P_is_operation d_is_operation := Cal.mk' F5 X G fun fd ff => ok_is_operation ff T C_is_between
  have C_is_operation_of : Cal l.prog w ⟨K, [C_InvalidMachine, C_State, C_Machine], ndc⟩ mg base "is_operation_of" st_is_operation_of 4 P_is_operation_of d_is_operation_of := Cal.mk' F6 X G fun fd ff => ok_is_operation_of ff T C_is_operation
  have C_is_thread : Cal l.prog w ⟨K, [C_InvalidMachine, C_State, C_Machine], ndc⟩ mg base "is_thread" st_is_thread 5 P_is_thread d_is_thread := Cal.mk' F7 X G fun fd ff => ok_is_thread ff T C_is_between C_is_operation_of
  have C_are_threads : Cal l.prog w ⟨K, [C_InvalidMachine, C_State, C_Machine], ndc⟩ mg base "are_threads" st_are_threads 6 P_are_threads d_are_threads := Cal.mk' F8 X G fun fd ff => ok_are_threads ff T C_is_between C_is_thread
  have C_wrong_parameter : Cal l.prog w ⟨K, [C_InvalidMachine, C_State, C_Machine], ndc⟩ mg base "wrong_parameter" st_wrong_parameter 7 P_wrong_parameter d_wrong_parameter := Cal.mk' F9 X G fun fd ff => ok_wrong_parameter ff T C_is_within C_are_classes C_are_threads
  have C_copied_threads : Cal l.prog w ⟨K, [C_InvalidMachine, C_State, C_Machine], ndc⟩ mg base "copied_threads" st_copied_threads 1 P_copied_threads d_copied_threads := Cal.mk' F10 X G fun fd ff => ok_copied_threads ff T
  have C_first_thread : Cal l.prog w ⟨K, [C_InvalidMachine, C_State, C_Machine], ndc⟩ mg base "first_thread" st_first_thread 1 P_first_thread d_first_thread := Cal.mk' F11 X G fun fd ff => ok_first_thread ff T
  have FF_State___init__ : Fun K "__init__" "State.__init__" st_State___init__ f_State___init__ _ := fun_mk m2_State___init__ m3_State___init__ m4_State___init__
  have O_State___init__ : FnOk l.prog w K mg base (L2.CX l.prog w) 3 f_State___init__ _ P_State___init__ (spD ⟨K, [C_InvalidMachine, C_State, C_Machine], ndc⟩ d_State___init__ 6) := ok_State___init__ FF_State___init__ T L__pages L__slots L__threads L__arrivals L__flight L__key
  have B_State___init__ := FF_State___init__.binds (ps := P_State___init__) (fun _ _ _ _ _ _ us hl => match us, hl with | [_, _, _, _, _, _], _ => rfl)
  have NW_State : Cl1 l.prog w ⟨K, [C_InvalidMachine, C_State, C_Machine], ndc⟩ mg base "State" 1 3 P_State___init__ d_State___init__ := ⟨C_State, f_State___init__, _, rfl, PySem.W.mg_of X G e0_State, ⟨q4_State, m0_State___init__, m1_State___init__, q5_State⟩, O_State___init__, B_State___init__⟩
  have C_first_state : Cal l.prog w ⟨K, [C_InvalidMachine, C_State, C_Machine], ndc⟩ mg base "first_state" st_first_state 5 P_first_state d_first_state := Cal.mk' F12 X G fun fd ff => ok_first_state ff T C_first_thread A_classes A_threads A_sockets A_pages A_slots NW_State
  have FF_Machine___init__ : Fun K "__init__" "Machine.__init__" st_Machine___init__ f_Machine___init__ _ := fun_mk m2_Machine___init__ m3_Machine___init__ m4_Machine___init__
  have O_Machine___init__ : FnOk l.prog w K mg base (L2.CX l.prog w) 8 f_Machine___init__ _ P_Machine___init__ (spD ⟨K, [C_InvalidMachine, C_State, C_Machine], ndc⟩ d_Machine___init__ 10) := ok_Machine___init__ FF_Machine___init__ T XE_InvalidMachine C_wrong_parameter C_copied_threads C_first_state A__threads A__classes L__sockets L__classes L__threads L__pages L__batch L__spare L__slots L__stops L__fault L__all L__start
  have FD_Machine___init__ : FunD K "__init__" "Machine.__init__" (defArgs st_Machine___init__) (defBody st_Machine___init__) (defScope st_Machine___init__) [] [("pages", .int 4), ("batch", .int 1), ("spare", .int 0), ("slots", .int 2), ("stops", .int 0), ("fault", .non)] f_Machine___init__ _ := ⟨⟨_, _, _, _, _, _, _, _, _, _, rfl, m2_Machine___init__, m3_Machine___init__, .inl ⟨rfl, rfl⟩, .inr ⟨kD_Machine___init__, rfl, by
    intro q hq
    simp only [List.mem_cons, List.not_mem_nil, or_false] at hq
    rcases hq with rfl | rfl | rfl | rfl | rfl | rfl
    · exact ⟨u_Machine___init___pages, w0_Machine___init___pages, w1_Machine___init___pages⟩
    · exact ⟨u_Machine___init___batch, w0_Machine___init___batch, w1_Machine___init___batch⟩
    · exact ⟨u_Machine___init___spare, w0_Machine___init___spare, w1_Machine___init___spare⟩
    · exact ⟨u_Machine___init___slots, w0_Machine___init___slots, w1_Machine___init___slots⟩
    · exact ⟨u_Machine___init___stops, w0_Machine___init___stops, w1_Machine___init___stops⟩
    · exact ⟨u_Machine___init___fault, w0_Machine___init___fault, w1_Machine___init___fault⟩
    ⟩⟩, m4_Machine___init__⟩
  have NW_kf_Machine_3_pages_batch_spare_slots_stops_fault : ClK l.prog w ⟨K, [C_InvalidMachine, C_State, C_Machine], ndc⟩ mg base "Machine" 2 8 3 P_Machine___init__ kf_Machine_3_pages_batch_spare_slots_stops_fault_ks d_Machine___init__ kf_Machine_3_pages_batch_spare_slots_stops_fault_gV kf_Machine_3_pages_batch_spare_slots_stops_fault_gR kf_Machine_3_pages_batch_spare_slots_stops_fault_g := clK_mk (src := kf_Machine_3_pages_batch_spare_slots_stops_fault_src) (msV := kf_Machine_3_pages_batch_spare_slots_stops_fault_ms.map (·.2)) (msD := kf_Machine_3_pages_batch_spare_slots_stops_fault_md) rfl (PySem.W.mg_of X G e0_Machine) ⟨q4_Machine, m0_Machine___init__, m1_Machine___init__, q5_Machine⟩ O_Machine___init__ (FD_Machine___init__.kbinds0 4 kf_Machine_3_pages_batch_spare_slots_stops_fault_ks kf_Machine_3_pages_batch_spare_slots_stops_fault_ms (fun us mv ws => pick ((0, 0) :: kf_Machine_3_pages_batch_spare_slots_stops_fault_src.map shf) us mv ws) (by simp) (by decide +revert) (fun r1 r2 r3 => pick_vals r1 r2 r3 _) kf_Machine_3_pages_batch_spare_slots_stops_fault_h) (fun _ _ => .nil)
  have C__law_said : Cal l.prog w ⟨K, [C_InvalidMachine, C_State, C_Machine], ndc⟩ mg base "_law_said" st__law_said 10 P__law_said d__law_said := Cal.mk' F13 X G fun fd ff => ok__law_said ff T XE_InvalidMachine NW_kf_Machine_3_pages_batch_spare_slots_stops_fault
  have C__law_take : Cal l.prog w ⟨K, [C_InvalidMachine, C_State, C_Machine], ndc⟩ mg base "_law_take" st__law_take 1 P__law_take d__law_take := Cal.mk' F14 X G fun fd ff => ok__law_take ff T
  have C__law_menu : Cal l.prog w ⟨K, [C_InvalidMachine, C_State, C_Machine], ndc⟩ mg base "_law_menu" st__law_menu 1 P__law_menu d__law_menu := Cal.mk' F15 X G fun fd ff => ok__law_menu ff T
  exact ok_law (fun_mk l16 c16 k16) T C__law_pool C__law_said C__law_take C__law_menu
theorem walk {l : PySem.W.OpenLaw} {q : Program} {loose : List Str} {XP : (Str → Option Value) → Heap → Prop} {YP : World → Heap → Prop} {d : DefRec} {K : Params → PySem.W.Frag} (hm : ∀ ns : List Int, ns.length ≤ 63 → ∃ S, d_law [.rol (ns.map D.int)] [] = .ok (.bl true) S) (hn : l.most = some 63) (hdf : d.params.defaults = [])
    (hY : ∀ (w : World) (h : Heap), YP w h → (K w.params).In h)
    (F : ∀ (w : World) (mg : Str → Option Value) (fa : Addr) (h : Heap), (K w.params).In h → h.Ns mainGlobals mg → mg d.name = some (.ref fa) →
      ∃ (KX : Kx) (fd : FuncData), KX.K = K w.params ∧ (∀ (s : Shared) (u : Value), BindsTo s fd ⟨[u], []⟩ [("_law_script", u)]) ∧ ∀ base : Heap, (K w.params).In base → base.Ns mainGlobals mg → FnOk l.prog w (K w.params) mg base (L2.CX l.prog w) 11 fa fd ["_law_script"] (spD KX d_law 1)) :
    PySem.W.WalkO q loose XP YP l.row.toRowW d [] (fun f vs => PySem.call f vs) := walkLaw hm hn hdf hY F
end My

set_option Elab.async false
set_option linter.all false
set_option maxRecDepth 100000
set_option maxHeartbeats 4000000
namespace My
open PySem PySem.Spec PyProof.Rows L2 RZ Dn TL
/-- what a call tells that returns a new list -/
def evalL : R D → Option (List D)
  | .ok (.ref j) T => match T[j]? with
    | some (.lst xs) => mapRs (lkX T true false [j] fuelM) false xs
    | _ => none
  | _ => none
theorem call_eval {fz : Bool} {m : List D → Sto → R D} {ds ys : List D} {S : Sto} (hp : prDs ds = true) (h : evalL (m ds []) = some ys) : callM fz (ds.map fun _ => false) (callD ds.length m) ds S = .ok (.ref S.length) (S ++ [.lst ys]) := by
  revert h
  cases e : m ds [] with
  | ok d T =>
    cases d with
    | ref j =>
      intro h
      have h : (match T[j]? with | some (.lst xs) => mapRs (lkX T true false [j] fuelM) false xs | _ => none) = some ys := h
      split at h
      · rename_i xs hx
        exact call_lst hp e hx h
      · cases h
    | _ => exact fun h => by cases h
  | _ => exact fun h => by cases h
/-- a list of the store, by value -/
theorem call_evalR {fz : Bool} {m : List D → Sto → R D} {i : Nat} {xs ys : List D} {S : Sto} (hv : mapR (lkX S false true [] fuelM) true (.ref i) = some (.rol xs)) (h : evalL (m [.rol xs] []) = some ys) : callM fz [false] (callD 1 m) [.ref i] S = .ok (.ref S.length) (S ++ [.lst ys]) := by
  revert h
  cases e : m [.rol xs] [] with
  | ok d T =>
    cases d with
    | ref j =>
      intro h
      have h : (match T[j]? with | some (.lst xs) => mapRs (lkX T true false [j] fuelM) false xs | _ => none) = some ys := h
      split at h
      · rename_i zs hx
        exact callM_lst (mask := [false]) (ds := [.ref i]) (es := [.rol xs]) rfl (by simp only [argsM, hv]; rfl) (by simp only [callD, List.length_cons, List.length_nil, if_true]; exact e) hx h
      · cases h
    | _ => exact fun h => by cases h
  | _ => exact fun h => by cases h
def gT : D := .rol [.tup [.int 0, .rol [.tup [.str "alloc", .int 1, .int 1], .tup [.str "free", .int 1]]], .tup [.int 1, .tup []]]
def gC : D := .rol [.int 3, .int 1]
def goodV : List D := [.int 2, gC, gT, .int 4, .int 2, .int 1, .int 2, .int 1, .non]
def namesV : List D := [.str "sockets", .str "classes", .str "threads", .str "pages", .str "batch", .str "spare", .str "slots", .str "stops", .str "fault"]
theorem fin_ok (x0 x1 x3 x4 x5 x6 x7 x8 x9 x10 : Option D) : resR (boxr1_law [x0, x1, some (.rol goodV), x3, x4, x5, x6, x7, x8, x9, x10] []) = true := by kernel_rfl
@[irreducible] def menuV (i : Nat) : List D := (evalL (d__law_menu [.int i] [])).getD []
theorem menu_ok : ∀ i : Nat, i < 9 → evalL (d__law_menu [.int i] []) = some (menuV i)
  | 0, _ => by kernel_rfl | 1, _ => by kernel_rfl | 2, _ => by kernel_rfl | 3, _ => by kernel_rfl | 4, _ => by kernel_rfl | 5, _ => by kernel_rfl | 6, _ => by kernel_rfl | 7, _ => by kernel_rfl | 8, _ => by kernel_rfl
  | n + 9, h => by omega
theorem menu_len : [0, 1, 2, 3, 4, 5, 6, 7, 8].map (fun i => (menuV i).length) = [6, 11, 19, 7, 7, 7, 7, 7, 7] := by kernel_rfl
theorem menu_pr : [0, 1, 2, 3, 4, 5, 6, 7, 8].map (fun i => prDs (menuV i)) = [true, true, true, true, true, true, true, true, true] := by kernel_rfl
/-- what is said of a row -/
@[irreducible] def saidV (xs : List D) : Option (List D) := evalL (d__law_said [.rol xs] [])
theorem saidV_eq (xs : List D) : saidV xs = evalL (d__law_said [.rol xs] []) := by unfold saidV; rfl
theorem said_good : [D.non, .str "take", .str "fill", .str "batches"].map (fun x => saidV (goodV.take 8 ++ [x])) = [some [], some [], some [], some []] := by kernel_rfl
theorem said0 (x1 x2 x3 x4 x5 x6 x7 x8 : D) : (menuV 0).map (fun x => saidV [x, x1, x2, x3, x4, x5, x6, x7, x8]) = (menuV 0).map fun _ => some [.str "sockets", .bl true] := by kernel_rfl
theorem said1 (x2 x3 x4 x5 x6 x7 x8 : D) : (menuV 1).map (fun x => saidV [.int 2, x, x2, x3, x4, x5, x6, x7, x8]) = (menuV 1).map fun _ => some [.str "classes", .bl true] := by kernel_rfl
theorem said2 (x3 x4 x5 x7 x8 : D) : (menuV 2).map (fun x => saidV [.int 2, gC, x, x3, x4, x5, .int 2, x7, x8]) = (menuV 2).map fun _ => some [.str "threads", .bl true] := by kernel_rfl
theorem said3 (x4 x5 x7 x8 : D) : (menuV 3).map (fun x => (D.int 2 :: menuV 6).map fun y => saidV [.int 2, gC, gT, x, x4, x5, y, x7, x8]) = (menuV 3).map fun _ => (D.int 2 :: menuV 6).map fun _ => some [.str "pages", .bl true] := by kernel_rfl
theorem said4 (x5 x7 x8 : D) : (menuV 4).map (fun x => (D.int 2 :: menuV 6).map fun y => saidV [.int 2, gC, gT, .int 4, x, x5, y, x7, x8]) = (menuV 4).map fun _ => (D.int 2 :: menuV 6).map fun _ => some [.str "batch", .bl true] := by kernel_rfl
theorem said5 (x7 x8 : D) : (menuV 5).map (fun x => (D.int 2 :: menuV 6).map fun y => saidV [.int 2, gC, gT, .int 4, .int 2, x, y, x7, x8]) = (menuV 5).map fun _ => (D.int 2 :: menuV 6).map fun _ => some [.str "spare", .bl true] := by kernel_rfl
theorem said6 (x7 x8 : D) : (menuV 6).map (fun x => saidV [.int 2, gC, gT, .int 4, .int 2, .int 1, x, x7, x8]) = (menuV 6).map fun _ => some [.str "slots", .bl true] := by kernel_rfl
theorem said7 (x8 : D) : (menuV 7).map (fun x => saidV [.int 2, gC, gT, .int 4, .int 2, .int 1, .int 2, x, x8]) = (menuV 7).map fun _ => some [.str "stops", .bl true] := by kernel_rfl
theorem said8 : (menuV 8).map (fun x => saidV [.int 2, gC, gT, .int 4, .int 2, .int 1, .int 2, .int 1, x]) = (menuV 8).map fun _ => some [.str "fault", .bl true] := by kernel_rfl
end My

set_option Elab.async false
set_option linter.all false
set_option maxRecDepth 100000
set_option maxHeartbeats 4000000
namespace My
open PySem PySem.Spec PyProof.Rows L2 RZ Dn TL
/-! draws -/
theorem take_c {S : Sto} {i : Nat} {n : Int} (h : Pool S i) (h1 : 1 ≤ n) (h2 : n < 1073741824) : ∃ (d : Nat) (S1 : Sto), callM false [true, false] (callD 2 d__law_take) [.ref i, .int n] S = .ok (.int (d : Nat)) S1 ∧ (d : Int) < n ∧ Pool S1 i ∧ But i S S1 := by
  obtain ⟨a, b, e, hb0, hb1⟩ := h
  have hp0 : Pool [Ob.lst [.int a, .int b]] 0 := ⟨a, b, rfl, hb0, hb1⟩
  obtain ⟨d, a', b', e1, x1, x2, x3, x4⟩ := take_spec hp0 h1 h2
  have e1' : d__law_take [.ref 0, .int n] [Ob.lst [.int a, .int b]] = .ok (.int d) [Ob.lst [.int a', .int b']] := e1
  refine ⟨d.toNat, S.set i (.lst [.int a', .int b']), ?_, by omega, ⟨a', b', List.getElem?_set_self (List.getElem?_eq_some_iff.mp e).1, x3, x4⟩, by simp, fun j hj => List.getElem?_set_ne (Ne.symm hj)⟩
  have hd : ((d.toNat : Nat) : Int) = d := by omega
  rw [hd]
  have hr : refsM [true, false] [.ref i, .int n] = [i] := rfl
  have ha : ∀ lk, argsM lk [true, false] [.ref i, .int n] 0 = some [.ref 0, .int n] := fun lk => rfl
  have ho : mapO (objM S) [i] = some [Ob.lst [.int a, .int b]] := by simp [mapO, objM, e, mapO', mapRs, mapR]
  unfold callM
  rw [hr]
  simp only [ha, ho, List.nodup_cons, List.not_mem_nil, not_false_eq_true, List.nodup_nil, and_self, if_true, callD, List.length_cons, List.length_nil, Nat.zero_add, Nat.reduceAdd, e1']
  rfl
theorem pool_c {S : Sto} {ns : List Int} {k : Int} (h0 : 0 ≤ k) (h1 : k ≤ 63) (hl : ns.length ≤ 63) : ∃ S1, callM false [false, false] (callD 2 d__law_pool) [.rol (ns.map D.int), .int k] S = .ok (.ref S.length) S1 ∧ Pool S1 S.length ∧ Has S S1 := by
  obtain ⟨c1, c2, c3, a, b, e, hb⟩ := pool_spec (S := []) h0 h1 hl
  have e' : d__law_pool [.rol (ns.map D.int), .int k] [] = .ok (.ref 3) [c1, c2, c3, .lst [.int a, .int b]] := e
  have hp : prDs [.rol (ns.map D.int), .int k] = true := by
    simp
    exact prDs_all.mpr fun d h => by
      obtain ⟨n, _, rfl⟩ := List.mem_map.mp h
      rfl
  exact ⟨S ++ [Ob.lst [D.int a, D.int b]], call_lst (fz := false) (ds := [.rol (ns.map D.int), .int k]) (S := S) (ys := [.int a, .int b]) hp e' rfl rfl, ⟨a, b, by simp, hb⟩, Has.app _ _⟩
theorem get_new {S : Sto} {o : Ob} : (S ++ [o])[S.length]? = some o := by simp
theorem get_old {S T : Sto} {i : Nat} {o : Ob} (h : S[i]? = some o) : (S ++ T)[i]? = some o := Has.app S T i o h
theorem But.at {p i : Nat} {S S' : Sto} {o : Ob} (b : But p S S') (hi : i ≠ p) (h : S[i]? = some o) : S'[i]? = some o := by rw [b.2 i hi]; exact h
/-- a list that holds values alone, read by value -/
theorem byV {S : Sto} {i : Nat} {xs : List D} (h : S[i]? = some (.lst xs)) (hp : prDs xs = true) : mapR (lkX S false true [] fuelM) true (.ref i) = some (.rol xs) := by
  show lkX S false true [] 8 i = _
  simp only [lkX, List.not_mem_nil, if_false, h, mapRs_pr hp]
  rfl
theorem add_l {S : Sto} {i j : Nat} {xs ys : List D} (h1 : S[i]? = some (.lst xs)) (h2 : S[j]? = some (.lst ys)) (hl : xs.length + ys.length ≤ 30) : addD (.ref i) (.ref j) S = .ok (.ref S.length) (S ++ [.lst (xs ++ ys)]) := by
  show (match S[i]?, S[j]? with | some (.lst xs), some (.lst ys) => if xs.length + ys.length ≤ sizeLine then R.ok (D.ref S.length) (S ++ [Ob.lst (xs ++ ys)]) else .stuck | _, _ => .stuck) = _
  rw [h1, h2]
  exact if_pos (Nat.le_trans hl (by decide))
theorem item_l {S : Sto} {i d : Nat} {xs : List D} {x : D} (h : S[i]? = some (.lst xs)) (hx : xs[d]? = some x) : itemX (.ref i) (.int (d : Nat)) S = .ok x S := by
  unfold itemX isDk
  simp only [h, Bool.false_eq_true, if_false]
  show (match S[i]? with | some (.lst xs) => (match atI xs (d : Nat) with | some d => R.ok d S | none => .stuck) | _ => .stuck) = _
  rw [h]
  have : atI xs (d : Nat) = some x := atI_lit hx
  simp only [this]
/-- two lists of the store told apart -/
theorem eq_l {S : Sto} {i j : Nat} {xs ys : List D} {us ws : List PyData} (h1 : S[i]? = some (.lst xs)) (h2 : S[j]? = some (.lst ys)) (e1 : mapO (pd S 64) xs = some us) (e2 : mapO (pd S 64) ys = some ws) (s1 : SeqAt.shaped (.list us) = true) (s2 : SeqAt.shaped (.list ws) = true) (neg : Bool) :
    eqD neg (.ref i) (.ref j) S = .ok (.bl (if neg then !PyData.eqv (.list us) (.list ws) else PyData.eqv (.list us) (.list ws))) S := by
  have p1 : pd S 65 (.ref i) = some (.list us) := by
    show (match S[i]? with | some (.lst xs) => (mapO (pd S 64) xs).map PyData.list | _ => none) = _
    rw [h1]
    simp only [e1, Option.map_some]
  have p2 : pd S 65 (.ref j) = some (.list ws) := by
    show (match S[j]? with | some (.lst xs) => (mapO (pd S 64) xs).map PyData.list | _ => none) = _
    rw [h2]
    simp only [e2, Option.map_some]
  unfold eqD
  simp only [p1, p2, s1, s2, Bool.and_self, if_true]
end My

set_option Elab.async false
set_option linter.all false
set_option maxRecDepth 100000
set_option maxHeartbeats 4000000
namespace My
open PySem PySem.Spec PyProof.Rows L2 RZ Dn TL
def faults : List D := [.non, .str "take", .str "fill", .str "batches"]
theorem said_fault : faults.map (fun x => saidV (goodV.take 8 ++ [x])) = faults.map fun _ => some [] := said_good
def takeE (e : ME) : ME := mL (callM false [true, false] (callD 2 d__law_take)) (mCons (mVar 4) (mCons e mNil))
def goodE : ME := mSl (mVar 2) mNo (mYo (mC (.int 8)))
def faultsE : ME := mL lstD (mCons (mC .non) (mCons (mC (.str "take")) (mCons (mC (.str "fill")) (mCons (mC (.str "batches")) mNil))))
def tB : MS := (sIf (mTb (m2 (eqD true) (mL (callM false [false] (callD 1 d__law_said)) (mCons (m2 addD goodE (mL lstD (mCons (m2 itemX faultsE (takeE (mC (.int 4)))) mNil))) mNil)) (mL lstD mNil))) (sRet (mC (.bl false))) sSkip)
theorem bind_of {α β : Type} {r : R α} {a : α} {S : Sto} (f : α → Sto → R β) (h : r = .ok a S) : r.bind f = f a S := by rw [h]; rfl
theorem lst_new (xs : List D) (S : Sto) (h : xs.length ≤ 30) : lstD xs S = .ok (.ref S.length) (S ++ [.lst xs]) := by
  unfold lstD
  exact if_pos (Nat.le_trans h (by decide))
theorem goodE_ok (A0 A1 x3 x4 x5 x6 x7 x8 x9 x10 : Option D) (S : Sto) : goodE [A0, A1, some (.rol goodV), x3, x4, x5, x6, x7, x8, x9, x10] S = .ok (.ref S.length) (S ++ [.lst (goodV.take 8)]) := by kernel_rfl
theorem faultsE_ok (ρ : Ev) (S : Sto) : faultsE ρ S = .ok (.ref S.length) (S ++ [.lst faults]) := by kernel_rfl
theorem takeE_ok {ρ : Ev} {S S' : Sto} {p : Nat} {n d : Int} {e : ME} (hv : ρ[4]? = some (some (.ref p))) (he : e ρ S = .ok (.int n) S) (h : callM false [true, false] (callD 2 d__law_take) [.ref p, .int n] S = .ok (.int d) S') : takeE e ρ S = .ok (.int d) S' := by
  have v : mVar 4 ρ S = .ok (.ref p) S := by
    unfold mVar
    rw [hv]
  simp only [takeE, mL, mCons, v, R.bind, he, mNil, h]
theorem tB_ok {A0 A1 x3 x5 x6 x7 x8 x9 x10 : Option D} {S : Sto} {p : Nat} (hP : Pool S p) :
    ∃ S', tB [A0, A1, some (.rol goodV), x3, some (.ref p), x5, x6, x7, x8, x9, x10] S = .nx [A0, A1, some (.rol goodV), x3, some (.ref p), x5, x6, x7, x8, x9, x10] S' ∧ Pool S' p := by
  generalize hρ : [A0, A1, some (.rol goodV), x3, some (.ref p), x5, x6, x7, x8, x9, x10] = ρ
  have a1 : goodE ρ S = .ok (.ref S.length) (S ++ [.lst (goodV.take 8)]) := by rw [← hρ]; exact goodE_ok ..
  have hlt := hP.lt
  obtain ⟨d, S3, e3, hd, p3, b3⟩ := take_c (n := 4) ((hP.app [.lst (goodV.take 8)]).app [.lst faults]) (by decide) (by decide)
  have t3 : takeE (mC (.int 4)) ρ (S ++ [.lst (goodV.take 8)] ++ [.lst faults]) = .ok (.int (d : Nat)) S3 := takeE_ok (by rw [← hρ]; rfl) rfl e3
  have g1 : S3[S.length]? = some (.lst (goodV.take 8)) := My.But.at b3 (by omega) (get_old get_new)
  have g2 : S3[(S ++ [Ob.lst (goodV.take 8)]).length]? = some (.lst faults) := My.But.at b3 (by simp; omega) get_new
  obtain ⟨x, hx⟩ : ∃ x, faults[d]? = some x := ⟨_, List.getElem?_eq_getElem (by have : d < 4 := by omega
                                                                                exact this)⟩
  have hs : saidV (goodV.take 8 ++ [x]) = some [] := List.map_inj_left.mp said_fault x (List.mem_of_getElem? hx)
  have hpx : prDs (goodV.take 8 ++ [x]) = true := by
    have hd : d = 0 ∨ d = 1 ∨ d = 2 ∨ d = 3 := by omega
    rcases hd with rfl | rfl | rfl | rfl <;> (cases hx; rfl)
  have a4 := item_l g2 hx
  have a6 := add_l (get_old (T := [.lst [x]]) g1) (get_new (S := S3) (o := .lst [x])) (by simp [goodV])
  have a7 := call_evalR (fz := false) (m := d__law_said) (byV (get_new (S := S3 ++ [.lst [x]]) (o := .lst (goodV.take 8 ++ [x]))) hpx) ((saidV_eq _).symm.trans hs)
  have a9 := eq_l (xs := []) (ys := []) (get_old (T := [.lst []]) (get_new (S := S3 ++ [.lst [x]] ++ [.lst (goodV.take 8 ++ [x])]) (o := .lst []))) (get_new (S := S3 ++ [.lst [x]] ++ [.lst (goodV.take 8 ++ [x])] ++ [.lst []]) (o := .lst [])) rfl rfl rfl rfl true
  refine ⟨S3 ++ [.lst [x]] ++ [.lst (goodV.take 8 ++ [x])] ++ [.lst []] ++ [.lst []], ?_, (((p3.app _).app _).app _).app _⟩
  simp only [tB, sIf, mTb, m2, mL, mCons, mNil, a1, R.bind, faultsE_ok, t3, a4, lst_new [x] S3 (by simp), a6, a7, lst_new [] _ (by simp), a9]
  rfl
end My

set_option Elab.async false
set_option linter.all false
set_option maxRecDepth 100000
set_option maxHeartbeats 4000000
namespace My
open PySem PySem.Spec PyProof.Rows L2 RZ Dn TL
theorem rng_to9 : ∀ f : Nat, f < 9 → rng2 [.int (f : Nat), .int 9] = some (itR (f : Nat) (9 - f))
  | 0, _ => rfl | 1, _ => rfl | 2, _ => rfl | 3, _ => rfl | 4, _ => rfl | 5, _ => rfl | 6, _ => rfl | 7, _ => rfl | 8, _ => rfl
  | n + 9, h => by omega
theorem menu_pr' : ∀ i : Nat, i < 9 → prDs (menuV i) = true ∧ (menuV i).length ≤ 30 ∧ 1 ≤ (menuV i).length
  | 0, _ => ⟨by kernel_rfl, by decide +kernel, by decide +kernel⟩ | 1, _ => ⟨by kernel_rfl, by decide +kernel, by decide +kernel⟩ | 2, _ => ⟨by kernel_rfl, by decide +kernel, by decide +kernel⟩
  | 3, _ => ⟨by kernel_rfl, by decide +kernel, by decide +kernel⟩ | 4, _ => ⟨by kernel_rfl, by decide +kernel, by decide +kernel⟩ | 5, _ => ⟨by kernel_rfl, by decide +kernel, by decide +kernel⟩
  | 6, _ => ⟨by kernel_rfl, by decide +kernel, by decide +kernel⟩ | 7, _ => ⟨by kernel_rfl, by decide +kernel, by decide +kernel⟩ | 8, _ => ⟨by kernel_rfl, by decide +kernel, by decide +kernel⟩
  | n + 9, h => by omega
/-- a row, the first wrong place f, the places ahead of j gone through -/
structure Row (f j : Nat) (vs : List D) : Prop where
  len : vs.length = 9
  any : ∀ i, i < 9 → vs[i]? = goodV[i]? ∨ ∃ x ∈ menuV i, vs[i]? = some x
  low : ∀ i, i < f → vs[i]? = goodV[i]?
  top : ∀ i, j ≤ i → vs[i]? = goodV[i]?
  bad : f < j → ∃ x ∈ menuV f, vs[f]? = some x
  six : f = 2 → vs[6]? = goodV[6]?
theorem Row.start (f : Nat) : Row f f goodV := ⟨rfl, fun _ _ => .inl rfl, fun _ _ => rfl, fun _ _ => rfl, fun h => absurd h (Nat.lt_irrefl _), fun _ => rfl⟩
theorem Row.skip {f j : Nat} {vs : List D} (r : Row f j vs) (h : f < j) : Row f (j + 1) vs := ⟨r.len, r.any, r.low, fun i hi => r.top i (by omega), fun _ => r.bad h, r.six⟩
theorem Row.put {f j : Nat} {vs : List D} {x : D} (r : Row f j vs) (hf : f ≤ j) (hj : j < 9) (hx : x ∈ menuV j) (h6 : ¬ (f = 2 ∧ j = 6)) : Row f (j + 1) (vs.set j x) where
  len := by simp [r.len]
  any := fun i hi => by
    by_cases e : j = i
    · subst e
      exact .inr ⟨x, hx, by rw [List.getElem?_set_self (by rw [r.len]; exact hj)]⟩
    · rw [List.getElem?_set_ne e]
      exact r.any i hi
  low := fun i hi => by
    rw [List.getElem?_set_ne (by omega)]
    exact r.low i hi
  top := fun i hi => by
    rw [List.getElem?_set_ne (by omega)]
    exact r.top i (by omega)
  bad := fun _ => by
    by_cases e : j = f
    · subst e
      exact ⟨x, hx, by rw [List.getElem?_set_self (by rw [r.len]; exact hj)]⟩
    · rw [List.getElem?_set_ne e]
      exact r.bad (by omega)
  six := fun e => by
    rw [List.getElem?_set_ne (by omega)]
    exact r.six e
theorem prDs_at {xs : List D} {i : Nat} {x : D} (h : prDs xs = true) (e : xs[i]? = some x) : prD x = true := prDs_all.mp h x (List.mem_of_getElem? e)
theorem Row.pr {f j : Nat} {vs : List D} (r : Row f j vs) : prDs vs = true := prDs_all.mpr fun d hd => by
  obtain ⟨i, hi⟩ := List.getElem?_of_mem hd
  have lt : i < 9 := by
    rw [← r.len]
    exact (List.getElem?_eq_some_iff.mp hi).1
  rcases r.any i lt with h | ⟨x, hx, h⟩
  · rw [hi] at h
    exact prDs_at (xs := goodV) rfl h.symm
  · rw [hi] at h
    cases h
    exact prDs_all.mp (menu_pr' i lt).1 _ hx
def condE : MB := mOr (mTb (m2 (eqD false) (mVar 7) (mVar 5))) (mAnd (mOr (mTb (m2 (eqD true) (mVar 5) (mC (.int 2)))) (mTb (m2 (eqD true) (mVar 7) (mC (.int 6))))) (mTb (m2 (eqD false) (takeE (mC (.int 2))) (mC (.int 0)))))
def putM : MS := sPutX (mVar 6) (mVar 7) (m2 itemX (mVar 8) (takeE (mL lenD (mCons (mVar 8) mNil))))
def inner : MS := sSeq (sSet (mL (callM false [false] (callD 1 d__law_menu)) (mCons (mVar 7) mNil)) 8) (sIf condE putM sSkip)
abbrev rho (A0 A1 A2 x3 : Option D) (p : Nat) (x5 x6 x7 x8 x9 x10 : Option D) : Ev := [A0, A1, A2, x3, some (.ref p), x5, x6, x7, x8, x9, x10]
theorem cond_ok {A0 A1 A2 x3 x6 x8 x9 x10 : Option D} {S : Sto} {p f j : Nat} (hP : Pool S p) (hf : f ≤ j) :
    ∃ b S', condE (rho A0 A1 A2 x3 p (some (.int (f : Nat))) x6 (some (.int (j : Nat))) x8 x9 x10) S = .ok b S' ∧ Pool S' p ∧ (S' = S ∨ But p S S') ∧ (j = f → b = true) ∧ (f = 2 ∧ j = 6 → b = false) := by
  generalize hρ : rho A0 A1 A2 x3 p (some (.int (f : Nat))) x6 (some (.int (j : Nat))) x8 x9 x10 = ρ
  have v5 : ∀ S, mVar 5 ρ S = .ok (.int (f : Nat)) S := fun S => by rw [← hρ]; rfl
  have v7 : ∀ S, mVar 7 ρ S = .ok (.int (j : Nat)) S := fun S => by rw [← hρ]; rfl
  by_cases e : j = f
  · subst e
    refine ⟨true, S, ?_, hP, .inl rfl, fun _ => rfl, fun h => by omega⟩
    simp [condE, mOr, mTb, m2, v5, v7, R.bind]
  · have e1 : ((j : Int) == (f : Int)) = false := by
      rw [beq_eq_false_iff_ne]
      omega
    by_cases h6 : f = 2 ∧ j = 6
    · obtain ⟨rfl, rfl⟩ := h6
      refine ⟨false, S, ?_, hP, .inl rfl, fun h => by omega, fun _ => rfl⟩
      simp [condE, mOr, mAnd, mTb, m2, v5, v7, R.bind, mC]
    · obtain ⟨d, S', e3, hd, p3, b3⟩ := take_c (n := 2) hP (by decide) (by decide)
      have t3 : takeE (mC (.int 2)) ρ S = .ok (.int (d : Nat)) S' := takeE_ok (by rw [← hρ]; rfl) rfl e3
      have e2 : ((f : Int) == 2) = true → ((j : Int) == 6) = false := fun h => by
        rw [beq_iff_eq] at h
        rw [beq_eq_false_iff_ne]
        omega
      refine ⟨((d : Int) == 0), S', ?_, p3, .inr b3, fun h => absurd h e, fun h => absurd h h6⟩
      cases hq : ((f : Int) == 2) with
      | true =>
        have hj := e2 hq
        simp only [condE, mOr, mAnd, mTb, m2, v5, v7, R.bind, mC, eqD_int, e1, hq, hj, t3, if_true, if_false, Bool.not_true, Bool.not_false, Bool.false_eq_true]
      | false => simp only [condE, mOr, mAnd, mTb, m2, v5, v7, R.bind, mC, eqD_int, e1, hq, t3, if_true, if_false, Bool.not_true, Bool.not_false, Bool.false_eq_true]
theorem ixN_lt {n j : Nat} (h : j < n) : ixN n (j : Int) = some j := by
  unfold ixN
  rw [if_pos (by omega), if_pos (by omega)]
  simp
theorem inner_ok {A0 A1 A2 x3 x8 x9 x10 : Option D} {S : Sto} {p r f j : Nat} {vs : List D} (hP : Pool S p) (hr : S[r]? = some (.lst vs)) (hpr : r ≠ p) (hf : f ≤ j) (hj : j < 9) (hR : Row f j vs) :
    ∃ y8 S' vs', inner (rho A0 A1 A2 x3 p (some (.int (f : Nat))) (some (.ref r)) (some (.int (j : Nat))) x8 x9 x10) S = .nx (rho A0 A1 A2 x3 p (some (.int (f : Nat))) (some (.ref r)) (some (.int (j : Nat))) y8 x9 x10) S' ∧ Pool S' p ∧ S'[r]? = some (.lst vs') ∧ Row f (j + 1) vs' := by
  have hm := call_eval (fz := false) (m := d__law_menu) (ds := [.int (j : Nat)]) (S := S) rfl (menu_ok j hj)
  have s8 : sSet (mL (callM false [false] (callD 1 d__law_menu)) (mCons (mVar 7) mNil)) 8 (rho A0 A1 A2 x3 p (some (.int (f : Nat))) (some (.ref r)) (some (.int (j : Nat))) x8 x9 x10) S = .nx (rho A0 A1 A2 x3 p (some (.int (f : Nat))) (some (.ref r)) (some (.int (j : Nat))) (some (.ref S.length)) x9 x10) (S ++ [.lst (menuV j)]) := by
    have hm' : callM false [false] (callD 1 d__law_menu) [.int (j : Nat)] S = .ok (.ref S.length) (S ++ [.lst (menuV j)]) := hm
    have v7 : mVar 7 (rho A0 A1 A2 x3 p (some (.int (f : Nat))) (some (.ref r)) (some (.int (j : Nat))) x8 x9 x10) S = .ok (.int (j : Nat)) S := rfl
    simp only [sSet, mL, mCons, mNil, v7, R.bind, hm']
    rfl
  obtain ⟨b, S2, hc, p2, b2, hb1, hb2⟩ := cond_ok (A0 := A0) (A1 := A1) (A2 := A2) (x3 := x3) (x6 := some (.ref r)) (x8 := some (.ref S.length)) (x9 := x9) (x10 := x10) (hP.app [.lst (menuV j)]) hf
  have hrl : r < S.length := (List.getElem?_eq_some_iff.mp hr).1
  have hpl := hP.lt
  have g : ∀ i o, i ≠ p → (S ++ [Ob.lst (menuV j)])[i]? = some o → S2[i]? = some o := fun i o hi h => by
    rcases b2 with rfl | b2
    · exact h
    · exact My.But.at b2 hi h
  have r2 : S2[r]? = some (.lst vs) := g r _ hpr (get_old hr)
  have m2' : S2[S.length]? = some (.lst (menuV j)) := g _ _ (by omega) get_new
  unfold inner
  rw [seq_step s8]
  cases b with
  | false =>
    refine ⟨some (.ref S.length), S2, vs, ?_, p2, r2, hR.skip ?_⟩
    · unfold sIf
      rw [hc]
      rfl
    · have : j ≠ f := fun e => by cases hb1 e
      omega
  | true =>
    obtain ⟨pr, l1, l2⟩ := menu_pr' j hj
    obtain ⟨d, S3, e3, hd, p3, b3⟩ := take_c (n := ((menuV j).length : Nat)) p2 (by omega) (by omega)
    obtain ⟨x, hx⟩ : ∃ x, (menuV j)[d]? = some x := ⟨_, List.getElem?_eq_getElem (by omega)⟩
    have m3 : S3[S.length]? = some (.lst (menuV j)) := My.But.at b3 (by omega) m2'
    have r3 : S3[r]? = some (.lst vs) := My.But.at b3 hpr r2
    generalize hρ : rho A0 A1 A2 x3 p (some (.int (f : Nat))) (some (.ref r)) (some (.int (j : Nat))) (some (.ref S.length)) x9 x10 = ρ at hc ⊢
    have v6 : ∀ S, mVar 6 ρ S = .ok (.ref r) S := fun S => by rw [← hρ]; rfl
    have v7 : ∀ S, mVar 7 ρ S = .ok (.int (j : Nat)) S := fun S => by rw [← hρ]; rfl
    have v8 : ∀ S', mVar 8 ρ S' = .ok (.ref S.length) S' := fun S' => by rw [← hρ]; rfl
    have hl : mL lenD (mCons (mVar 8) mNil) ρ S2 = .ok (.int ((menuV j).length : Nat)) S2 := by
      simp only [mL, mCons, mNil, v8, R.bind, lenD, lenL, m2']
    have t3 : takeE (mL lenD (mCons (mVar 8) mNil)) ρ S2 = .ok (.int (d : Nat)) S3 := takeE_ok (by rw [← hρ]; rfl) hl e3
    have a4 := item_l m3 hx
    have hput : putM ρ S2 = .nx ρ (S3.set r (.lst (vs.set j x))) := by
      have hd : isDk S3 (.ref r) = false := by
        unfold isDk
        simp only [r3]
      have hp : putD (.ref r) (.int (j : Nat)) S3 x = some (S3.set r (.lst (vs.set j x))) := by
        unfold putD
        simp only [r3, hR.len, ixN_lt hj]
      simp only [putM, sPutX, m2, v8, R.bind, t3, a4, R.to, v6, v7, hd, Bool.false_eq_true, if_false, hp]
    refine ⟨some (.ref S.length), S3.set r (.lst (vs.set j x)), vs.set j x, ?_, p3.set hpr, List.getElem?_set_self (List.getElem?_eq_some_iff.mp r3).1, hR.put hf hj (List.mem_of_getElem? hx) fun h => by cases hb2 h⟩
    unfold sIf
    rw [hc, hρ]
    exact hput
end My

set_option Elab.async false
set_option linter.all false
set_option maxRecDepth 100000
set_option maxHeartbeats 4000000
namespace My
open PySem PySem.Spec PyProof.Rows L2 RZ Dn TL
theorem names_ok : ∀ f : Nat, f < 9 → ∃ n : Str, namesV[f]? = some (.str n) ∧ SeqAt.shaped (.list [.str n, .bool true]) = true ∧ PyData.eqv (.list [.str n, .bool true]) (.list [.str n, .bool true]) = true
  | 0, _ => ⟨_, rfl, by kernel_rfl, by kernel_rfl⟩ | 1, _ => ⟨_, rfl, by kernel_rfl, by kernel_rfl⟩ | 2, _ => ⟨_, rfl, by kernel_rfl, by kernel_rfl⟩ | 3, _ => ⟨_, rfl, by kernel_rfl, by kernel_rfl⟩ | 4, _ => ⟨_, rfl, by kernel_rfl, by kernel_rfl⟩
  | 5, _ => ⟨_, rfl, by kernel_rfl, by kernel_rfl⟩ | 6, _ => ⟨_, rfl, by kernel_rfl, by kernel_rfl⟩ | 7, _ => ⟨_, rfl, by kernel_rfl, by kernel_rfl⟩ | 8, _ => ⟨_, rfl, by kernel_rfl, by kernel_rfl⟩
  | n + 9, h => by omega
theorem six_of {x : D} (h : some x = some (D.int 2) ∨ ∃ y ∈ menuV 6, some x = some y) : x ∈ D.int 2 :: menuV 6 := by
  rcases h with h | ⟨y, hy, h⟩
  · rw [Option.some.inj h]
    exact List.mem_cons_self ..
  · rw [Option.some.inj h]
    exact List.mem_cons_of_mem _ hy
theorem said_row : ∀ {f : Nat} {vs : List D} {d : D}, f < 9 → Row f 9 vs → namesV[f]? = some d → saidV vs = some [d, .bl true] := by
  intro f vs d hf R hd
  obtain ⟨y, hy, hb⟩ := R.bad hf
  have hlen := R.len
  match vs, hlen with
  | [x0, x1, x2, x3, x4, x5, x6, x7, x8], _ =>
    have h6 := six_of (x := x6) (R.any 6 (by decide))
    have l0 : 0 < f → x0 = .int 2 := fun h => Option.some.inj (R.low 0 h)
    have l1 : 1 < f → x1 = gC := fun h => Option.some.inj (R.low 1 h)
    have l2 : 2 < f → x2 = gT := fun h => Option.some.inj (R.low 2 h)
    have l3 : 3 < f → x3 = .int 4 := fun h => Option.some.inj (R.low 3 h)
    have l4 : 4 < f → x4 = .int 2 := fun h => Option.some.inj (R.low 4 h)
    have l5 : 5 < f → x5 = .int 1 := fun h => Option.some.inj (R.low 5 h)
    have l6 : 6 < f → x6 = .int 2 := fun h => Option.some.inj (R.low 6 h)
    have l7 : 7 < f → x7 = .int 1 := fun h => Option.some.inj (R.low 7 h)
    match f, hf with
    | 0, _ =>
      have ed : d = .str "sockets" := (Option.some.inj (show some (D.str "sockets") = some d from hd)).symm
      subst ed
      rw [Option.some.inj hb]
      exact List.map_inj_left.mp (said0 x1 x2 x3 x4 x5 x6 x7 x8) y hy
    | 1, _ =>
      have ed : d = .str "classes" := (Option.some.inj (show some (D.str "classes") = some d from hd)).symm
      subst ed
      rw [Option.some.inj hb, l0 (by decide)]
      exact List.map_inj_left.mp (said1 x2 x3 x4 x5 x6 x7 x8) y hy
    | 2, _ =>
      have ed : d = .str "threads" := (Option.some.inj (show some (D.str "threads") = some d from hd)).symm
      subst ed
      have e6 : x6 = .int 2 := Option.some.inj (R.six rfl)
      rw [Option.some.inj hb, l0 (by decide), l1 (by decide), e6]
      exact List.map_inj_left.mp (said2 x3 x4 x5 x7 x8) y hy
    | 3, _ =>
      have ed : d = .str "pages" := (Option.some.inj (show some (D.str "pages") = some d from hd)).symm
      subst ed
      rw [Option.some.inj hb, l0 (by decide), l1 (by decide), l2 (by decide)]
      exact List.map_inj_left.mp (List.map_inj_left.mp (said3 x4 x5 x7 x8) y hy) x6 h6
    | 4, _ =>
      have ed : d = .str "batch" := (Option.some.inj (show some (D.str "batch") = some d from hd)).symm
      subst ed
      rw [Option.some.inj hb, l0 (by decide), l1 (by decide), l2 (by decide), l3 (by decide)]
      exact List.map_inj_left.mp (List.map_inj_left.mp (said4 x5 x7 x8) y hy) x6 h6
    | 5, _ =>
      have ed : d = .str "spare" := (Option.some.inj (show some (D.str "spare") = some d from hd)).symm
      subst ed
      rw [Option.some.inj hb, l0 (by decide), l1 (by decide), l2 (by decide), l3 (by decide), l4 (by decide)]
      exact List.map_inj_left.mp (List.map_inj_left.mp (said5 x7 x8) y hy) x6 h6
    | 6, _ =>
      have ed : d = .str "slots" := (Option.some.inj (show some (D.str "slots") = some d from hd)).symm
      subst ed
      rw [Option.some.inj hb, l0 (by decide), l1 (by decide), l2 (by decide), l3 (by decide), l4 (by decide), l5 (by decide)]
      exact List.map_inj_left.mp (said6 x7 x8) y hy
    | 7, _ =>
      have ed : d = .str "stops" := (Option.some.inj (show some (D.str "stops") = some d from hd)).symm
      subst ed
      rw [Option.some.inj hb, l0 (by decide), l1 (by decide), l2 (by decide), l3 (by decide), l4 (by decide), l5 (by decide), l6 (by decide)]
      exact List.map_inj_left.mp (said7 x8) y hy
    | 8, _ =>
      have ed : d = .str "fault" := (Option.some.inj (show some (D.str "fault") = some d from hd)).symm
      subst ed
      rw [Option.some.inj hb, l0 (by decide), l1 (by decide), l2 (by decide), l3 (by decide), l4 (by decide), l5 (by decide), l6 (by decide), l7 (by decide)]
      exact List.map_inj_left.mp said8 y hy
    | n + 9, h => omega
def tA : MS := sSet (mL (callM false [false, false] (callD 2 d__law_pool)) (mCons (mVar 0) (mCons (mVar 3) mNil))) 4
def tC : MS := sSet (takeE (mC (.int 9))) 5
def tD : MS := sSet (mL lstC (mCons (mVar 2) mNil)) 6
def tE : MS := sFor (mIA (fun ds _ => rng2 ds) (mCons (mVar 5) (mCons (mC (.int 9)) mNil))) (gN 7) inner
def tF : MS := (sIf (mTb (m2 (eqD true) (mL (callM false [false] (callD 1 d__law_said)) (mCons (mVar 6) mNil)) (mL lstD (mCons (m2 itemX (mVar 1) (mVar 5)) (mCons (mC (.bl true)) mNil))))) (sRet (mC (.bl false))) sSkip)
theorem tE_ok {A0 A1 A2 x3 x7 x8 x9 x10 : Option D} {S : Sto} {p r f : Nat} (hP : Pool S p) (hr : S[r]? = some (.lst goodV)) (hpr : r ≠ p) (hf : f < 9) :
    ∃ y7 y8 S' vs, tE (rho A0 A1 A2 x3 p (some (.int (f : Nat))) (some (.ref r)) x7 x8 x9 x10) S = .nx (rho A0 A1 A2 x3 p (some (.int (f : Nat))) (some (.ref r)) y7 y8 x9 x10) S' ∧ Pool S' p ∧ S'[r]? = some (.lst vs) ∧ Row f 9 vs := by
  have hloop := forF_run (it := itR (f : Nat) (9 - f)) (tg := gN 7) (body := inner)
    (fun k ρ S => ∃ y7 y8 vs, ρ = rho A0 A1 A2 x3 p (some (.int (f : Nat))) (some (.ref r)) y7 y8 x9 x10 ∧ Pool S p ∧ S[r]? = some (.lst vs) ∧ Row f (f + k) vs)
    (fun q => ∃ y7 y8 S' vs, q = .nx (rho A0 A1 A2 x3 p (some (.int (f : Nat))) (some (.ref r)) y7 y8 x9 x10) S' ∧ Pool S' p ∧ S'[r]? = some (.lst vs) ∧ Row f 9 vs)
    (fun k ρ S hk h => by
      obtain ⟨y7, y8, vs, rfl, hP, hr, hR⟩ := h
      have hk' : k < 9 - f := hk
      obtain ⟨z8, S', vs', e, p', r', R'⟩ := inner_ok (A0 := A0) (A1 := A1) (A2 := A2) (x3 := x3) (x8 := y8) (x9 := x9) (x10 := x10) hP hr hpr (j := f + k) (by omega) (by omega) hR
      refine ⟨.int ((f : Nat) + (k : Nat)), rho A0 A1 A2 x3 p (some (.int (f : Nat))) (some (.ref r)) (some (.int ((f : Nat) + (k : Nat)))) y8 x9 x10, S, rfl, rfl, .inl ⟨rho A0 A1 A2 x3 p (some (.int (f : Nat))) (some (.ref r)) (some (.int ((f + k : Nat) : Int))) z8 x9 x10, S', .inl ?_, some (.int ((f + k : Nat) : Int)), z8, vs', rfl, p', r', R'⟩⟩
      have ec : ((f : Int) + (k : Int)) = ((f + k : Nat) : Int) := by omega
      rw [ec]
      exact e)
    (fun ρ S h => by
      obtain ⟨y7, y8, vs, rfl, hP, hr, hR⟩ := h
      have e9 : f + (itR (f : Nat) (9 - f)).n = 9 := by
        show f + (9 - f) = 9
        omega
      rw [e9] at hR
      exact ⟨rfl, y7, y8, S, vs, rfl, hP, hr, hR⟩)
  obtain ⟨y7, y8, S', vs, e, q1, q2, q3⟩ := hloop _ (Nat.le_refl _) (rho A0 A1 A2 x3 p (some (.int (f : Nat))) (some (.ref r)) x7 x8 x9 x10) S ⟨x7, x8, goodV, rfl, hP, hr, by rw [Nat.sub_self]; exact Row.start f⟩
  refine ⟨y7, y8, S', vs, ?_, q1, q2, q3⟩
  have hi : mIA (fun ds _ => rng2 ds) (mCons (mVar 5) (mCons (mC (.int 9)) mNil)) (rho A0 A1 A2 x3 p (some (.int (f : Nat))) (some (.ref r)) x7 x8 x9 x10) S = .ok (itR (f : Nat) (9 - f)) S := mIA_of (ds := [.int (f : Nat), .int 9]) rfl (rng_to9 f hf)
  unfold tE
  rw [sFor_eq, hi, R.to_ok, e]
theorem tF_ok {A0 A2 x3 x7 x8 x9 x10 : Option D} {S : Sto} {p r f : Nat} {vs : List D} (hr : S[r]? = some (.lst vs)) (hf : f < 9) (hR : Row f 9 vs) :
    ∃ S', tF (rho A0 (some (.rol namesV)) A2 x3 p (some (.int (f : Nat))) (some (.ref r)) x7 x8 x9 x10) S = .nx (rho A0 (some (.rol namesV)) A2 x3 p (some (.int (f : Nat))) (some (.ref r)) x7 x8 x9 x10) S' := by
  obtain ⟨n, hn, h1, h2⟩ := names_ok f hf
  have hs := said_row hf hR hn
  have a7 := call_evalR (fz := false) (m := d__law_said) (byV hr hR.pr) ((saidV_eq _).symm.trans hs)
  generalize hρ : rho A0 (some (.rol namesV)) A2 x3 p (some (.int (f : Nat))) (some (.ref r)) x7 x8 x9 x10 = ρ
  have v1 : ∀ S, mVar 1 ρ S = .ok (.rol namesV) S := fun S => by rw [← hρ]; rfl
  have v5 : ∀ S, mVar 5 ρ S = .ok (.int (f : Nat)) S := fun S => by rw [← hρ]; rfl
  have v6 : ∀ S, mVar 6 ρ S = .ok (.ref r) S := fun S => by rw [← hρ]; rfl
  have hi : ∀ S, itemX (.rol namesV) (.int (f : Nat)) S = .ok (.str n) S := fun S => by
    show (match atI namesV (f : Nat) with | some d => Dn.R.ok d S | none => .stuck) = _
    rw [atI_lit hn]
  have a9 := eq_l (xs := [.str n, .bl true]) (ys := [.str n, .bl true]) (get_old (T := [.lst [.str n, .bl true]]) (get_new (S := S) (o := .lst [.str n, .bl true]))) (get_new (S := S ++ [.lst [.str n, .bl true]]) (o := .lst [.str n, .bl true])) rfl rfl h1 h1 true
  refine ⟨S ++ [.lst [.str n, .bl true]] ++ [.lst [.str n, .bl true]], ?_⟩
  simp only [tF, sIf, mTb, m2, mL, mCons, mNil, v6, R.bind, a7, v1, v5, hi, mC, lst_new [.str n, .bl true] _ (by simp), a9, h2]
  rfl
end My

set_option Elab.async false
set_option linter.all false
set_option maxRecDepth 100000
set_option maxHeartbeats 4000000
namespace My
open PySem PySem.Spec PyProof.Rows L2 RZ Dn TL
def turn : MS := sSeq tA (sSeq tB (sSeq tC (sSeq tD (sSeq tE tF))))
def rngW : MI := (mIA (fun ds _ => rng1 ds) (mCons (mL max2C (mCons (mC (.int 1)) (mCons (mL min2C (mCons (mC (.int 20)) (mCons (mL lenD (mCons (mVar 0) mNil)) mNil))) mNil))) mNil))
def st1 : MS := (sSet (mL lstD (mCons (mC (.str "sockets")) (mCons (mC (.str "classes")) (mCons (mC (.str "threads")) (mCons (mC (.str "pages")) (mCons (mC (.str "batch")) (mCons (mC (.str "spare")) (mCons (mC (.str "slots")) (mCons (mC (.str "stops")) (mCons (mC (.str "fault")) mNil)))))))))) 1)
def st2 : MS := (sSet (mL lstD (mCons (mC (.int 2)) (mCons (mL lstD (mCons (mC (.int 3)) (mCons (mC (.int 1)) mNil))) (mCons (mL lstD (mCons (mL tupD (mCons (mC (.int 0)) (mCons (mL lstD (mCons (mL tupD (mCons (mC (.str "alloc")) (mCons (mC (.int 1)) (mCons (mC (.int 1)) mNil)))) (mCons (mL tupD (mCons (mC (.str "free")) (mCons (mC (.int 1)) mNil))) mNil))) mNil))) (mCons (mL tupD (mCons (mC (.int 1)) (mCons (mL tupD mNil) mNil))) mNil))) (mCons (mC (.int 4)) (mCons (mC (.int 2)) (mCons (mC (.int 1)) (mCons (mC (.int 2)) (mCons (mC (.int 1)) (mCons (mC .non) mNil)))))))))) 2)
theorem boxr0_eq : boxr0_law = sSeq (sFor rngW (gN 3) turn) (sBoxR boxr1_law) := rfl
theorem b_law_eq : b_law = sSeq st1 (sSeq st2 (sBoxR boxr0_law)) := rfl
theorem turn_ok {ns : List Int} {S : Sto} {k : Nat} {x4 x5 x6 x7 x8 x9 x10 : Option D} (hl : ns.length ≤ 63) (hk : k ≤ 63) :
    ∃ y3 y4 y5 y6 y7 y8 y9 y10 S', turn [some (.rol (ns.map D.int)), some (.rol namesV), some (.rol goodV), some (.int (k : Nat)), x4, x5, x6, x7, x8, x9, x10] S = .nx [some (.rol (ns.map D.int)), some (.rol namesV), some (.rol goodV), y3, y4, y5, y6, y7, y8, y9, y10] S' := by
  obtain ⟨S1, e1, p1, h1⟩ := pool_c (S := S) (ns := ns) (k := (k : Nat)) (by omega) (by omega) hl
  have sA : tA [some (.rol (ns.map D.int)), some (.rol namesV), some (.rol goodV), some (.int (k : Nat)), x4, x5, x6, x7, x8, x9, x10] S = .nx (rho (some (.rol (ns.map D.int))) (some (.rol namesV)) (some (.rol goodV)) (some (.int (k : Nat))) S.length x5 x6 x7 x8 x9 x10) S1 := by
    have v0 : mVar 0 [some (.rol (ns.map D.int)), some (.rol namesV), some (.rol goodV), some (.int (k : Nat)), x4, x5, x6, x7, x8, x9, x10] S = .ok (.rol (ns.map D.int)) S := rfl
    have v3 : mVar 3 [some (.rol (ns.map D.int)), some (.rol namesV), some (.rol goodV), some (.int (k : Nat)), x4, x5, x6, x7, x8, x9, x10] S = .ok (.int (k : Nat)) S := rfl
    simp only [tA, sSet, mL, mCons, mNil, v0, v3, R.bind, e1]
    rfl
  obtain ⟨S2, sB, p2⟩ := tB_ok (A0 := some (.rol (ns.map D.int))) (A1 := some (.rol namesV)) (x3 := some (.int (k : Nat))) (x5 := x5) (x6 := x6) (x7 := x7) (x8 := x8) (x9 := x9) (x10 := x10) p1
  obtain ⟨f, S3, e3, hf, p3, b3⟩ := take_c (n := 9) p2 (by decide) (by decide)
  have hf' : f < 9 := by omega
  have sC : tC (rho (some (.rol (ns.map D.int))) (some (.rol namesV)) (some (.rol goodV)) (some (.int (k : Nat))) S.length x5 x6 x7 x8 x9 x10) S2 = .nx (rho (some (.rol (ns.map D.int))) (some (.rol namesV)) (some (.rol goodV)) (some (.int (k : Nat))) S.length (some (.int (f : Nat))) x6 x7 x8 x9 x10) S3 := by
    have t3 : takeE (mC (.int 9)) (rho (some (.rol (ns.map D.int))) (some (.rol namesV)) (some (.rol goodV)) (some (.int (k : Nat))) S.length x5 x6 x7 x8 x9 x10) S2 = .ok (.int (f : Nat)) S3 := takeE_ok rfl rfl e3
    simp only [tC, sSet, t3]
    rfl
  have sD : tD (rho (some (.rol (ns.map D.int))) (some (.rol namesV)) (some (.rol goodV)) (some (.int (k : Nat))) S.length (some (.int (f : Nat))) x6 x7 x8 x9 x10) S3 = .nx (rho (some (.rol (ns.map D.int))) (some (.rol namesV)) (some (.rol goodV)) (some (.int (k : Nat))) S.length (some (.int (f : Nat))) (some (.ref S3.length)) x7 x8 x9 x10) (S3 ++ [.lst goodV]) := rfl
  obtain ⟨y7, y8, S5, vs, sE, p5, r5, R5⟩ := tE_ok (A0 := some (.rol (ns.map D.int))) (A1 := some (.rol namesV)) (A2 := some (.rol goodV)) (x3 := some (.int (k : Nat))) (x7 := x7) (x8 := x8) (x9 := x9) (x10 := x10) (p3.app [.lst goodV]) (get_new (S := S3) (o := .lst goodV)) (by have := p3.lt; omega) hf'
  obtain ⟨S6, sF⟩ := tF_ok (A0 := some (.rol (ns.map D.int))) (A2 := some (.rol goodV)) (x3 := some (.int (k : Nat))) (p := S.length) (x7 := y7) (x8 := y8) (x9 := x9) (x10 := x10) r5 hf' R5
  refine ⟨some (.int (k : Nat)), some (.ref S.length), some (.int (f : Nat)), some (.ref S3.length), y7, y8, x9, x10, S6, ?_⟩
  unfold turn
  rw [seq_step sA, seq_step sB, seq_step sC, seq_step sD, seq_step sE]
  exact sF
theorem box_ok {ns : List Int} (hl : ns.length ≤ 63) : resR (boxr0_law [some (.rol (ns.map D.int)), some (.rol namesV), some (.rol goodV), none, none, none, none, none, none, none, none] []) = true := by
  obtain ⟨m, hm⟩ : ∃ m : Nat, (m : Int) = max 1 (min 20 (ns.length : Int)) := ⟨(max 1 (min 20 (ns.length : Int))).toNat, by omega⟩
  have hloop := forF_run (it := itR 0 m) (tg := gN 3) (body := turn)
    (fun j ρ S => ∃ a3 a4 a5 a6 a7 a8 a9 a10 : Option D, ρ = [some (.rol (ns.map D.int)), some (.rol namesV), some (.rol goodV), a3, a4, a5, a6, a7, a8, a9, a10])
    (fun r => ∃ (a3 a4 a5 a6 a7 a8 a9 a10 : Option D) (S : Sto), r = .nx [some (.rol (ns.map D.int)), some (.rol namesV), some (.rol goodV), a3, a4, a5, a6, a7, a8, a9, a10] S)
    (fun j ρ S hj hP => by
      obtain ⟨a3, a4, a5, a6, a7, a8, a9, a10, rfl⟩ := hP
      have hj' : j < m := hj
      obtain ⟨y3, y4, y5, y6, y7, y8, y9, y10, S', e⟩ := turn_ok (ns := ns) (k := j) (S := S) (x4 := a4) (x5 := a5) (x6 := a6) (x7 := a7) (x8 := a8) (x9 := a9) (x10 := a10) hl (by omega)
      exact ⟨.int (j : Nat), [some (.rol (ns.map D.int)), some (.rol namesV), some (.rol goodV), some (.int (j : Nat)), a4, a5, a6, a7, a8, a9, a10], S, by simp [itR], rfl, .inl ⟨_, S', .inl e, y3, y4, y5, y6, y7, y8, y9, y10, rfl⟩⟩)
    (fun ρ S hP => by
      obtain ⟨a3, a4, a5, a6, a7, a8, a9, a10, rfl⟩ := hP
      exact ⟨rfl, a3, a4, a5, a6, a7, a8, a9, a10, S, rfl⟩)
  obtain ⟨a3, a4, a5, a6, a7, a8, a9, a10, S', e⟩ := hloop _ (Nat.le_refl _) [some (.rol (ns.map D.int)), some (.rol namesV), some (.rol goodV), none, none, none, none, none, none, none, none] [] ⟨none, none, none, none, none, none, none, none, rfl⟩
  have l0 : sFor rngW (gN 3) turn [some (.rol (ns.map D.int)), some (.rol namesV), some (.rol goodV), none, none, none, none, none, none, none, none] [] = .nx [some (.rol (ns.map D.int)), some (.rol namesV), some (.rol goodV), a3, a4, a5, a6, a7, a8, a9, a10] S' := by
    have hi : rngW [some (.rol (ns.map D.int)), some (.rol namesV), some (.rol goodV), none, none, none, none, none, none, none, none] [] = .ok (itR 0 m) [] :=
      mIA_of (ds := [.int (m : Int)]) (by rw [hm]; simp [lenD, max2C, min2C]; (repeat' split) <;> omega) (rng1_nat (by omega))
    rw [sFor_eq, hi, R.to_ok, e]
  have hg : val1 S' (some (.rol goodV)) = some (.rol goodV) := mapR_pr (lk := lkX S' false true [] fuelM) (d := .rol goodV) rfl
  have l1 : sBoxR boxr1_law [some (.rol (ns.map D.int)), some (.rol namesV), some (.rol goodV), a3, a4, a5, a6, a7, a8, a9, a10] S' = .rt (.bl true) S' := by
    refine sBoxR_rt ?_
    simp only [keepV, List.map_cons, List.map_nil, hg]
    exact fin_ok ..
  rw [boxr0_eq, seq_step l0, l1]
  rfl
theorem law_true : ∀ ns : List Int, ns.length ≤ 63 → ∃ S, d_law [.rol (ns.map D.int)] [] = .ok (.bl true) S := by
  intro ns hl
  have hpr : prD (.rol (ns.map D.int)) = true := by
    simp
    exact prDs_all.mpr fun d h => by
      obtain ⟨n, _, rfl⟩ := List.mem_map.mp h
      rfl
  have e1 : st1 [some (.rol (ns.map D.int)), none, none, none, none, none, none, none, none, none, none] [] = .nx [some (.rol (ns.map D.int)), some (.ref 0), none, none, none, none, none, none, none, none, none] [.lst namesV] := by kernel_rfl
  have e2 : st2 [some (.rol (ns.map D.int)), some (.ref 0), none, none, none, none, none, none, none, none, none] [.lst namesV] = .nx [some (.rol (ns.map D.int)), some (.ref 0), some (.ref 4), none, none, none, none, none, none, none, none]
      [.lst namesV, .lst [.int 3, .int 1], .lst [.tup [.str "alloc", .int 1, .int 1], .tup [.str "free", .int 1]], .lst [.tup [.int 0, .ref 2], .tup [.int 1, .tup []]], .lst [.int 2, .ref 1, .ref 3, .int 4, .int 2, .int 1, .int 2, .int 1, .non]] := by kernel_rfl
  have h0 : ∀ S, val1 S (some (.rol (ns.map D.int))) = some (.rol (ns.map D.int)) := fun S => mapR_pr (lk := lkX S false true [] fuelM) hpr
  have e3 : b_law [some (.rol (ns.map D.int)), none, none, none, none, none, none, none, none, none, none] [] = .rt (.bl true) [.lst namesV, .lst [.int 3, .int 1], .lst [.tup [.str "alloc", .int 1, .int 1], .tup [.str "free", .int 1]], .lst [.tup [.int 0, .ref 2], .tup [.int 1, .tup []]], .lst [.int 2, .ref 1, .ref 3, .int 4, .int 2, .int 1, .int 2, .int 1, .non]] := by
    rw [b_law_eq, seq_step e1, seq_step e2]
    refine sBoxR_rt ?_
    simp only [keepV, List.map_cons, List.map_nil, h0]
    exact box_ok hl
  exact ⟨_, fn_rt (ρ := [some (.rol (ns.map D.int)), none, none, none, none, none, none, none, none, none, none]) rfl e3⟩
end My

open PySem PySem.W PyProof.Rows
set_option maxRecDepth 100000 in
set_option maxHeartbeats 0 in
theorem PySem.Challenge.cw_homefrees_k12_machines_refused_holds : PySem.Challenge.rw_homefrees_k12_machines_refused.Holds := by
  w_on; o_law; k_head; (case hw => w_witness2)
  k_fill
  refine My.walk (l := PySem.Challenge.rw_homefrees_k12_machines_refused) My.law_true rfl rfl (fun w h Y => PySem.W.kIn_of Y) ?F
  case F =>
    intro w mg fa h KX G hmg
    refine' My.all_mk KX G hmg ?e0_InvalidMachine ?e1_InvalidMachine ?e1b_InvalidMachine ?e2_InvalidMachine ?e3_InvalidMachine ?e4_InvalidMachine ?e5_InvalidMachine ?e6_InvalidMachine ?e7_InvalidMachine ?e8_InvalidMachine ?e9_InvalidMachine ?f0_InvalidMachine ?f1_InvalidMachine ?f2_InvalidMachine ?f3_InvalidMachine ?f4_InvalidMachine ?f5_InvalidMachine ?f6_InvalidMachine ?f7_InvalidMachine ?xcn ?xct ?e0_HeapError ?e3_HeapError ?e4_HeapError ?f5_HeapError ?g_HeapError_InvalidMachine ?g_InvalidMachine_InvalidMachine ?e0_State ?q0_State ?q1_State ?q2_State ?q3_State ?q4_State ?q5_State ?n_State__pages ?n_State__slots ?n_State__threads ?n_State__arrivals ?n_State__flight ?n_State__key ?r0_State_pages ?r1_State_pages ?r2_State_pages ?r3_State_pages ?r4_State_pages ?r5_State_pages ?r6_State_pages ?r0_State_slots ?r1_State_slots ?r2_State_slots ?r3_State_slots ?r4_State_slots ?r5_State_slots ?r6_State_slots ?r0_State_threads ?r1_State_threads ?r2_State_threads ?r3_State_threads ?r4_State_threads ?r5_State_threads ?r6_State_threads ?e0_Machine ?q0_Machine ?q1_Machine ?q2_Machine ?q3_Machine ?q4_Machine ?q5_Machine ?n_Machine__sockets ?n_Machine__classes ?n_Machine__threads ?n_Machine__pages ?n_Machine__batch ?n_Machine__spare ?n_Machine__slots ?n_Machine__stops ?n_Machine__fault ?n_Machine__all ?n_Machine__start ?r0_Machine_sockets ?r1_Machine_sockets ?r2_Machine_sockets ?r3_Machine_sockets ?r4_Machine_sockets ?r5_Machine_sockets ?r6_Machine_sockets ?r0_Machine_classes ?r1_Machine_classes ?r2_Machine_classes ?r3_Machine_classes ?r4_Machine_classes ?r5_Machine_classes ?r6_Machine_classes ?r0_Machine_threads ?r1_Machine_threads ?r2_Machine_threads ?r3_Machine_threads ?r4_Machine_threads ?r5_Machine_threads ?r6_Machine_threads ?r0_Machine_pages ?r1_Machine_pages ?r2_Machine_pages ?r3_Machine_pages ?r4_Machine_pages ?r5_Machine_pages ?r6_Machine_pages ?r0_Machine_slots ?r1_Machine_slots ?r2_Machine_slots ?r3_Machine_slots ?r4_Machine_slots ?r5_Machine_slots ?r6_Machine_slots ?m0_State___init__ ?m1_State___init__ ?m2_State___init__ ?m3_State___init__ ?m4_State___init__ ?m0_Machine___init__ ?m1_Machine___init__ ?m2_Machine___init__ ?m3_Machine___init__ ?m4_Machine___init__ ?w0_Machine___init___pages ?w1_Machine___init___pages ?w0_Machine___init___batch ?w1_Machine___init___batch ?w0_Machine___init___spare ?w1_Machine___init___spare ?w0_Machine___init___slots ?w1_Machine___init___slots ?w0_Machine___init___stops ?w1_Machine___init___stops ?w0_Machine___init___fault ?w1_Machine___init___fault ?a0 ?l0 ?c0 ?k0 ?a1 ?l1 ?c1 ?k1 ?a2 ?l2 ?c2 ?k2 ?a3 ?l3 ?c3 ?k3 ?a4 ?l4 ?c4 ?k4 ?a5 ?l5 ?c5 ?k5 ?a6 ?l6 ?c6 ?k6 ?a7 ?l7 ?c7 ?k7 ?a8 ?l8 ?c8 ?k8 ?a9 ?l9 ?c9 ?k9 ?a10 ?l10 ?c10 ?k10 ?a11 ?l11 ?c11 ?k11 ?a12 ?l12 ?c12 ?k12 ?a13 ?l13 ?c13 ?k13 ?a14 ?l14 ?c14 ?k14 ?a15 ?l15 ?c15 ?k15 ?a16 ?l16 ?c16 ?k16 ?z0 ?z1 ?z2 ?z3 ?z4 ?z5 ?z6 ?z7 ?z8 ?z9 ?z10 ?z11 ?ndc ?ta0 ?tl0 ?tk0 ?tt0 ?tw0 ?ta1 ?tl1 ?tk1 ?tt1 ?tw1 ?va_FAULTS ?vb_FAULTS ?va_MOST_CLASSES ?vb_MOST_CLASSES ?va_MOST_OPERATIONS ?vb_MOST_OPERATIONS ?va_MOST_THREADS ?vb_MOST_THREADS ?va_STORE ?vb_STORE
    (case e0_InvalidMachine => k_is)
    (case e1_InvalidMachine => k_is)
    (case e1b_InvalidMachine => rfl)
    (case e2_InvalidMachine => k_is)
    (case e3_InvalidMachine => k_is)
    (case e4_InvalidMachine => k_is)
    (case e5_InvalidMachine => k_is)
    (case e6_InvalidMachine => k_is)
    (case e7_InvalidMachine => k_is)
    (case e8_InvalidMachine => k_is)
    (case e9_InvalidMachine => k_is)
    (case f0_InvalidMachine => k_is)
    (case f1_InvalidMachine => k_is)
    (case f2_InvalidMachine => k_is)
    (case f3_InvalidMachine => k_is)
    (case f4_InvalidMachine => k_is)
    (case f5_InvalidMachine => k_is)
    (case f6_InvalidMachine => k_is)
    (case f7_InvalidMachine => k_is)
    (case xcn => k_is)
    (case xct => k_is)
    (case e0_HeapError => k_is)
    (case e3_HeapError => k_is)
    (case e4_HeapError => k_is)
    (case f5_HeapError => k_is)
    (case g_HeapError_InvalidMachine => first | rfl | k_is)
    (case g_InvalidMachine_InvalidMachine => first | rfl | k_is)
    (case e0_State => k_is)
    (case q0_State => k_is)
    (case q1_State => k_is)
    (case q2_State => k_is)
    (case q3_State => k_is)
    (case q4_State => k_is)
    (case q5_State => k_is)
    (case n_State__pages => k_is)
    (case n_State__slots => k_is)
    (case n_State__threads => k_is)
    (case n_State__arrivals => k_is)
    (case n_State__flight => k_is)
    (case n_State__key => k_is)
    (case r0_State_pages => k_is)
    (case r1_State_pages => k_is)
    (case r2_State_pages => k_is)
    (case r3_State_pages => k_is)
    (case r4_State_pages => k_is)
    (case r5_State_pages => k_is)
    (case r6_State_pages => k_is)
    (case r0_State_slots => k_is)
    (case r1_State_slots => k_is)
    (case r2_State_slots => k_is)
    (case r3_State_slots => k_is)
    (case r4_State_slots => k_is)
    (case r5_State_slots => k_is)
    (case r6_State_slots => k_is)
    (case r0_State_threads => k_is)
    (case r1_State_threads => k_is)
    (case r2_State_threads => k_is)
    (case r3_State_threads => k_is)
    (case r4_State_threads => k_is)
    (case r5_State_threads => k_is)
    (case r6_State_threads => k_is)
    (case e0_Machine => k_is)
    (case q0_Machine => k_is)
    (case q1_Machine => k_is)
    (case q2_Machine => k_is)
    (case q3_Machine => k_is)
    (case q4_Machine => k_is)
    (case q5_Machine => k_is)
    (case n_Machine__sockets => k_is)
    (case n_Machine__classes => k_is)
    (case n_Machine__threads => k_is)
    (case n_Machine__pages => k_is)
    (case n_Machine__batch => k_is)
    (case n_Machine__spare => k_is)
    (case n_Machine__slots => k_is)
    (case n_Machine__stops => k_is)
    (case n_Machine__fault => k_is)
    (case n_Machine__all => k_is)
    (case n_Machine__start => k_is)
    (case r0_Machine_sockets => k_is)
    (case r1_Machine_sockets => k_is)
    (case r2_Machine_sockets => k_is)
    (case r3_Machine_sockets => k_is)
    (case r4_Machine_sockets => k_is)
    (case r5_Machine_sockets => k_is)
    (case r6_Machine_sockets => k_is)
    (case r0_Machine_classes => k_is)
    (case r1_Machine_classes => k_is)
    (case r2_Machine_classes => k_is)
    (case r3_Machine_classes => k_is)
    (case r4_Machine_classes => k_is)
    (case r5_Machine_classes => k_is)
    (case r6_Machine_classes => k_is)
    (case r0_Machine_threads => k_is)
    (case r1_Machine_threads => k_is)
    (case r2_Machine_threads => k_is)
    (case r3_Machine_threads => k_is)
    (case r4_Machine_threads => k_is)
    (case r5_Machine_threads => k_is)
    (case r6_Machine_threads => k_is)
    (case r0_Machine_pages => k_is)
    (case r1_Machine_pages => k_is)
    (case r2_Machine_pages => k_is)
    (case r3_Machine_pages => k_is)
    (case r4_Machine_pages => k_is)
    (case r5_Machine_pages => k_is)
    (case r6_Machine_pages => k_is)
    (case r0_Machine_slots => k_is)
    (case r1_Machine_slots => k_is)
    (case r2_Machine_slots => k_is)
    (case r3_Machine_slots => k_is)
    (case r4_Machine_slots => k_is)
    (case r5_Machine_slots => k_is)
    (case r6_Machine_slots => k_is)
    (case m0_State___init__ => k_is)
    (case m1_State___init__ => k_is)
    (case m2_State___init__ => k_is)
    (case m3_State___init__ => k_is)
    (case m4_State___init__ => k_is)
    (case m0_Machine___init__ => k_is)
    (case m1_Machine___init__ => k_is)
    (case m2_Machine___init__ => k_is)
    (case m3_Machine___init__ => k_is)
    (case m4_Machine___init__ => k_is)
    (case w0_Machine___init___pages => k_is)
    (case w1_Machine___init___pages => first | exact ⟨_, rfl⟩ | rfl | k_is)
    (case w0_Machine___init___batch => k_is)
    (case w1_Machine___init___batch => first | exact ⟨_, rfl⟩ | rfl | k_is)
    (case w0_Machine___init___spare => k_is)
    (case w1_Machine___init___spare => first | exact ⟨_, rfl⟩ | rfl | k_is)
    (case w0_Machine___init___slots => k_is)
    (case w1_Machine___init___slots => first | exact ⟨_, rfl⟩ | rfl | k_is)
    (case w0_Machine___init___stops => k_is)
    (case w1_Machine___init___stops => first | exact ⟨_, rfl⟩ | rfl | k_is)
    (case w0_Machine___init___fault => k_is)
    (case w1_Machine___init___fault => first | exact ⟨_, rfl⟩ | rfl | k_is)
    (case a0 => k_is)
    (case l0 => k_is)
    (case c0 => k_is)
    (case k0 => k_is)
    (case a1 => k_is)
    (case l1 => k_is)
    (case c1 => k_is)
    (case k1 => k_is)
    (case a2 => k_is)
    (case l2 => k_is)
    (case c2 => k_is)
    (case k2 => k_is)
    (case a3 => k_is)
    (case l3 => k_is)
    (case c3 => k_is)
    (case k3 => k_is)
    (case a4 => k_is)
    (case l4 => k_is)
    (case c4 => k_is)
    (case k4 => k_is)
    (case a5 => k_is)
    (case l5 => k_is)
    (case c5 => k_is)
    (case k5 => k_is)
    (case a6 => k_is)
    (case l6 => k_is)
    (case c6 => k_is)
    (case k6 => k_is)
    (case a7 => k_is)
    (case l7 => k_is)
    (case c7 => k_is)
    (case k7 => k_is)
    (case a8 => k_is)
    (case l8 => k_is)
    (case c8 => k_is)
    (case k8 => k_is)
    (case a9 => k_is)
    (case l9 => k_is)
    (case c9 => k_is)
    (case k9 => k_is)
    (case a10 => k_is)
    (case l10 => k_is)
    (case c10 => k_is)
    (case k10 => k_is)
    (case a11 => k_is)
    (case l11 => k_is)
    (case c11 => k_is)
    (case k11 => k_is)
    (case a12 => k_is)
    (case l12 => k_is)
    (case c12 => k_is)
    (case k12 => k_is)
    (case a13 => k_is)
    (case l13 => k_is)
    (case c13 => k_is)
    (case k13 => k_is)
    (case a14 => k_is)
    (case l14 => k_is)
    (case c14 => k_is)
    (case k14 => k_is)
    (case a15 => k_is)
    (case l15 => k_is)
    (case c15 => k_is)
    (case k15 => k_is)
    (case a16 => k_is)
    (case l16 => k_is)
    (case c16 => k_is)
    (case k16 => k_is)
    (case z0 => k_is)
    (case z1 => k_is)
    (case z2 => k_is)
    (case z3 => k_is)
    (case z4 => k_is)
    (case z5 => k_is)
    (case z6 => k_is)
    (case z7 => k_is)
    (case z8 => k_is)
    (case z9 => k_is)
    (case z10 => k_is)
    (case z11 => k_is)
    (case ndc => decide)
    (case ta0 => k_is)
    (case tl0 => k_is)
    (case tk0 => first | k_is | (repeat (first | exact True.intro | refine ⟨⟨_, _, rfl, rfl⟩, ?_⟩)))
    (case tt0 => first | rfl | k_is)
    (case tw0 => first | rfl | k_is)
    (case ta1 => k_is)
    (case tl1 => k_is)
    (case tk1 => first | k_is | (repeat (first | exact True.intro | refine ⟨⟨_, _, rfl, rfl⟩, ?_⟩)))
    (case tt1 => first | rfl | k_is)
    (case tw1 => first | rfl | k_is)
    (case va_FAULTS => k_is)
    (case vb_FAULTS => first | rfl | k_is)
    (case va_MOST_CLASSES => k_is)
    (case vb_MOST_CLASSES => first | rfl | k_is)
    (case va_MOST_OPERATIONS => k_is)
    (case vb_MOST_OPERATIONS => first | rfl | k_is)
    (case va_MOST_THREADS => k_is)
    (case vb_MOST_THREADS => first | rfl | k_is)
    (case va_STORE => k_is)
    (case vb_STORE => first | rfl | k_is)


import PyProof.Rows.All
import Wide.All
import OpenK.AllK
import Wide.FinOn
import HandS.ForMost
import HandS.ForExc
import HandS.Defaults
import HandS.CallSlots
import HandS.Conv
import HandS.TupAny
import HandS.TupMul
import HandS.Strs
import HandS.SortInts
import HandS.IsInst
import HandS.Style
import HandS.Zip
import KE.KExcSuper
import HandS.ExcIs
import HandS.ExcField
import KE.KExcIs
import HandS.TupLen
import KE.GoesEnum
import HandS.Words
import HandS.TryMany
import KE.KStateDown
import HandS.Ends
import HandS.More
import HandS.Head0
import HandS.Head1
import HandS.Head2
import HandS.HeadEnd
import HandS.HeadHook1
import HandS.HeadHook2
import HandS.HeadHook3
import HandS.HeadHook4
import PySem.Challenge.RW_truetouch_k01_rows_as_moves
set_option Elab.async false
set_option linter.all false
set_option maxRecDepth 100000
set_option maxHeartbeats 1000000
/-! Mi, part T: tuples whose own object is known (so that their methods can be called). -/
namespace Mi
open PySem PySem.Spec PyProof.Rows L2
abbrev St := L2.St
/-- a tuple, its object known to have no dict -/
def FT (H : Hp) (a : Addr) (vs : List V) : Prop := ∃ o, H a = some (.frz o (.tup vs)) ∧ o.dict = none
theorem FT.seq {K : PySem.W.Frag} {H : Hp} {a : Addr} {vs : List V} (h : FT H a vs) : SqT K H a vs := by
  obtain ⟨o, e, _⟩ := h
  exact .inl (.inr ⟨o, e⟩)
section
variable {X : Cx} {pins : List (Addr × Obj)} {σ : St} {H : Hp} {s : Shared}
/-- what a new tuple is wanted for -/
def newT (xs : List V) (H : Hp) (Q : VK) : Prop := ∀ p o, H p = none → o.dict = none → Q (.ref p) (upd H p (.frz o (.tup xs)))
theorem laidT {h' : Heap} {xs : List V} {its : List Value} {Q : VK} {t' : Nat} (I : Inv X pins σ H s) (k : ∀ b u, s.heap.get? b = some u → h'.get? b = some u) (r : Vals xs its) (z : xs.length ≤ sizeLine) (q : newT xs H Q) :
    EP X pins σ Q (.ref h'.objs.size) { s with heap := h'.push { cls := .type "tuple", data := .seq its.toArray }, toks := t' } := by
  have I1 : Inv X pins σ H { s with heap := h', toks := t' } := I.kept (t' := t') k
  have hg : (h'.push { cls := .type "tuple", data := .seq its.toArray }).get? h'.objs.size = some { cls := .type "tuple", data := .seq its.toArray } := Heap.get?_push_size _ rfl
  refine ⟨.ref h'.objs.size, _, I1.laid (t' := t') (o := .frz { cls := .type "tuple", data := .seq its.toArray } (.tup xs)) (fun b u e => Heap.get?_push_of_some _ e) (Nat.le_refl _) ?_, rfl, q _ _ (I1.hok.fresh (Nat.le_refl _)) rfl⟩
  exact ⟨hg, z, its, r, ⟨_, hg, rfl, _, rfl⟩⟩
end
section
variable {X : Cx} {es : List Expr} {t : TA} {pos : Pos}
/-- (a, b, ..) -/
def tTupF (t : TA) : TE := fun σ H Q => t σ H fun xs H1 => xs.length ≤ sizeLine ∧ newT xs H1 Q
theorem pe_tupF {x1} (h : PA X es t) : PE X (.Tuple es x1 pos) (tTupF t) := by
  refine ⟨fun pins s σ H Q I hq => ?_⟩
  refine wpAny_Tuple_spliced (thn (h.run pos pins s σ H _ I hq) fun us s1 ⟨xs, H1, I1, r, z, q⟩ => ⟨by rw [← r.length]; exact z, ?_⟩)
  exact laidT (t' := s1.toks) I1 (fun _ _ e => e) r z q
/-- t + u -/
def rCatF (K : PySem.W.Frag) : R2 := fun x y H Q => ∃ a b xs ys, x = .ref a ∧ y = .ref b ∧ SqT K H a xs ∧ SqT K H b ys ∧ xs.length + ys.length ≤ sizeLine ∧
  (xs = [] → Q (.ref b) H) ∧ (xs ≠ [] → ys = [] → Q (.ref a) H) ∧ (xs ≠ [] → ys ≠ [] → newT (xs ++ ys) H Q)
theorem op_catF : OpR X (binaryOp .Add) (rCatF X.K) := by
  intro pins s σ H x y v u Q I rx ry h
  obtain ⟨a, b, xs, ys, rfl, rfl, ha, hb, hz, q0, q1, q2⟩ := h
  by_cases hx : xs = []
  · exact op_catA pins s σ H _ _ v u Q I rx ry ⟨a, b, xs, ys, rfl, rfl, ha, hb, hz, q0, fun z => absurd hx z, fun z => absurd hx z⟩
  · by_cases hy : ys = []
    · exact op_catA pins s σ H _ _ v u Q I rx ry ⟨a, b, xs, ys, rfl, rfl, ha, hb, hz, q0, q1, fun _ z => absurd hy z⟩
    · cases rx
      cases ry
      obtain ⟨its, r1, p1, _⟩ := I.tuple ha
      obtain ⟨its2, r2, p2, _⟩ := I.tuple hb
      refine HT.cat_tup p1 p2 (fun z => hx (r1.nil_iff.mp z)) (fun z => absurd (r2.nil_iff.mp z) hy) (fun z => ?_) (by rw [← r1.length, ← r2.length]; exact hz)
      exact laidT (t' := s.toks) I (fun _ _ e => e) (r1.append r2) (by rw [List.length_append]; exact hz) (q2 hx hy)
/-- t[a:b] -/
def rSlF (K : PySem.W.Frag) : V → Option Int → Option Int → Hp → VK → Prop := fun x lo hi H Q => ∃ a xs, x = .ref a ∧ SqT K H a xs ∧
  (HT.sIx xs.length 0 lo = 0 ∧ HT.sIx xs.length xs.length hi = xs.length → Q (.ref a) H) ∧ (¬ (HT.sIx xs.length 0 lo = 0 ∧ HT.sIx xs.length xs.length hi = xs.length) → newT (cutV xs lo hi) H Q)
theorem sl_tupF : SlR X (rSlF X.K) := by
  intro pins s σ H x v vl vu lo hi sl Q I rx hs pl pu h
  obtain ⟨a, xs, rfl, hx, q1, q2⟩ := h
  by_cases hw : HT.sIx xs.length 0 lo = 0 ∧ HT.sIx xs.length xs.length hi = xs.length
  · exact sl_tupA pins s σ H _ v vl vu lo hi sl Q I rx hs pl pu ⟨a, xs, rfl, hx, q1, fun z => absurd hw z⟩
  · cases rx
    obtain ⟨its, r, ht, hz⟩ := I.tuple hx
    have hlen : its.toArray.size = xs.length := by rw [List.size_toArray]; exact r.length.symm
    refine ⟨"tuple", _, PyProof.Rows.slot_tuple_getitem.lookup, ht.typeIs, ?_⟩
    refine HT.getItem_tuple_cut ht hs pl pu (by rw [hlen]; exact hw) ?_ (by rw [hlen]; exact hz)
    rw [hlen]
    exact laidT (t' := s.toks) I (fun _ _ e => e) ((r.drop (HT.sIx xs.length 0 lo)).take (HT.sIx xs.length xs.length hi - HT.sIx xs.length 0 lo)) (Nat.le_trans (cutV_length xs lo hi) hz) (q2 hw)
/-- tuple(xs), tuple(t) -/
def rTupOf (K : PySem.W.Frag) : List V → Hp → VK → Prop := fun xs H Q => ∃ p ys, xs = [.ref p] ∧ ((SqL K H p ys ∧ newT ys H Q) ∨ (SqT K H p ys ∧ Q (.ref p) H))
theorem call_tupleF : CallR X (.type "tuple") (rTupOf X.K) := by
  intro pins s σ H xs us Q I r h
  obtain ⟨p, ys, rfl, h⟩ := h
  obtain ⟨u, rfl, rx⟩ := vals1 r
  cases rx
  rcases h with ⟨hq, q⟩ | ⟨hq, q⟩
  · obtain ⟨its, r', pl, hz⟩ := I.list hq
    have hlen := r'.length
    refine call_tuple_list pl.isList (fun h' kp => ?_) (by simp only [List.size_toArray] <;> omega)
    exact laidT (t' := s.toks) I kp r' hz q
  · obtain ⟨its, r', pl, hz⟩ := I.tuple hq
    exact call_tuple_same pl ⟨.ref p, H, I, rfl, q⟩
/-- tuple(range(..)) -/
def tTupRgF (te : St → Hp → (Int → Int → Hp → Prop) → Prop) : TE := fun σ H Q => te σ H fun a b H1 => RgOk a b ∧ newT (rgV a b) H1 Q
theorem pe_tupRgF {e : Expr} {te : St → Hp → (Int → Int → Hp → Prop) → Prop} {p pos : Pos} (hc : X.calm = true) (hg : Gl X "tuple") (hm : X.mg "tuple" = none) (he : PRg X e te) (na : starEach [e] X.env = (false, eval e X.env) :: starEach [] X.env := by rfl) :
    PE X (.Call (.Name "tuple" p) [e] [] pos) (tTupRgF te) := by
  refine ⟨fun pins s σ H Q I h => ?_⟩
  refine Call_ (ld_blt I hg hm boot_tuple (PyProof.Rows.callWith_type1 (args_cons (thn (he pins s σ H _ I h) fun x s1 ⟨r, a, b, t, u, v, H1, ex, hr, I1, ok, q⟩ => args_nil ?_) na) na))
  subst ex
  obtain ⟨b1, b2, b3, b4, b5⟩ := ok
  refine call_tuple_range (n := (b - a).toNat) (I1.ok.hd hc) hr (small_one b1 b2 b3 b4) (rangeSize_nat a b) b5 fun h' tk acc hk hi => ?_
  have e : acc = acc.toList.toArray := (Array.toArray_toList).symm
  rw [e]
  exact laidT (t' := tk) I1 hk (vals_rg hi) (by rw [rgV_length, sizeLine_eq]; omega) q
/-- t.m(e, ..), t a tuple that is known -/
def tBMT (r : V → List V → Hp → VK → Prop) (to : TE) (t : TA) : TE := fun σ H Q => to σ H fun x H1 => (∃ a vs, x = .ref a ∧ FT H1 a vs) ∧ t σ H1 fun xs H2 => r x xs H2 Q
theorem pe_bmT {o e : Expr} {to : TE} {name : Str} {apos cpos : Pos} {id : String} {r : V → List V → Hp → VK → Prop} (pa : PlainAttrs "tuple") (slot : Slot "tuple" name id) (hty : typeOf (.builtin id) = pure (.type "method_descriptor")) (hm : MtR X id r) (ho : PE X o to) (ha : PA X (e :: es) t)
    (hbase : attributeBase o name X.env (eval o X.env) = eval o X.env := by rfl)
    (hfew : ((backTo cpos (starEach (e :: es) X.env)).all (fun x => !x.1) && (backToKw cpos (keywordEach [] X.env)).all (fun x => x.1.isSome)
      && decide ((e :: es).length + ([] : List Keyword).length + (if ([] : List Keyword).isEmpty then 0 else 1) < 30)) = true := by rfl)
    (hline : (apos.endLine == cpos.line) = true := by rfl) (hs : starEach (e :: es) X.env = (false, eval e X.env) :: starEach es X.env := by rfl) (hplain : (backTo cpos (starEach es X.env)).any (·.1) = false := by rfl) :
    PE X (.Call (.Attribute o name apos) (e :: es) [] cpos) (tBMT r to t) := by
  refine ⟨fun pins s σ H Q I h => ?_⟩
  refine wpAny_Call_method_late hbase hfew hline rfl (thn (ho.run pins s σ H _ I h) fun v s1 ⟨x, H1, I1, r1, ⟨a, vs, ex, ob, eo, ed⟩, q1⟩ => ?_)
  subst ex
  obtain rfl : v = Value.ref a := r1
  obtain ⟨go, z, its, rv, it⟩ := (show ObjOk X.prog X.w H1 s1.heap a (.frz ob (.tup vs)) from I1.hok a _ eo)
  refine ⟨"tuple", id, pa, slot, hty, (show IsTup s1.heap a its.toArray from it).typeIs, fun b eb => ?_, ?_⟩
  · cases eb
    exact ⟨ob, go, ed⟩
  have hA := ha.run cpos pins s1 σ H1 _ I1 q1
  rw [hs] at hA ⊢
  refine Calls.callWith_builtin (by show (false || (backTo cpos (starEach es X.env)).any (·.1)) = false; rw [hplain] <;> rfl) (Calls.evalArgs_plain ?_)
  exact thn hA fun us s2 ⟨ws, H2, I2, r2, q2⟩ => hm pins s2 σ H2 (.ref a) ws (.ref a) us Q I2 (show RelV (.ref a) (.ref a) from rfl) r2 q2
/-- t.index(y), flat items, y is there -/
def rTIndex (K : PySem.W.Frag) : V → List V → Hp → VK → Prop := fun x xs H Q => ∃ (a : Addr) (ys : List V) (y : V) (j : Nat) (z : V), x = V.ref a ∧ xs = [y] ∧ SqT K H a ys ∧ flatV y = true ∧ ys.all flatV = true ∧ ys[j]? = some z ∧ eqV z y = true ∧
  (∀ (m : Nat) (z' : V), m < j → ys[m]? = some z' → eqV z' y = false) ∧ Q (.int (j : Nat)) H
theorem mt_tindex : MtR X "tuple.index" (rTIndex X.K) := by
  intro pins s σ H x xs v us Q I rx rs h
  obtain ⟨p, ys, y, j, z, rfl, rfl, hq, fy, fys, hy, hzj, hno, q⟩ := h
  cases rx
  obtain ⟨u, rfl, ru⟩ := vals1 rs
  obtain ⟨its, r, pl, hz⟩ := I.tuple hq
  obtain ⟨⟨cls, dd, dt, sl⟩, ho, hc, n, hd⟩ := pl
  simp only at hc hd
  subst hc
  subst hd
  have hl : its.toArray.size = ys.length := by rw [List.size_toArray, ← r.length]
  have hj : j < its.toArray.size := by rw [hl]; exact (List.getElem?_eq_some_iff.mp hy).1
  have at' : ∀ (m : Nat) (hm : m < its.toArray.size), ∃ w, ys[m]? = some w ∧ eqU y its.toArray[m] = eqV w y := fun m hm => by
    have hm' : m < ys.length := by rw [← hl]; exact hm
    obtain ⟨w, hw, rw'⟩ := r.get (i := m) (x := ys[m]) (List.getElem?_eq_getElem hm')
    have e := (List.getElem?_eq_some_iff.mp hw).2
    refine ⟨ys[m], List.getElem?_eq_getElem hm', ?_⟩
    have e2 : its.toArray[m] = w := by rw [← e]; simp
    rw [e2]
    exact eqU_of rw' (flat_at fys (List.getElem?_eq_getElem hm'))
  refine call_meets PySem.F.slot_tuple_index ⟨_, ho, rfl⟩ PySem.F.entry_tuple_index (PySem.F.args_tuple_index_2 _ _) (TI.tuple_indexAt p its.toArray n dd sl u (eqU y) j hj ?_ ?_)
    ⟨ho, fun w hw => mem_eqAt (x := y) ru fy r fys w (by simpa using hw), ⟨.int (j : Nat), H, I.tok _, ⟨_, rfl⟩, q⟩⟩
  · obtain ⟨w, h1, h2⟩ := at' j hj
    rw [hy] at h1
    cases h1
    rw [h2]
    exact hzj
  · intro m hm hmj
    obtain ⟨w, h1, h2⟩ := at' m hm
    rw [h2]
    exact hno m w hmj h1
end
end Mi
set_option Elab.async false
set_option linter.all false
set_option maxRecDepth 100000
set_option maxHeartbeats 1000000
/-! Mi, part A: data without addresses, the frozen part of a heap, slots, the relation between a def's slots and their mirror. -/
namespace Mi
open PySem PySem.Spec PyProof.Rows L2

/-- a value without addresses -/
inductive D where
  | non | bl (b : Bool) | int (i : Int) | str (x : Str)
  | tup (xs : List D) | lst (xs : List D) | frl (xs : List D)
  | dk (kvs : List (Key × D)) | dt (kvs : List (List Key × D))
  | obj (c : Str) (fs : List (Str × D))
  | exc (a d : Addr) (c : Str) (fs : List (Str × D))

section
variable (K : PySem.W.Frag) (mg : Str → Option Value)
mutual
inductive Rp (F : Hp) : V → D → Prop
  | non : Rp F .non .non
  | bl (b : Bool) : Rp F (.bl b) (.bl b)
  | int (i : Int) : Rp F (.int i) (.int i)
  | str (x : Str) : Rp F (.str x) (.str x)
  | tup {a : Addr} {vs : List V} {ds : List D} : FT F a vs → RpA F vs ds → Rp F (.ref a) (.tup ds)
  | lst {a : Addr} {vs : List V} {ds : List D} : F a = some (.lst vs) → RpA F vs ds → Rp F (.ref a) (.lst ds)
  | frl {a : Addr} {vs : List V} {ds : List D} : SqL K F a vs → RpA F vs ds → Rp F (.ref a) (.frl ds)
  | dk {a : Addr} {ks : List (Key × V)} {ds : List (Key × D)} : F a = some (.dK ks) → RpK F ks ds → Rp F (.ref a) (.dk ds)
  | dt {a : Addr} {ks : List (List Key × V)} {ds : List (List Key × D)} : F a = some (.dT ks) → RpT F ks ds → Rp F (.ref a) (.dt ds)
  | obj {a C dx : Addr} {c : Str} {fs : List (Str × V)} {ds : List (Str × D)} : mg c = some (.ref C) → F a = some (.ins C dx fs) → RpF F fs ds → Rp F (.ref a) (.obj c ds)
  | exc {a C d : Addr} {c : Str} {fs : List (Str × V)} {ds : List (Str × D)} : mg c = some (.ref C) → F d = some (.xd fs) → RpF F fs ds → Rp F (.ref a) (.exc a d c ds)
inductive RpA (F : Hp) : List V → List D → Prop
  | nil : RpA F [] []
  | cons {v : V} {vs : List V} {d : D} {ds : List D} : Rp F v d → RpA F vs ds → RpA F (v :: vs) (d :: ds)
inductive RpK (F : Hp) : List (Key × V) → List (Key × D) → Prop
  | nil : RpK F [] []
  | cons {k : Key} {v : V} {vs : List (Key × V)} {d : D} {ds : List (Key × D)} : Rp F v d → RpK F vs ds → RpK F ((k, v) :: vs) ((k, d) :: ds)
inductive RpT (F : Hp) : List (List Key × V) → List (List Key × D) → Prop
  | nil : RpT F [] []
  | cons {k : List Key} {v : V} {vs : List (List Key × V)} {d : D} {ds : List (List Key × D)} : Rp F v d → RpT F vs ds → RpT F ((k, v) :: vs) ((k, d) :: ds)
inductive RpF (F : Hp) : List (Str × V) → List (Str × D) → Prop
  | nil : RpF F [] []
  | cons {k : Str} {v : V} {vs : List (Str × V)} {d : D} {ds : List (Str × D)} : Rp F v d → RpF F vs ds → RpF F ((k, v) :: vs) ((k, d) :: ds)
end
end

section
variable {K : PySem.W.Frag} {mg : Str → Option Value} {F F' H H' : Hp}
theorem FT.mono {a : Addr} {xs : List V} (h : FT F a xs) (e : Same F F') : FT F' a xs := by
  obtain ⟨o, h1, h2⟩ := h
  exact ⟨o, e _ _ h1, h2⟩
mutual
theorem Rp.mono {v : V} {d : D} (e : Same F F') : Rp K mg F v d → Rp K mg F' v d
  | .non => .non
  | .bl b => .bl b
  | .int i => .int i
  | .str x => .str x
  | .tup h r => .tup (h.mono e) (RpA.mono e r)
  | .lst h r => .lst (e _ _ h) (RpA.mono e r)
  | .frl h r => .frl (e.seq h) (RpA.mono e r)
  | .dk h r => .dk (e _ _ h) (RpK.mono e r)
  | .dt h r => .dt (e _ _ h) (RpT.mono e r)
  | .obj g h r => .obj g (e _ _ h) (RpF.mono e r)
  | .exc g h r => .exc g (e _ _ h) (RpF.mono e r)
theorem RpA.mono {v : List V} {d : List D} (e : Same F F') : RpA K mg F v d → RpA K mg F' v d
  | .nil => .nil
  | .cons r t => .cons (Rp.mono e r) (RpA.mono e t)
theorem RpK.mono {v : List (Key × V)} {d : List (Key × D)} (e : Same F F') : RpK K mg F v d → RpK K mg F' v d
  | .nil => .nil
  | .cons r t => .cons (Rp.mono e r) (RpK.mono e t)
theorem RpT.mono {v : List (List Key × V)} {d : List (List Key × D)} (e : Same F F') : RpT K mg F v d → RpT K mg F' v d
  | .nil => .nil
  | .cons r t => .cons (Rp.mono e r) (RpT.mono e t)
theorem RpF.mono {v : List (Str × V)} {d : List (Str × D)} (e : Same F F') : RpF K mg F v d → RpF K mg F' v d
  | .nil => .nil
  | .cons r t => .cons (Rp.mono e r) (RpF.mono e t)
end
theorem RpA.len {vs : List V} {ds : List D} : RpA K mg F vs ds → vs.length = ds.length
  | .nil => rfl
  | .cons _ t => congrArg Nat.succ (RpA.len t)
theorem RpA.get {vs : List V} {ds : List D} : ∀ {i : Nat} {d : D}, RpA K mg F vs ds → ds[i]? = some d → ∃ v, vs[i]? = some v ∧ Rp K mg F v d
  | _, _, .nil, h => by simp at h
  | 0, _, .cons r _, h => by
    cases h
    exact ⟨_, rfl, r⟩
  | i + 1, d, .cons _ t, h => RpA.get (i := i) (d := d) t h
theorem RpA.getV {vs : List V} {ds : List D} : ∀ {i : Nat} {v : V}, RpA K mg F vs ds → vs[i]? = some v → ∃ d, ds[i]? = some d ∧ Rp K mg F v d
  | _, _, .nil, h => by simp at h
  | 0, _, .cons r _, h => by
    cases h
    exact ⟨_, rfl, r⟩
  | i + 1, d, .cons _ t, h => RpA.getV (i := i) (v := d) t h
theorem RpA.app {vs ws : List V} {ds es : List D} : RpA K mg F vs ds → RpA K mg F ws es → RpA K mg F (vs ++ ws) (ds ++ es)
  | .nil, s => s
  | .cons r t, s => .cons r (RpA.app t s)
theorem RpA.take {vs : List V} {ds : List D} : ∀ (n : Nat), RpA K mg F vs ds → RpA K mg F (vs.take n) (ds.take n)
  | 0, _ => by simpa using RpA.nil
  | n + 1, .nil => .nil
  | n + 1, .cons r t => .cons r (RpA.take n t)
theorem RpA.drop {vs : List V} {ds : List D} : ∀ (n : Nat), RpA K mg F vs ds → RpA K mg F (vs.drop n) (ds.drop n)
  | 0, r => r
  | n + 1, .nil => .nil
  | n + 1, .cons _ t => RpA.drop n t
theorem RpA.set {v : V} {d : D} (q : Rp K mg F v d) {vs : List V} {ds : List D} : ∀ (i : Nat), RpA K mg F vs ds → RpA K mg F (vs.set i v) (ds.set i d)
  | _, .nil => .nil
  | 0, .cons _ t => .cons q t
  | i + 1, .cons r t => .cons r (RpA.set q i t)
theorem RpA.erase {vs : List V} {ds : List D} : ∀ (i : Nat), RpA K mg F vs ds → RpA K mg F (vs.eraseIdx i) (ds.eraseIdx i)
  | _, .nil => .nil
  | 0, .cons _ t => t
  | i + 1, .cons r t => .cons r (RpA.erase i t)
theorem RpA.dropLast {vs : List V} {ds : List D} (r : RpA K mg F vs ds) : RpA K mg F vs.dropLast ds.dropLast := by
  rw [List.dropLast_eq_take, List.dropLast_eq_take, r.len]
  exact r.take _
theorem RpA.rev {vs : List V} {ds : List D} : RpA K mg F vs ds → RpA K mg F vs.reverse ds.reverse
  | .nil => .nil
  | .cons r t => by
    rw [List.reverse_cons, List.reverse_cons]
    exact (RpA.rev t).app (.cons r .nil)
theorem RpA.one {v : V} {d : D} (r : Rp K mg F v d) : RpA K mg F [v] [d] := .cons r .nil
theorem RpA.ints : ∀ (ns : List Int), RpA K mg F (ns.map V.int) (ns.map D.int)
  | [] => .nil
  | n :: r => .cons (.int n) (RpA.ints r)
theorem RpA.to_ints {vs : List V} : ∀ {ns : List Int}, RpA K mg F vs (ns.map D.int) → vs = ns.map V.int
  | [], .nil => rfl
  | n :: r, .cons h t => by
    cases h
    rw [RpA.to_ints t]
    rfl
theorem RpA.to_bls {vs : List V} : ∀ {ns : List Bool}, RpA K mg F vs (ns.map D.bl) → vs = ns.map V.bl
  | [], .nil => rfl
  | n :: r, .cons h t => by
    cases h
    rw [RpA.to_bls t]
    rfl
theorem RpA.to_strs {vs : List V} : ∀ {ns : List Str}, RpA K mg F vs (ns.map D.str) → vs = ns.map V.str
  | [], .nil => rfl
  | n :: r, .cons h t => by
    cases h
    rw [RpA.to_strs t]
    rfl

/-! ### what a def holds in its slots -/
/-- an object that one slot alone holds, and that may be changed -/
inductive Ow where
  | lst (xs : List D) | dk (kvs : List (Key × D)) | dt (kvs : List (List Key × D)) | ins (c : Str) (fs : List (Str × D))
/-- a slot: without a value; a value that stays; an object of one's own (io: the caller's, lent) -/
inductive Sl where
  | un | val (d : D) | own (io : Bool) (o : Ow)
abbrev En := List Sl
def isOw : Option Sl → Bool
  | some (.own _ _) => true
  | _ => false
def Ow.d : Ow → D
  | .lst xs => .lst xs
  | .dk kvs => .dk kvs
  | .dt kvs => .dt kvs
  | .ins c fs => .obj c fs
end
section
variable (K : PySem.W.Frag) (mg : Str → Option Value)
inductive OwOk (F H : Hp) (a : Addr) : Ow → Prop
  | lst {vs : List V} {ds : List D} : H a = some (.lst vs) → RpA K mg F vs ds → OwOk F H a (.lst ds)
  | dk {vs : List (Key × V)} {ds : List (Key × D)} : H a = some (.dK vs) → RpK K mg F vs ds → OwOk F H a (.dk ds)
  | dt {vs : List (List Key × V)} {ds : List (List Key × D)} : H a = some (.dT vs) → RpT K mg F vs ds → OwOk F H a (.dt ds)
  | ins {c : Str} {C dx : Addr} {vs : List (Str × V)} {ds : List (Str × D)} : mg c = some (.ref C) → H a = some (.ins C dx vs) → RpF K mg F vs ds → OwOk F H a (.ins c ds)
/-- the entry of a def (or of a comprehension's block): the frozen part, the heap, what may be changed, the lent objects' slots -/
structure Gh where
  F0 : Hp
  H0 : Hp
  O : Addr → Prop
  io : List (Nat × Addr)
structure Sat (G : Gh) (F H : Hp) (σ : St) (ρ : En) : Prop where
  fh : Same F H
  f0 : Same G.F0 F
  h0 : ∀ b o, G.H0 b = some o → ¬ G.O b → H b = some o
  fn : ∀ b o, F b = some o → G.F0 b = some o ∨ G.H0 b = none ∨ G.O b
  len : ρ.length = σ.length
  val : ∀ (i : Nat) (d : D), ρ[i]? = some (Sl.val d) → ∃ v, σ[i]? = some (some v) ∧ Rp K mg F v d
  own : ∀ (i : Nat) (io : Bool) (o : Ow), ρ[i]? = some (Sl.own io o) → ∃ a, σ[i]? = some (some (V.ref a)) ∧ F a = none ∧ OwOk K mg F H a o ∧ (G.O a ∨ G.H0 a = none)
  dis : ∀ (i j : Nat) (a : Addr), i ≠ j → isOw ρ[i]? = true → isOw ρ[j]? = true → σ[i]? = some (some (V.ref a)) → σ[j]? = some (some (V.ref a)) → False
  io : ∀ (k : Nat) (a : Addr), (k, a) ∈ G.io → σ[k]? = some (some (V.ref a)) ∧ ∃ o, ρ[k]? = some (Sl.own true o)
end
section
variable {K : PySem.W.Frag} {mg : Str → Option Value} {F F' H H' : Hp} {G : Gh} {σ : St} {ρ : En} {a : Addr} {o : Ow}
theorem OwOk.at (h : OwOk K mg F H a o) : ∃ u, H a = some u := by
  cases h with
  | lst h _ => exact ⟨_, h⟩
  | dk h _ => exact ⟨_, h⟩
  | dt h _ => exact ⟨_, h⟩
  | ins _ h _ => exact ⟨_, h⟩
theorem OwOk.mono (h : OwOk K mg F H a o) (e : Same F F') (k : H' a = H a) : OwOk K mg F' H' a o := by
  cases h with
  | lst h r => exact .lst (k.trans h) (r.mono e)
  | dk h r => exact .dk (k.trans h) (r.mono e)
  | dt h r => exact .dt (k.trans h) (r.mono e)
  | ins g h r => exact .ins g (k.trans h) (r.mono e)
/-- what new objects leave: frozen and heap grow, by fresh addresses alone -/
structure Ext (F H F' H' : Hp) : Prop where
  ff : Same F F'
  hh : Same H H'
  fh : Same F' H'
  nw : ∀ b o, F' b = some o → F b = some o ∨ H b = none
theorem Ext.refl (e : Same F H) : Ext F H F H := ⟨Same.refl _, Same.refl _, e, fun _ _ h => .inl h⟩
theorem same_upd {p : Addr} {u : HO} (h : H p = none) : Same H (upd H p u) := fun b x e => by
  rw [upd_ne (ne_of_none e h)]
  exact e
/-- a new object, frozen at once -/
theorem Ext.new {p : Addr} {u : HO} (e : Same F H) (hp : H p = none) : Ext F H (upd F p u) (upd H p u) := by
  have fp : F p = none := e.free hp
  refine ⟨same_upd fp, same_upd hp, fun b o q => ?_, fun b o q => ?_⟩
  · by_cases hb : b = p
    · subst hb
      rw [upd_same] at q ⊢
      exact q
    · rw [upd_ne hb] at q ⊢
      exact e b o q
  · by_cases hb : b = p
    · subst hb
      exact .inr hp
    · rw [upd_ne hb] at q
      exact .inl q
theorem Ext.trans {F2 H2 : Hp} (a : Ext F H F' H') (b : Ext F' H' F2 H2) : Ext F H F2 H2 := by
  refine ⟨a.ff.trans b.ff, a.hh.trans b.hh, b.fh, fun c o q => ?_⟩
  rcases b.nw c o q with h | h
  · exact a.nw c o h
  · exact .inr (a.hh.free h)
theorem Sat.fresh0 (S : Sat K mg G F H σ ρ) {p : Addr} (h : H p = none) : G.H0 p = none ∨ G.O p := by
  cases q : G.H0 p with
  | none => exact .inl rfl
  | some u =>
    refine .inr (Classical.byContradiction fun z => ?_)
    rw [S.h0 p u q z] at h
    cases h
theorem Sat.ext (S : Sat K mg G F H σ ρ) (e : Ext F H F' H') : Sat K mg G F' H' σ ρ := by
  refine ⟨e.fh, S.f0.trans e.ff, fun b o h n => e.hh b o (S.h0 b o h n), fun b o h => ?_, S.len, fun i d h => ?_, fun i io o h => ?_, S.dis, S.io⟩
  · rcases e.nw b o h with q | q
    · exact S.fn b o q
    · exact .inr (S.fresh0 q)
  · obtain ⟨v, h1, h2⟩ := S.val i d h
    exact ⟨v, h1, h2.mono e.ff⟩
  · obtain ⟨a, h1, h2, h3, h4⟩ := S.own i io o h
    obtain ⟨u, hu⟩ := h3.at
    refine ⟨a, h1, ?_, h3.mono e.ff ((e.hh a u hu).trans hu.symm), h4⟩
    cases q : F' a with
    | none => rfl
    | some z =>
      rcases e.nw a z q with q | q
      · rw [h2] at q; cases q
      · rw [hu] at q; cases q
end
end Mi
set_option Elab.async false
set_option linter.all false
set_option maxRecDepth 100000
set_option maxHeartbeats 1000000
/-! Mi, part B: results, the judgements, expressions. -/
namespace Mi
open PySem PySem.Spec PyProof.Rows L2

/-- an error of a class of one's own -/
structure Xc where
  c : Str
  fs : List (Str × D)
/-- what a piece comes to: a thing and the slots behind it; an error; not told -/
inductive R (α : Type) where
  | ok (a : α) (ρ : En) | ex (x : Xc) (ρ : En) | bad
def R.bind {α β : Type} (r : R α) (f : α → En → R β) : R β := match r with
  | .ok a ρ => f a ρ
  | .ex x ρ => .ex x ρ
  | .bad => .bad
/-- what an expression hands on: data, what a slot holds (looked at when it is used), a new object that nothing else names -/
inductive OV where
  | d (x : D) | o (i : Nat) | n (w : Ow)
/-- an operand that waits -/
inductive OB where
  | d (x : D) | o (i : Nat)
def OV.fz : OV → OB
  | .d x => .d x
  | .o i => .o i
  | .n w => .d w.d
def OB.get (ρ : En) : OB → Option D
  | .d x => some x
  | .o i => match ρ[i]? with
    | some (.own _ w) => some w.d
    | some (.val w) => some w
    | _ => none
abbrev EM := En → R OV
abbrev TM := En → R Bool
abbrev AM := En → R (List OB)

section
variable (K : PySem.W.Frag) (mg : Str → Option Value)
inductive RpB (F : Hp) (σ : St) : V → OB → Prop
  | d {v : V} {x : D} : Rp K mg F v x → RpB F σ v (.d x)
  | o {v : V} {i : Nat} : σ[i]? = some (some v) → RpB F σ v (.o i)
inductive RpBs (F : Hp) (σ : St) : List V → List OB → Prop
  | nil : RpBs F σ [] []
  | cons {v : V} {x : OB} {vs : List V} {xs : List OB} : RpB K mg F σ v x → RpBs F σ vs xs → RpBs F σ (v :: vs) (x :: xs)
inductive RpO (G : Gh) (F H : Hp) (σ : St) (ρ : En) : V → OV → Prop
  | d {v : V} {x : D} : Rp K mg F v x → RpO G F H σ ρ v (.d x)
  | o {v : V} {i : Nat} : σ[i]? = some (some v) → RpO G F H σ ρ v (.o i)
  | n {a : Addr} {w : Ow} : F a = none → OwOk K mg F H a w → (G.O a ∨ G.H0 a = none) → (∀ j : Nat, isOw ρ[j]? = true → σ[j]? = some (some (V.ref a)) → False) → RpO G F H σ ρ (.ref a) (.n w)
/-- an operand at the moment when it is used -/
inductive RpI (F H : Hp) : V → D → Prop
  | fz {v : V} {d : D} : Rp K mg F v d → RpI F H v d
  | own {a : Addr} {o : Ow} : OwOk K mg F H a o → RpI F H (.ref a) o.d
def Raised (W : WX) (G : Gh) (F : Hp) (σ : St) (x : Xc) (ρ : En) : Prop :=
  ∀ F' H' C d fs, mg x.c = some (.ref C) → Sat K mg G F' H' σ ρ → Same F F' → F' d = some (.xd fs) → RpF K mg F' fs x.fs → W (.ref C) (some d) σ H'
def Gd (W : WX) {α β : Type} (Rep : Gh → Hp → Hp → St → En → β → α → Prop) (G : Gh) (F : Hp) (σ : St) (r : R α) (Q : β → Hp → Prop) : Prop := match r with
  | .ok v ρ => ∀ F' H' x, Sat K mg G F' H' σ ρ → Same F F' → Rep G F' H' σ ρ x v → Q x H'
  | .ex x ρ => Raised K mg W G F σ x ρ
  | .bad => False
def tE (W : WX) (m : EM) : TE := fun σ H Q => ∃ G F ρ, Sat K mg G F H σ ρ ∧ Gd K mg W (RpO K mg) G F σ (m ρ) Q
def tA (W : WX) (m : AM) : TA := fun σ H Q => ∃ G F ρ, Sat K mg G F H σ ρ ∧ Gd K mg W (fun _ F _ σ _ => RpBs K mg F σ) G F σ (m ρ) Q
def tT (W : WX) (m : TM) : TT := fun σ H Q => ∃ G F ρ, Sat K mg G F H σ ρ ∧ Gd K mg W (fun _ _ _ _ _ b c => b = c) G F σ (m ρ) Q
end
abbrev ME (X : Cx) (W : WX) (e : Expr) (m : EM) : Prop := PE X e (tE X.K X.mg W m)
abbrev MA (X : Cx) (W : WX) (es : List Expr) (m : AM) : Prop := PA X es (tA X.K X.mg W m)
abbrev MT (X : Cx) (W : WX) (e : Expr) (m : TM) : Prop := PT X e (tT X.K X.mg W m)
abbrev MW (X : Cx) (W : WX) (e : Expr) (m : TM) : Prop := PW X e (tT X.K X.mg W m)

section
variable {K : PySem.W.Frag} {mg : Str → Option Value} {W : WX} {F F' H H' : Hp} {G : Gh} {σ : St} {ρ : En}
theorem RpB.mono {v : V} {x : OB} (e : Same F F') (r : RpB K mg F σ v x) : RpB K mg F' σ v x := by
  cases r with
  | d r => exact .d (r.mono e)
  | o h => exact .o h
theorem RpBs.mono {v : List V} {x : List OB} (e : Same F F') : RpBs K mg F σ v x → RpBs K mg F' σ v x
  | .nil => .nil
  | .cons r t => .cons (r.mono e) (RpBs.mono e t)
theorem Raised.mono {x : Xc} (e : Same F F') (h : Raised K mg W G F σ x ρ) : Raised K mg W G F' σ x ρ := fun F2 H2 C d fs g S e2 hd r => h F2 H2 C d fs g S (e.trans e2) hd r
theorem Gd.mono {α β : Type} {Rep : Gh → Hp → Hp → St → En → β → α → Prop} {r : R α} {Q : β → Hp → Prop} (e : Same F F') (h : Gd K mg W Rep G F σ r Q) : Gd K mg W Rep G F' σ r Q := by
  cases r with
  | ok v ρ => exact fun F2 H2 x S e2 r => h F2 H2 x S (e.trans e2) r
  | ex x ρ => exact Raised.mono e h
  | bad => exact h
/-- one piece behind another -/
theorem Gd.bind {α β γ δ : Type} {Rep : Gh → Hp → Hp → St → En → β → α → Prop} {Rep2 : Gh → Hp → Hp → St → En → δ → γ → Prop} {r : R α} {f : α → En → R γ} {Q : δ → Hp → Prop} {Q' : β → Hp → Prop} (h : Gd K mg W Rep2 G F σ (r.bind f) Q)
    (k : ∀ v ρ' F' H' x, r = .ok v ρ' → Sat K mg G F' H' σ ρ' → Same F F' → Rep G F' H' σ ρ' x v → Gd K mg W Rep2 G F' σ (f v ρ') Q → Q' x H') : Gd K mg W Rep G F σ r Q' := by
  cases r with
  | ok v ρ => exact fun F2 H2 x S e2 r => k v ρ F2 H2 x rfl S e2 r (Gd.mono e2 h)
  | ex x ρ => exact h
  | bad => exact h
theorem OwOk.rp {a : Addr} {o : Ow} (e : Same F H) (h : OwOk K mg F H a o) : Rp K mg H (.ref a) o.d := by
  cases h with
  | lst h r => exact .lst h (r.mono e)
  | dk h r => exact .dk h (r.mono e)
  | dt h r => exact .dt h (r.mono e)
  | ins g h r => exact .obj g h (r.mono e)
theorem RpI.rp {x : V} {d : D} (e : Same F H) (h : RpI K mg F H x d) : Rp K mg H x d := by
  cases h with
  | fz r => exact r.mono e
  | own o => exact o.rp e
/-- a list's items stay -/
theorem RpI.lst {x : V} {ds : List D} (e : Same F H) (h : RpI K mg F H x (.lst ds)) : ∃ a vs, x = .ref a ∧ H a = some (.lst vs) ∧ RpA K mg F vs ds := by
  generalize hd : D.lst ds = d at h
  cases h with
  | fz r =>
    cases r with
    | lst h r =>
      cases hd
      exact ⟨_, _, rfl, e _ _ h, r⟩
    | _ => cases hd
  | own o =>
    cases o with
    | lst h r =>
      cases hd
      exact ⟨_, _, rfl, h, r⟩
    | _ => cases hd
theorem RpI.tup {x : V} {ds : List D} (e : Same F H) (h : RpI K mg F H x (.tup ds)) : ∃ a vs, x = .ref a ∧ FT F a vs ∧ RpA K mg F vs ds := by
  generalize hd : D.tup ds = d at h
  cases h with
  | fz r =>
    cases r with
    | tup h r =>
      cases hd
      exact ⟨_, _, rfl, h, r⟩
    | _ => cases hd
  | own o =>
    cases o with
    | _ => cases hd
theorem RpI.int {x : V} {i : Int} (h : RpI K mg F H x (.int i)) : x = .int i := by
  generalize hd : D.int i = d at h
  cases h with
  | fz r =>
    cases r with
    | int =>
      cases hd
      rfl
    | _ => cases hd
  | own o =>
    cases o with
    | _ => cases hd
theorem RpI.bl {x : V} {i : Bool} (h : RpI K mg F H x (.bl i)) : x = .bl i := by
  generalize hd : D.bl i = d at h
  cases h with
  | fz r =>
    cases r with
    | bl =>
      cases hd
      rfl
    | _ => cases hd
  | own o =>
    cases o with
    | _ => cases hd
theorem RpI.str {x : V} {i : Str} (h : RpI K mg F H x (.str i)) : x = .str i := by
  generalize hd : D.str i = d at h
  cases h with
  | fz r =>
    cases r with
    | str =>
      cases hd
      rfl
    | _ => cases hd
  | own o =>
    cases o with
    | _ => cases hd
theorem RpI.non {x : V} (h : RpI K mg F H x .non) : x = .non := by
  generalize hd : D.non = d at h
  cases h with
  | fz r =>
    cases r with
    | non => rfl
    | _ => cases hd
  | own o =>
    cases o with
    | _ => cases hd
theorem Sat.get (S : Sat K mg G F H σ ρ) {x : V} {v : OB} {d : D} (r : RpB K mg F σ x v) (h : v.get ρ = some d) : RpI K mg F H x d := by
  cases r with
  | d r =>
    cases h
    exact .fz r
  | o e =>
    rename_i i
    have h' : (match ρ[i]? with
      | some (.own _ o) => some o.d
      | some (.val d) => some d
      | _ => none) = some d := h
    cases q : ρ[i]? with
    | none =>
      rw [q] at h'
      cases h'
    | some s =>
      rw [q] at h'
      cases s with
      | un => cases h'
      | val d' =>
        cases h'
        obtain ⟨w, h1, h2⟩ := S.val i _ q
        rw [e] at h1
        cases h1
        exact .fz h2
      | own io o =>
        cases h'
        obtain ⟨a, h1, h2, h3, h4⟩ := S.own i io o q
        rw [e] at h1
        cases h1
        exact .own h3

/-- an object of one's own is named by others from now on: it stays as it is -/
theorem Sat.freeze (S : Sat K mg G F H σ ρ) {a : Addr} {w : Ow} (fa : F a = none) (ok : OwOk K mg F H a w) (g : G.O a ∨ G.H0 a = none) (nj : ∀ j : Nat, isOw ρ[j]? = true → σ[j]? = some (some (V.ref a)) → False) :
    ∃ F', Same F F' ∧ Sat K mg G F' H σ ρ ∧ Rp K mg F' (.ref a) w.d ∧ ∀ b, b ≠ a → F' b = F b := by
  obtain ⟨u, hu⟩ := ok.at
  have sm : Same F (upd F a u) := same_upd fa
  refine ⟨upd F a u, sm, ⟨fun b o q => ?_, S.f0.trans sm, S.h0, fun b o q => ?_, S.len, fun i d q => ?_, fun i io o q => ?_, S.dis, S.io⟩, ?_, fun b hb => upd_ne hb⟩
  · by_cases hb : b = a
    · subst hb
      rw [upd_same] at q
      exact hu.trans q
    · rw [upd_ne hb] at q
      exact S.fh b o q
  · by_cases hb : b = a
    · subst hb
      rcases g with g | g
      · exact .inr (.inr g)
      · exact .inr (.inl g)
    · rw [upd_ne hb] at q
      exact S.fn b o q
  · obtain ⟨v, h1, h2⟩ := S.val i d q
    exact ⟨v, h1, h2.mono sm⟩
  · obtain ⟨c, h1, h2, h3, h4⟩ := S.own i io o q
    have hc : c ≠ a := fun e => by
      subst e
      exact nj i (by rw [q]; rfl) h1
    exact ⟨c, h1, by rw [upd_ne hc]; exact h2, h3.mono sm rfl, h4⟩
  · cases ok with
    | lst h r =>
      rw [h] at hu
      cases hu
      exact .lst upd_same (r.mono sm)
    | dk h r =>
      rw [h] at hu
      cases hu
      exact .dk upd_same (r.mono sm)
    | dt h r =>
      rw [h] at hu
      cases hu
      exact .dt upd_same (r.mono sm)
    | ins m h r =>
      rw [h] at hu
      cases hu
      exact .obj m upd_same (r.mono sm)
theorem Sat.fz (S : Sat K mg G F H σ ρ) {x : V} {v : OV} (r : RpO K mg G F H σ ρ x v) : ∃ F', Same F F' ∧ Sat K mg G F' H σ ρ ∧ RpB K mg F' σ x v.fz := by
  cases r with
  | d r => exact ⟨F, Same.refl _, S, .d r⟩
  | o h => exact ⟨F, Same.refl _, S, .o h⟩
  | n h1 h2 h3 h4 =>
    obtain ⟨F', a1, a2, a3, _⟩ := S.freeze h1 h2 h3 h4
    exact ⟨F', a1, a2, .d a3⟩
end

section
variable {X : Cx} {W : WX} {e : Expr} {m : EM}
theorem ME.weak {t : TE} (h : PE X e t) (k : ∀ {σ : St} {H : Hp} {Q : VK} {G : Gh} {F : Hp} {ρ : En}, Sat X.K X.mg G F H σ ρ → Gd X.K X.mg W (RpO X.K X.mg) G F σ (m ρ) Q → t σ H Q) : ME X W e m :=
  ⟨fun pins s σ H Q I ⟨_, _, _, S, g⟩ => h.run pins s σ H Q I (k S g)⟩
theorem MT.weak {e : Expr} {m : TM} {t : TT} (h : PT X e t) (k : ∀ {σ : St} {H : Hp} {Q : Bool → Hp → Prop} {G : Gh} {F : Hp} {ρ : En}, Sat X.K X.mg G F H σ ρ → Gd X.K X.mg W (fun _ _ _ _ _ b c => b = c) G F σ (m ρ) Q → t σ H Q) : MT X W e m :=
  ⟨fun pins s σ H Q I ⟨_, _, _, S, g⟩ => h.run pins s σ H Q I (k S g)⟩
theorem MW.weak {e : Expr} {m : TM} {t : TT} (h : PW X e t) (k : ∀ {σ : St} {H : Hp} {Q : Bool → Hp → Prop} {G : Gh} {F : Hp} {ρ : En}, Sat X.K X.mg G F H σ ρ → Gd X.K X.mg W (fun _ _ _ _ _ b c => b = c) G F σ (m ρ) Q → t σ H Q) : MW X W e m :=
  ⟨fun wh pins s σ H Q I ⟨_, _, _, S, g⟩ => h.run wh pins s σ H Q I (k S g)⟩
theorem MA.weak {es : List Expr} {m : AM} {t : TA} (h : PA X es t) (k : ∀ {σ : St} {H : Hp} {Q : List V → Hp → Prop} {G : Gh} {F : Hp} {ρ : En}, Sat X.K X.mg G F H σ ρ → Gd X.K X.mg W (fun _ F _ σ _ => RpBs X.K X.mg F σ) G F σ (m ρ) Q → t σ H Q) : MA X W es m :=
  ⟨fun pos pins s σ H Q I ⟨_, _, _, S, g⟩ => h.run pos pins s σ H Q I (k S g)⟩

/-! ### names, constants -/
/-- a slot: what it holds, at once (a value) or when it is used (an object of one's own) -/
def mVar (i : Nat) : EM := fun ρ => match ρ[i]? with
  | some (.val d) => .ok (.d d) ρ
  | some (.own _ _) => .ok (.o i) ρ
  | _ => .bad
def mC (d : D) : EM := fun ρ => .ok (.d d) ρ
theorem me_var (i : Nat) {x : Str} {pos : Pos} (h : PE X (.Name x pos) (tVar i)) : ME X W (.Name x pos) (mVar i) := by
  refine ME.weak h fun {σ H Q G F ρ} S g => ?_
  unfold mVar at g
  cases q : ρ[i]? with
  | none =>
    rw [q] at g
    exact g.elim
  | some s =>
    rw [q] at g
    cases s with
    | un => exact g.elim
    | val d =>
      obtain ⟨v, h1, h2⟩ := S.val i d q
      exact ⟨v, h1, g F H v S (Same.refl _) (.d h2)⟩
    | own io o =>
      obtain ⟨a, h1, _⟩ := S.own i io o q
      exact ⟨_, h1, g F H _ S (Same.refl _) (.o h1)⟩
theorem me_c {v : V} {d : D} (h : PE X e (tC v)) (r : ∀ F, Rp X.K X.mg F v d) : ME X W e (mC d) :=
  ME.weak h fun {σ H Q G F ρ} S g => g F H v S (Same.refl _) (.d (r F))
theorem me_int {i j pos} : ME X W (.Constant (.int i) j pos) (mC (.int i)) := me_c pe_int fun _ => .int i
theorem me_bl {b j pos} : ME X W (.Constant (.bool b) j pos) (mC (.bl b)) := me_c pe_bl fun _ => .bl b
theorem me_non {j pos} : ME X W (.Constant .none j pos) (mC .non) := me_c pe_non fun _ => .non
theorem me_str {x j pos} : ME X W (.Constant (.str x) j pos) (mC (.str x)) := me_c pe_str fun _ => .str x

/-! ### operators -/
/-- how a two-place rule of the layer reckons with data -/
def Op2 (K : PySem.W.Frag) (mg : Str → Option Value) (r : R2) (g : D → D → Option D) : Prop := ∀ {F H : Hp} {x y : V} {d e z : D} {Q : VK}, Same F H → RpI K mg F H x d → RpI K mg F H y e → g d e = some z →
  (∀ F' H' w, Ext F H F' H' → Rp K mg F' w z → Q w H') → r x y H Q
def Op1 (K : PySem.W.Frag) (mg : Str → Option Value) (r : V → Hp → VK → Prop) (g : D → Option D) : Prop := ∀ {F H : Hp} {x : V} {d z : D} {Q : VK}, Same F H → RpI K mg F H x d → g d = some z →
  (∀ F' H' w, Ext F H F' H' → Rp K mg F' w z → Q w H') → r x H Q
def rz (o : Option D) (ρ : En) : R OV := match o with
  | some z => .ok (.d z) ρ
  | none => .bad
def ap2 (g : D → D → Option D) (v u : OB) (ρ : En) : R OV := match v.get ρ with
  | some d => (match u.get ρ with
    | some e => rz (g d e) ρ
    | none => .bad)
  | none => .bad
def ap1 (g : D → Option D) (v : OB) (ρ : En) : R OV := match v.get ρ with
  | some d => rz (g d) ρ
  | none => .bad
def mB (g : D → D → Option D) (ma mb : EM) : EM := fun ρ => (ma ρ).bind fun v ρ => (mb ρ).bind fun u ρ => ap2 g v.fz u.fz ρ
def mU (g : D → Option D) (ma : EM) : EM := fun ρ => (ma ρ).bind fun v ρ => ap1 g v.fz ρ
variable {K : PySem.W.Frag} {mg : Str → Option Value} {F F' H H' : Hp} {G : Gh} {σ : St} {ρ : En}
theorem fin_rz {o : Option D} {Q : VK} (S : Sat K mg G F H σ ρ) (g : Gd K mg W (RpO K mg) G F σ (rz o ρ) Q) : ∃ z, o = some z ∧ ∀ F' H' w, Ext F H F' H' → Rp K mg F' w z → Q w H' := by
  cases o with
  | none => exact g.elim
  | some z => exact ⟨z, rfl, fun F' H' w e r => g F' H' w (S.ext e) e.ff (.d r)⟩
theorem fin2 {g : D → D → Option D} {r : R2} {x y : V} {v u : OB} {Q : VK} (o : Op2 K mg r g) (S : Sat K mg G F H σ ρ) (rx : RpB K mg F σ x v) (ry : RpB K mg F σ y u) (h : Gd K mg W (RpO K mg) G F σ (ap2 g v u ρ) Q) : r x y H Q := by
  unfold ap2 at h
  cases q1 : v.get ρ with
  | none =>
    rw [q1] at h
    exact h.elim
  | some d =>
    rw [q1] at h
    cases q2 : u.get ρ with
    | none =>
      rw [q2] at h
      exact h.elim
    | some e =>
      rw [q2] at h
      obtain ⟨z, hz, k⟩ := fin_rz S h
      exact o S.fh (S.get rx q1) (S.get ry q2) hz k
theorem fin1 {g : D → Option D} {r : V → Hp → VK → Prop} {x : V} {v : OB} {Q : VK} (o : Op1 K mg r g) (S : Sat K mg G F H σ ρ) (rx : RpB K mg F σ x v) (h : Gd K mg W (RpO K mg) G F σ (ap1 g v ρ) Q) : r x H Q := by
  unfold ap1 at h
  cases q1 : v.get ρ with
  | none =>
    rw [q1] at h
    exact h.elim
  | some d =>
    rw [q1] at h
    obtain ⟨z, hz, k⟩ := fin_rz S h
    exact o S.fh (S.get rx q1) hz k
theorem sub {ma : EM} {Q : VK} (S : Sat K mg G F H σ ρ) (h : Gd K mg W (RpO K mg) G F σ (ma ρ) Q) : tE K mg W ma σ H Q := ⟨G, F, ρ, S, h⟩
/-- an operand, then the rest -/
theorem Gd.opd {γ δ : Type} {Rep2 : Gh → Hp → Hp → St → En → δ → γ → Prop} {r : R OV} {f : OB → En → R γ} {Q : δ → Hp → Prop} {Q' : V → Hp → Prop} (h : Gd K mg W Rep2 G F σ (r.bind fun v ρ => f v.fz ρ) Q)
    (k : ∀ v ρ' F' H' x, Sat K mg G F' H' σ ρ' → Same F F' → RpB K mg F' σ x v → Gd K mg W Rep2 G F' σ (f v ρ') Q → Q' x H') : Gd K mg W (RpO K mg) G F σ r Q' :=
  Gd.bind h fun v ρ1 F1 H1 x _ S1 e1 r1 k1 => by
    obtain ⟨F2, e2, S2, r2⟩ := S1.fz r1
    exact k v.fz ρ1 F2 H1 x S2 (e1.trans e2) r2 (Gd.mono e2 k1)
theorem two_ok {r : R2} {g : D → D → Option D} {ma mb : EM} {Q : VK} (o : Op2 K mg r g) (S : Sat K mg G F H σ ρ) (k : Gd K mg W (RpO K mg) G F σ (mB g ma mb ρ) Q) : tOp r (tE K mg W ma) (tE K mg W mb) σ H Q :=
  sub S (Gd.opd (f := fun v ρ => (mb ρ).bind fun u ρ => ap2 g v u.fz ρ) k fun v ρ1 F1 H1 x S1 e1 r1 k1 => sub S1 (Gd.opd (f := fun u ρ => ap2 g v u ρ) k1 fun u ρ2 F2 H2 y S2 e2 r2 k2 => fin2 o S2 (r1.mono e2) r2 k2))
theorem one_ok {r : V → Hp → VK → Prop} {g : D → Option D} {ma : EM} {Q : VK} (o : Op1 K mg r g) (S : Sat K mg G F H σ ρ) (k : Gd K mg W (RpO K mg) G F σ (mU g ma ρ) Q) : tUn r (tE K mg W ma) σ H Q :=
  sub S (Gd.opd (f := fun v ρ => ap1 g v ρ) k fun v ρ1 F1 H1 x S1 e1 r1 k1 => fin1 o S1 r1 k1)
theorem me_op {a b : Expr} {op : Operator} {r : R2} {g : D → D → Option D} {ma mb : EM} {pos : Pos} (o : Op2 X.K X.mg r g) (ho : OpR X (binaryOp op) r) (ha : ME X W a ma) (hb : ME X W b mb) : ME X W (.BinOp a op b pos) (mB g ma mb) :=
  ME.weak (pe_op ho ha hb) fun S k => two_ok o S k
theorem me_cmp {a b : Expr} {op : CmpOp} {r : R2} {g : D → D → Option D} {ma mb : EM} {pos : Pos} (o : Op2 X.K X.mg r g) (ho : OpR X (compareOp op) r) (ha : ME X W a ma) (hb : ME X W b mb) (hm : behindInMarks op b = false) : ME X W (.Compare a [op] [b] pos) (mB g ma mb) :=
  ME.weak (pe_cmpR ho ha hb hm) fun S k => two_ok o S k
theorem me_ix {a b : Expr} {r : R2} {g : D → D → Option D} {ma mb : EM} {pos : Pos} (o : Op2 X.K X.mg r g) (ho : IxR X r) (ha : ME X W a ma) (hb : ME X W b mb) (hs : PlainIx b) : ME X W (.Subscript a b pos) (mB g ma mb) :=
  ME.weak (pe_ix ho ha hb hs) fun S k => two_ok o S k
theorem me_un {a : Expr} {op : UnaryOp} {r : V → Hp → VK → Prop} {g : D → Option D} {ma : EM} {pos : Pos} (o : Op1 X.K X.mg r g) (ho : UnR X (unaryOp op) r) (ha : ME X W a ma) : ME X W (.UnaryOp op a pos) (mU g ma) :=
  ME.weak (pe_un ho ha) fun S k => one_ok o S k

/-! ### tests -/
def tb (v : OV) (ρ : En) : R Bool := match v with
  | .d (.bl b) => .ok b ρ
  | _ => .bad
/-- an expression that gives True or False, as a test -/
def mTst (m : EM) : TM := fun ρ => (m ρ).bind tb
theorem Gd.tst {m : EM} {Q : Bool → Hp → Prop} (k : Gd K mg W (fun _ _ _ _ _ b c => b = c) G F σ (mTst m ρ) Q) : Gd K mg W (RpO K mg) G F σ (m ρ) (fun x H' => ∃ c, x = .bl c ∧ Q c H') :=
  Gd.bind k fun v ρ1 F1 H1 x _ S1 e1 r1 k1 => by
    cases r1 with
    | d r =>
      cases r with
      | bl b => exact ⟨b, rfl, k1 F1 H1 b S1 (Same.refl _) rfl⟩
      | _ => exact k1.elim
    | o h => exact k1.elim
    | n => exact k1.elim
theorem mt_val {e : Expr} {m : EM} (h : ME X W e m) (he : ∀ whole, isTrue e X.env whole = (do let v ← whole; standAt e.pos; holding [v] (truthy v)) := by intro _; rfl) : MT X W e (mTst m) :=
  MT.weak (pt_val h he) fun S k => sub S (Gd.tst k)
theorem mt_cmp {a b : Expr} {op : CmpOp} {r : R2} {g : D → D → Option D} {ma mb : EM} {pos : Pos} (o : Op2 X.K X.mg r g) (ho : OpR X (compareOp op) r) (ha : ME X W a ma) (hb : ME X W b mb) (hm : behindInMarks op b = false) : MT X W (.Compare a [op] [b] pos) (mTst (mB g ma mb)) :=
  MT.weak (pt_cmpR ho ha hb hm) fun S k => two_ok o S (Gd.tst k)
def mAnd (a b : TM) : TM := fun ρ => (a ρ).bind fun c ρ => if c then b ρ else .ok false ρ
def mOr (a b : TM) : TM := fun ρ => (a ρ).bind fun c ρ => if c then .ok true ρ else b ρ
def mNot (a : TM) : TM := fun ρ => (a ρ).bind fun c ρ => .ok (!c) ρ
theorem subT {m : TM} {Q : Bool → Hp → Prop} (S : Sat K mg G F H σ ρ) (h : Gd K mg W (fun _ _ _ _ _ b c => b = c) G F σ (m ρ) Q) : tT K mg W m σ H Q := ⟨G, F, ρ, S, h⟩
theorem mw_and1 {a : Expr} {ma : TM} {pos : Pos} (ha : MT X W a ma) : MW X W (.BoolOp .And [a] pos) ma := pw_and1 ha
theorem mw_or1 {a : Expr} {ma : TM} {pos : Pos} (ha : MT X W a ma) : MW X W (.BoolOp .Or [a] pos) ma := pw_or1 ha
theorem mw_and {a b : Expr} {rest : List Expr} {ma mb : TM} {pos : Pos} (ha : MT X W a ma) (hb : MW X W (.BoolOp .And (b :: rest) pos) mb) : MW X W (.BoolOp .And (a :: b :: rest) pos) (mAnd ma mb) :=
  MW.weak (pw_and ha hb) fun S k => subT S (Gd.bind k fun c ρ1 F1 H1 x _ S1 e1 r1 k1 => by
    subst r1
    cases x with
    | true => exact subT S1 k1
    | false => exact k1 F1 H1 false S1 (Same.refl _) rfl)
theorem mw_or {a b : Expr} {rest : List Expr} {ma mb : TM} {pos : Pos} (ha : MT X W a ma) (hb : MW X W (.BoolOp .Or (b :: rest) pos) mb) : MW X W (.BoolOp .Or (a :: b :: rest) pos) (mOr ma mb) :=
  MW.weak (pw_or ha hb) fun S k => subT S (Gd.bind k fun c ρ1 F1 H1 x _ S1 e1 r1 k1 => by
    subst r1
    cases x with
    | false => exact subT S1 k1
    | true => exact k1 F1 H1 true S1 (Same.refl _) rfl)
theorem mt_not {a : Expr} {ma : TM} {pos : Pos} (ha : MT X W a ma) : MT X W (.UnaryOp .Not a pos) (mNot ma) :=
  MT.weak (pt_not ha) fun S k => subT S (Gd.bind k fun c ρ1 F1 H1 x _ S1 e1 r1 k1 => by
    subst r1
    exact k1 F1 H1 _ S1 (Same.refl _) rfl)
/-- as values -/
def bD (c : Bool) (ρ : En) : R OV := .ok (.d (.bl c)) ρ
def mAndV (a b : EM) : EM := fun ρ => (mTst a ρ).bind fun c ρ => if c then b ρ else bD false ρ
def mOrV (a b : EM) : EM := fun ρ => (mTst a ρ).bind fun c ρ => if c then bD true ρ else b ρ
def mNotV (a : EM) : EM := fun ρ => (mTst a ρ).bind fun c ρ => bD (!c) ρ
/-- an expression that must be True or False, then the rest -/
theorem Gd.tstV {m : EM} {f : Bool → En → R OV} {Q : VK} {Q' : VK} (k : Gd K mg W (RpO K mg) G F σ ((mTst m ρ).bind f) Q)
    (h : ∀ c ρ1 F1 H1, Sat K mg G F1 H1 σ ρ1 → Same F F1 → Gd K mg W (RpO K mg) G F1 σ (f c ρ1) Q → Q' (.bl c) H1) : Gd K mg W (RpO K mg) G F σ (m ρ) Q' := by
  have k2 : Gd K mg W (RpO K mg) G F σ ((m ρ).bind fun v ρ => (tb v ρ).bind f) Q := by
    unfold mTst at k
    cases q : m ρ with
    | ok v ρ1 => rw [q] at k; exact k
    | ex x ρ1 => rw [q] at k; exact k
    | bad => rw [q] at k; exact k
  refine Gd.bind k2 fun v ρ1 F1 H1 x _ S1 e1 r1 k1 => ?_
  cases r1 with
  | d r =>
    cases r with
    | bl b => exact h b ρ1 F1 H1 S1 e1 k1
    | _ => exact k1.elim
  | o h => exact k1.elim
  | n => exact k1.elim
theorem me_one {a : Expr} {op : BoolOp} {m : EM} {pos : Pos} (h : ME X W a m) : ME X W (.BoolOp op [a] pos) m := pe_one h
theorem me_and {a b : Expr} {rest : List Expr} {ma mb : EM} {pos : Pos} (ha : ME X W a ma) (hb : ME X W (.BoolOp .And (b :: rest) pos) mb) : ME X W (.BoolOp .And (a :: b :: rest) pos) (mAndV ma mb) :=
  ME.weak (pe_and ha hb) fun S k => sub S (Gd.tstV k fun c ρ1 F1 H1 S1 e1 k1 => by
    cases c with
    | true => exact ⟨true, rfl, sub S1 k1⟩
    | false => exact ⟨false, rfl, k1 F1 H1 _ S1 (Same.refl _) (.d (.bl _))⟩)
theorem me_or {a b : Expr} {rest : List Expr} {ma mb : EM} {pos : Pos} (ha : ME X W a ma) (hb : ME X W (.BoolOp .Or (b :: rest) pos) mb) : ME X W (.BoolOp .Or (a :: b :: rest) pos) (mOrV ma mb) :=
  ME.weak (pe_or ha hb) fun S k => sub S (Gd.tstV k fun c ρ1 F1 H1 S1 e1 k1 => by
    cases c with
    | false => exact ⟨false, rfl, sub S1 k1⟩
    | true => exact ⟨true, rfl, k1 F1 H1 _ S1 (Same.refl _) (.d (.bl _))⟩)
theorem me_not {a : Expr} {ma : EM} {pos : Pos} (ha : ME X W a ma) : ME X W (.UnaryOp .Not a pos) (mNotV ma) :=
  ME.weak (pe_not ha) fun S k => sub S (Gd.tstV k fun c ρ1 F1 H1 S1 e1 k1 => ⟨c, rfl, k1 F1 H1 _ S1 (Same.refl _) (.d (.bl _))⟩)
def mIf (c : TM) (a b : EM) : EM := fun ρ => (c ρ).bind fun c ρ => if c then a ρ else b ρ
theorem me_if {c a b : Expr} {mc : TM} {ma mb : EM} {pos : Pos} (hc : MT X W c mc) (ha : ME X W a ma) (hb : ME X W b mb) : ME X W (.IfExp c a b pos) (mIf mc ma mb) :=
  ME.weak (pe_ifExp hc ha hb) fun S k => subT S (Gd.bind k fun c ρ1 F1 H1 x _ S1 e1 r1 k1 => by
    subst r1
    cases x with
    | true => exact sub S1 k1
    | false => exact sub S1 k1)
end
end Mi
set_option Elab.async false
set_option linter.all false
set_option maxRecDepth 100000
set_option maxHeartbeats 1000000
/-! Mi, part C: operators, built-ins on data. -/
namespace Mi
open PySem PySem.Spec PyProof.Rows L2
def BIG : Nat := 1000000
theorem BIG_le : BIG ≤ sizeLine := by rw [sizeLine_eq]; decide
/-! ### data as the library compares it -/
mutual
def D.py : D → PyData
  | .non => .none
  | .bl b => .bool b
  | .int i => .int i
  | .str x => .str x
  | .tup xs => .tuple (D.pys xs)
  | .lst xs => .list (D.pys xs)
  | .frl _ => .none
  | .dk _ => .none
  | .dt _ => .none
  | .obj _ _ => .none
  | .exc _ _ _ _ => .none
def D.pys : List D → List PyData
  | [] => []
  | x :: r => x.py :: D.pys r
end
mutual
/-- it can be compared by ==, and is at most n deep -/
def D.cmp : Nat → D → Bool
  | _, .non => true
  | _, .bl _ => true
  | _, .int _ => true
  | _, .str x => PyData.strOk x
  | 0, .tup _ => false
  | 0, .lst _ => false
  | n + 1, .tup xs => D.cmps n xs
  | n + 1, .lst xs => D.cmps n xs
  | _, _ => false
def D.cmps : Nat → List D → Bool
  | _, [] => true
  | n, x :: r => D.cmp n x && D.cmps n r
end
mutual
theorem cmp_lay : ∀ (n : Nat) (d : D), d.cmp n = true → d.py.canLay0 = true ∧ d.py.depth ≤ n
  | n, .non, _ => by simp [D.py, PyData.canLay0, PyData.depth]
  | n, .bl _, _ => by simp [D.py, PyData.canLay0, PyData.depth]
  | n, .int _, _ => by simp [D.py, PyData.canLay0, PyData.depth]
  | n, .str x, h => by
    have h' : PyData.strOk x = true := by simpa [D.cmp] using h
    simp [D.py, PyData.canLay0, PyData.depth, h']
  | 0, .tup _, h => by simp [D.cmp] at h
  | 0, .lst _, h => by simp [D.cmp] at h
  | n + 1, .tup xs, h => by
    obtain ⟨h1, h2⟩ := cmps_lay n xs (by simpa [D.cmp] using h)
    simp [D.py, PyData.canLay0, PyData.depth, h1, h2]
  | n + 1, .lst xs, h => by
    obtain ⟨h1, h2⟩ := cmps_lay n xs (by simpa [D.cmp] using h)
    simp [D.py, PyData.canLay0, PyData.depth, h1, h2]
  | _, .frl _, h => by simp [D.cmp] at h
  | _, .dk _, h => by simp [D.cmp] at h
  | _, .dt _, h => by simp [D.cmp] at h
  | _, .obj _ _, h => by simp [D.cmp] at h
  | _, .exc _ _ _ _, h => by simp [D.cmp] at h
theorem cmps_lay : ∀ (n : Nat) (ds : List D), D.cmps n ds = true → PyData.canLayAll0 (D.pys ds) = true ∧ PyData.depthAll (D.pys ds) ≤ n
  | n, [], _ => by simp [D.pys, PyData.canLayAll0, PyData.depthAll]
  | n, x :: r, h => by
    have h' : D.cmp n x = true ∧ D.cmps n r = true := by simpa [D.cmps] using h
    obtain ⟨a1, a2⟩ := cmp_lay n x h'.1
    obtain ⟨b1, b2⟩ := cmps_lay n r h'.2
    refine ⟨by simp [D.pys, PyData.canLayAll0, a1, b1], ?_⟩
    show max (PyData.depth x.py) (PyData.depthAll (D.pys r)) ≤ n
    omega
end
section
variable {K : PySem.W.Frag} {mg : Str → Option Value} {F H : Hp}
mutual
theorem rp_dp : ∀ (n : Nat) (d : D) (v : V), d.cmp n = true → Rp K mg F v d → Dp K F v d.py
  | n, .non, _, _, .non => by simp only [D.py]; exact .non
  | n, .bl _, _, _, .bl b => by simp only [D.py]; exact .bl b
  | n, .int _, _, _, .int b => by simp only [D.py]; exact .int b
  | n, .str _, _, _, .str b => by simp only [D.py]; exact .str b
  | 0, .tup _, _, h, _ => by simp [D.cmp] at h
  | 0, .lst _, _, h, _ => by simp [D.cmp] at h
  | n + 1, .tup xs, _, h, .tup s r => by simp only [D.py]; exact .tup s.seq (rp_dps n xs _ (by simpa [D.cmp] using h) r)
  | n + 1, .lst xs, _, h, .lst s r => by simp only [D.py]; exact .lst (.of s) (rp_dps n xs _ (by simpa [D.cmp] using h) r)
  | _, .frl _, _, h, _ => by simp [D.cmp] at h
  | _, .dk _, _, h, _ => by simp [D.cmp] at h
  | _, .dt _, _, h, _ => by simp [D.cmp] at h
  | _, .obj _ _, _, h, _ => by simp [D.cmp] at h
theorem rp_dps : ∀ (n : Nat) (ds : List D) (vs : List V), D.cmps n ds = true → RpA K mg F vs ds → DpAll K F vs (D.pys ds)
  | n, [], _, _, .nil => .nil
  | n, x :: r, _, h, .cons a b => by
    have h' : D.cmp n x = true ∧ D.cmps n r = true := by simpa [D.cmps] using h
    exact .cons (rp_dp n x _ h'.1 a) (rp_dps n r _ h'.2 b)
end
theorem cmp_shaped {d : D} (h : d.cmp 40 = true) : SeqAt.shaped d.py = true := by
  obtain ⟨h1, h2⟩ := cmp_lay 40 d h
  unfold SeqAt.shaped
  rw [h1, decide_eq_true (by omega : d.py.depth ≤ 64)]
  rfl
end
/-! ### the functions on data -/
def dEq (x y : D) : Option D := if x.cmp 40 && y.cmp 40 then some (.bl (PyData.eqv x.py y.py)) else none
def dNe (x y : D) : Option D := if x.cmp 40 && y.cmp 40 then some (.bl (!PyData.eqv x.py y.py)) else none
def dAdd : D → D → Option D
  | .int a, .int b => some (.int (a + b))
  | .tup a, .tup b => if a.length + b.length ≤ BIG then some (.tup (a ++ b)) else none
  | .lst a, .lst b => if a.length + b.length ≤ BIG then some (.lst (a ++ b)) else none
  | .str a, .str b => if a.length + b.length ≤ BIG then some (.str (a ++ b)) else none
  | _, _ => none
def dSub : D → D → Option D
  | .int a, .int b => some (.int (a - b))
  | _, _ => none
def dMul : D → D → Option D
  | .int a, .int b => if (-(2 ^ 64) < a ∧ a < 2 ^ 64) ∨ (-(2 ^ 64) < b ∧ b < 2 ^ 64) then some (.int (a * b)) else none
  | _, _ => none
def dDiv : D → D → Option D
  | .int a, .int b => if 0 < b ∧ b < 1073741824 then some (.int (a / b)) else none
  | _, _ => none
def dMod : D → D → Option D
  | .int a, .int b => if 0 < b then some (.int (a % b)) else none
  | _, _ => none
def dPow : D → D → Option D
  | .int a, .int b => if 0 ≤ b ∧ (Builtin.Int.intBits a : Int) * b ≤ 2 ^ 27 then some (.int (a ^ b.toNat)) else none
  | _, _ => none
def dNeg : D → Option D
  | .int a => some (.int (-a))
  | _ => none
def dLt : D → D → Option D
  | .int a, .int b => some (.bl (decide (a < b)))
  | _, _ => none
def dLe : D → D → Option D
  | .int a, .int b => some (.bl (decide (a ≤ b)))
  | _, _ => none
def dGt : D → D → Option D
  | .int a, .int b => some (.bl (decide (b < a)))
  | _, _ => none
def dGe : D → D → Option D
  | .int a, .int b => some (.bl (decide (b ≤ a)))
  | _, _ => none
/-- is, is not: None, True, False on the right -/
def dIs : D → D → Option D
  | .bl a, .bl b => some (.bl (decide (a = b)))
  | _, _ => none
def dIsNot : D → D → Option D
  | .bl a, .bl b => some (.bl (!decide (a = b)))
  | _, _ => none
/-- flat data, and how it is compared -/
def D.flat : D → Bool
  | .non => true
  | .bl _ => true
  | .int _ => true
  | .str _ => true
  | _ => false
def D.eqf : D → D → Bool
  | .non, .non => true
  | .bl a, .bl b => a == b
  | .bl a, .int b => (if a then 1 else 0) == b
  | .int a, .bl b => a == (if b then 1 else 0)
  | .int a, .int b => a == b
  | .str a, .str b => a == b
  | _, _ => false
def keyD : D → Option Key
  | .int i => some (.inl i)
  | .str x => some (.inr x)
  | _ => none
def lookK (kvs : List (Key × D)) (k : Key) : Option D := (kvs.find? fun kv => decide (kv.1 = k)).map (·.2)
def dIn : D → D → Option D
  | x, .lst ys => if x.flat && ys.all D.flat then some (.bl (ys.any fun y => y.eqf x)) else none
  | x, .tup ys => if x.flat && ys.all D.flat then some (.bl (ys.any fun y => y.eqf x)) else none
  | _, _ => none
def dNotIn : D → D → Option D
  | x, .lst ys => if x.flat && ys.all D.flat then some (.bl (!(ys.any fun y => y.eqf x))) else none
  | x, .tup ys => if x.flat && ys.all D.flat then some (.bl (!(ys.any fun y => y.eqf x))) else none
  | _, _ => none
def dIx : D → D → Option D
  | .lst xs, .int i => atI xs i
  | .tup xs, .int i => atI xs i
  | _, _ => none

section
variable {K : PySem.W.Frag} {mg : Str → Option Value}
theorem if_some {c : Prop} [Decidable c] {α : Type} {x z : α} (h : (if c then some x else none) = some z) : c ∧ x = z := by
  by_cases hc : c
  · rw [if_pos hc] at h
    exact ⟨hc, Option.some.inj h⟩
  · rw [if_neg hc] at h
    cases h
theorem o_eq : Op2 K mg (rEqD K) dEq := fun {F H x y d e z Q} hs rx ry h q => by
  obtain ⟨c, rfl⟩ := if_some h
  obtain ⟨c1, c2⟩ := Bool.and_eq_true_iff.mp c
  exact ⟨d.py, e.py, rp_dp 40 d x c1 (rx.rp hs), rp_dp 40 e y c2 (ry.rp hs), cmp_shaped c1, cmp_shaped c2, q F H _ (.refl hs) (.bl _)⟩
theorem o_ne : Op2 K mg (rNeD K) dNe := fun {F H x y d e z Q} hs rx ry h q => by
  obtain ⟨c, rfl⟩ := if_some h
  obtain ⟨c1, c2⟩ := Bool.and_eq_true_iff.mp c
  exact ⟨d.py, e.py, rp_dp 40 d x c1 (rx.rp hs), rp_dp 40 e y c2 (ry.rp hs), cmp_shaped c1, cmp_shaped c2, q F H _ (.refl hs) (.bl _)⟩
/-- two ints -/
theorem o_ints {f : D → D → Option D} {C : Int → Int → Prop} {g : Int → Int → V} (h : ∀ d e z, f d e = some z → ∃ i j, d = .int i ∧ e = .int j ∧ C i j ∧ ∀ F, Rp K mg F (g i j) z) : Op2 K mg (rI C g) f := fun {F H x y d e z Q} hs rx ry e q => by
  obtain ⟨i, j, rfl, rfl, c, r⟩ := h _ _ _ e
  exact ⟨i, j, rx.int, ry.int, c, q F H _ (.refl hs) (r F)⟩
theorem o_ints0 {f : D → D → Option D} {g : Int → Int → V} (h : ∀ d e z, f d e = some z → ∃ i j, d = .int i ∧ e = .int j ∧ ∀ F, Rp K mg F (g i j) z) : Op2 K mg (rI0 g) f := fun {F H x y d e z Q} hs rx ry e q => by
  obtain ⟨i, j, rfl, rfl, r⟩ := h _ _ _ e
  exact ⟨i, j, rx.int, ry.int, q F H _ (.refl hs) (r F)⟩
theorem o_sub : Op2 K mg (rI0 fun i j => .int (i - j)) dSub := o_ints0 fun d e z h => by
  cases d <;> cases e <;> first | (cases h; done) | (cases h; exact ⟨_, _, rfl, rfl, fun _ => .int _⟩)
theorem o_mul : Op2 K mg (rI CMul fun i j => .int (i * j)) dMul := o_ints fun d e z h => by
  cases d <;> cases e <;> first | (cases h; done) | (obtain ⟨c, rfl⟩ := if_some h; exact ⟨_, _, rfl, rfl, c, fun _ => .int _⟩)
theorem o_div : Op2 K mg (rI CDiv fun i j => .int (i / j)) dDiv := o_ints fun d e z h => by
  cases d <;> cases e <;> first | (cases h; done) | (obtain ⟨c, rfl⟩ := if_some h; exact ⟨_, _, rfl, rfl, c, fun _ => .int _⟩)
theorem o_mod : Op2 K mg (rI (fun _ j => 0 < j) fun i j => .int (i % j)) dMod := o_ints fun d e z h => by
  cases d <;> cases e <;> first | (cases h; done) | (obtain ⟨c, rfl⟩ := if_some h; exact ⟨_, _, rfl, rfl, c, fun _ => .int _⟩)
def CPowW (i j : Int) : Prop := 0 ≤ j ∧ (Builtin.Int.intBits i : Int) * j ≤ 2 ^ 27
theorem op_powW {X : Cx} : OpR X (binaryOp .Pow) (rI CPowW fun i j => .int (i ^ j.toNat)) := opI fun _ _ _ _ _ _ _ hc q => pow_int hc.1 hc.2 q
theorem o_pow : Op2 K mg (rI CPowW fun i j => .int (i ^ j.toNat)) dPow := o_ints fun d e z h => by
  cases d <;> cases e <;> first | (cases h; done) | (obtain ⟨c, rfl⟩ := if_some h; exact ⟨_, _, rfl, rfl, c, fun _ => .int _⟩)
theorem o_lt : Op2 K mg (rI0 fun i j => .bl (decide (i < j))) dLt := o_ints0 fun d e z h => by
  cases d <;> cases e <;> first | (cases h; done) | (cases h; exact ⟨_, _, rfl, rfl, fun _ => .bl _⟩)
theorem o_le : Op2 K mg (rI0 fun i j => .bl (decide (i ≤ j))) dLe := o_ints0 fun d e z h => by
  cases d <;> cases e <;> first | (cases h; done) | (cases h; exact ⟨_, _, rfl, rfl, fun _ => .bl _⟩)
theorem o_gt : Op2 K mg (rI0 fun i j => .bl (decide (j < i))) dGt := o_ints0 fun d e z h => by
  cases d <;> cases e <;> first | (cases h; done) | (cases h; exact ⟨_, _, rfl, rfl, fun _ => .bl _⟩)
theorem o_ge : Op2 K mg (rI0 fun i j => .bl (decide (j ≤ i))) dGe := o_ints0 fun d e z h => by
  cases d <;> cases e <;> first | (cases h; done) | (cases h; exact ⟨_, _, rfl, rfl, fun _ => .bl _⟩)
theorem o_is : Op2 K mg rIsB dIs := fun {F H x y d e z Q} hs rx ry h q => by
  cases d <;> cases e <;> first | (cases h; done) | (cases h; exact ⟨_, _, rx.bl, ry.bl, q F H _ (.refl hs) (.bl _)⟩)
theorem o_isNot : Op2 K mg rNotB dIsNot := fun {F H x y d e z Q} hs rx ry h q => by
  cases d <;> cases e <;> first | (cases h; done) | (cases h; exact ⟨_, _, rx.bl, ry.bl, q F H _ (.refl hs) (.bl _)⟩)
theorem o_neg : Op1 K mg (rU fun i => .int (-i)) dNeg := fun {F H x d z Q} hs rx h q => by
  cases d <;> first | (cases h; done) | (cases h; exact ⟨_, rx.int, q F H _ (.refl hs) (.int _)⟩)
abbrev rAdd (K : PySem.W.Frag) : R2 := fun x y H Q => rI0 (fun i j => .int (i + j)) x y H Q ∨ (rCatF K x y H Q ∨ (rCat x y H Q ∨ (∃ i j, x = .str i ∧ y = .str j ∧ i.length + j.length ≤ sizeLine ∧ Q (.str (i ++ j)) H)))
theorem op_addA {X : Cx} : OpR X (binaryOp .Add) (rAdd X.K) := op_add.or (op_catF.or (op_cat.or op_add_str))
theorem o_add : Op2 K mg (rAdd K) dAdd := fun {F H x y d e z Q} hs rx ry h q => by
  cases d <;> cases e <;> try (cases h; done)
  · cases h
    exact .inl ⟨_, _, rx.int, ry.int, q F H _ (.refl hs) (.int _)⟩
  · obtain ⟨c, rfl⟩ := if_some h
    rw [rx.str, ry.str]
    exact .inr (.inr (.inr ⟨_, _, rfl, rfl, Nat.le_trans c BIG_le, q F H _ (.refl hs) (.str _)⟩))
  · obtain ⟨c, rfl⟩ := if_some h
    obtain ⟨a, vs, rfl, sa, ra⟩ := rx.tup hs
    obtain ⟨b, ws, rfl, sb, rb⟩ := ry.tup hs
    refine .inr (.inl ⟨a, b, vs, ws, rfl, rfl, (sa.mono hs).seq, (sb.mono hs).seq, ?_, fun e => ?_, fun _ e => ?_, fun _ _ p o hp hd => ?_⟩)
    · rw [ra.len, rb.len]
      exact Nat.le_trans c BIG_le
    · subst e
      cases ra
      exact q F H _ (.refl hs) (.tup sb rb)
    · subst e
      cases rb
      refine q F H _ (.refl hs) ?_
      rw [List.append_nil]
      exact .tup sa ra
    · have e := Ext.new (u := HO.frz o (.tup (vs ++ ws))) hs hp
      exact q _ _ _ e (.tup ⟨o, upd_same, hd⟩ ((ra.app rb).mono e.ff))
  · obtain ⟨c, rfl⟩ := if_some h
    obtain ⟨a, vs, rfl, sa, ra⟩ := rx.lst hs
    obtain ⟨b, ws, rfl, sb, rb⟩ := ry.lst hs
    refine .inr (.inr (.inl ⟨a, b, vs, ws, rfl, rfl, sa, sb, ?_, fun p hp => ?_⟩))
    · rw [ra.len, rb.len]
      exact Nat.le_trans c BIG_le
    · have e := Ext.new (u := HO.lst (vs ++ ws)) hs hp
      exact q _ _ _ e (.lst upd_same ((ra.app rb).mono e.ff))
theorem flat_V {F : Hp} {v : V} {d : D} (r : Rp K mg F v d) (h : d.flat = true) : flatV v = true := by
  cases r <;> first | rfl | cases h
theorem flat_all {F : Hp} : ∀ {vs : List V} {ds : List D}, RpA K mg F vs ds → ds.all D.flat = true → vs.all flatV = true
  | _, _, .nil, _ => rfl
  | _, _, .cons r t, h => by
    rw [List.all_cons, Bool.and_eq_true] at h ⊢
    exact ⟨flat_V r h.1, flat_all t h.2⟩
theorem flat_eq {F F' : Hp} {v w : V} {d e : D} (r : Rp K mg F v d) (r' : Rp K mg F' w e) (h : d.flat = true) (h' : e.flat = true) : eqV v w = d.eqf e := by
  cases r <;> first | (cases h; done) | (cases r' <;> first | (cases h'; done) | rfl)
theorem flat_any {F F' : Hp} {x : V} {d : D} (r' : Rp K mg F' x d) (h' : d.flat = true) : ∀ {vs : List V} {ds : List D}, RpA K mg F vs ds → ds.all D.flat = true → inV x vs = ds.any fun y => y.eqf d
  | _, _, .nil, _ => rfl
  | _, _, .cons r t, h => by
    rw [List.all_cons, Bool.and_eq_true] at h
    have ih := flat_any r' h' t h.2
    unfold inV at ih ⊢
    rw [List.any_cons, List.any_cons, flat_eq r r' h.1 h', ih]
theorem o_in : Op2 K mg (rIn K false) dIn := fun {F H x y d e z Q} hs rx ry h q => by
  cases e with
  | tup ys =>
    have h : (if d.flat && ys.all D.flat then some (D.bl ((ys.any fun y => D.eqf y d))) else none) = some z := by cases d <;> exact h
    obtain ⟨c, rfl⟩ := if_some h
    obtain ⟨c1, c2⟩ := Bool.and_eq_true_iff.mp c
    obtain ⟨a, vs, rfl, sa, ra⟩ := ry.tup hs
    refine ⟨a, vs, rfl, .inr (sa.mono hs).seq, flat_V (rx.rp hs) c1, flat_all ra c2, ?_⟩
    rw [if_neg (by decide), flat_any (rx.rp hs) c1 ra c2]
    exact q F H _ (.refl hs) (.bl _)
  | lst ys =>
    have h : (if d.flat && ys.all D.flat then some (D.bl ((ys.any fun y => D.eqf y d))) else none) = some z := by cases d <;> exact h
    obtain ⟨c, rfl⟩ := if_some h
    obtain ⟨c1, c2⟩ := Bool.and_eq_true_iff.mp c
    obtain ⟨a, vs, rfl, sa, ra⟩ := ry.lst hs
    refine ⟨a, vs, rfl, .inl (.of sa), flat_V (rx.rp hs) c1, flat_all ra c2, ?_⟩
    rw [if_neg (by decide), flat_any (rx.rp hs) c1 ra c2]
    exact q F H _ (.refl hs) (.bl _)
  | _ => cases d <;> cases h
theorem o_notIn : Op2 K mg (rIn K true) dNotIn := fun {F H x y d e z Q} hs rx ry h q => by
  cases e with
  | tup ys =>
    have h : (if d.flat && ys.all D.flat then some (D.bl (!(ys.any fun y => D.eqf y d))) else none) = some z := by cases d <;> exact h
    obtain ⟨c, rfl⟩ := if_some h
    obtain ⟨c1, c2⟩ := Bool.and_eq_true_iff.mp c
    obtain ⟨a, vs, rfl, sa, ra⟩ := ry.tup hs
    refine ⟨a, vs, rfl, .inr (sa.mono hs).seq, flat_V (rx.rp hs) c1, flat_all ra c2, ?_⟩
    rw [if_pos rfl, flat_any (rx.rp hs) c1 ra c2]
    exact q F H _ (.refl hs) (.bl _)
  | lst ys =>
    have h : (if d.flat && ys.all D.flat then some (D.bl (!(ys.any fun y => D.eqf y d))) else none) = some z := by cases d <;> exact h
    obtain ⟨c, rfl⟩ := if_some h
    obtain ⟨c1, c2⟩ := Bool.and_eq_true_iff.mp c
    obtain ⟨a, vs, rfl, sa, ra⟩ := ry.lst hs
    refine ⟨a, vs, rfl, .inl (.of sa), flat_V (rx.rp hs) c1, flat_all ra c2, ?_⟩
    rw [if_pos rfl, flat_any (rx.rp hs) c1 ra c2]
    exact q F H _ (.refl hs) (.bl _)
  | _ => cases d <;> cases h
theorem at_get {F : Hp} {vs : List V} {ds : List D} {i : Int} {z : D} (r : RpA K mg F vs ds) (h : atI ds i = some z) : ∃ v, atI vs i = some v ∧ Rp K mg F v z := by
  unfold atI at h ⊢
  rw [r.len]
  cases e : ixN ds.length i with
  | none =>
    rw [e] at h
    cases h
  | some j =>
    rw [e] at h
    exact r.get h
theorem o_ix : Op2 K mg (rIx K) dIx := fun {F H x y d e z Q} hs rx ry h q => by
  cases d <;> cases e <;> try (cases h; done)
  · obtain ⟨a, vs, rfl, sa, ra⟩ := rx.tup hs
    obtain ⟨v, h1, h2⟩ := at_get ra h
    exact .inr (.inl ⟨a, vs, _, v, rfl, ry.int, (sa.mono hs).seq, h1, q F H _ (.refl hs) h2⟩)
  · obtain ⟨a, vs, rfl, sa, ra⟩ := rx.lst hs
    obtain ⟨v, h1, h2⟩ := at_get ra h
    exact .inl ⟨a, vs, _, v, rfl, ry.int, .of sa, h1, q F H _ (.refl hs) h2⟩
end
end Mi
set_option Elab.async false
set_option linter.all false
set_option maxRecDepth 100000
set_option maxHeartbeats 1000000
/-! Mi, part D: arguments, displays, built-ins, statements. -/
namespace Mi
open PySem PySem.Spec PyProof.Rows L2

/-- a value that others name from now on -/
def esc (v : OB) (ρ : En) : Option (D × En) := match v with
  | .d x => some (x, ρ)
  | .o i => match ρ[i]? with
    | some (.val x) => some (x, ρ)
    | some (.own false w) => some (w.d, ρ.set i (.val w.d))
    | _ => none
def escs : List OB → En → Option (List D × En)
  | [], ρ => some ([], ρ)
  | v :: vs, ρ => match esc v ρ with
    | some (d, ρ1) => (match escs vs ρ1 with
      | some (ds, ρ2) => some (d :: ds, ρ2)
      | none => none)
    | none => none

section
variable {K : PySem.W.Frag} {mg : Str → Option Value} {W : WX} {F F' H H' : Hp} {G : Gh} {σ : St} {ρ : En}
theorem isOw_set {ρ : En} {i j : Nat} {s : Sl} (h : isOw (ρ.set i s)[j]? = true) (hs : isOw (some s) = false) : j ≠ i ∧ isOw ρ[j]? = true := by
  by_cases e : j = i
  · subst e
    by_cases hl : j < ρ.length
    · rw [List.getElem?_set_self hl, hs] at h
      cases h
    · rw [List.getElem?_eq_none (by rw [List.length_set]; omega)] at h
      cases h
  · rw [List.getElem?_set_ne (Ne.symm e)] at h
    exact ⟨e, h⟩
/-- the slot i, which held an object of one's own, holds it as a value -/
theorem Sat.own_val (S : Sat K mg G F H σ ρ) {i : Nat} {w : Ow} {a : Addr} (q : ρ[i]? = some (Sl.own false w)) (hσ : σ[i]? = some (some (V.ref a))) :
    ∃ F', Same F F' ∧ Sat K mg G F' H σ (ρ.set i (.val w.d)) ∧ Rp K mg F' (.ref a) w.d := by
  obtain ⟨a', h1, h2, h3, h4⟩ := S.own i false w q
  rw [hσ] at h1
  cases h1
  have hl : i < ρ.length := (List.getElem?_eq_some_iff.mp q).1
  obtain ⟨u, hu⟩ := h3.at
  have S1 : Sat K mg G F H σ (ρ.set i .un) := by
    refine ⟨S.fh, S.f0, S.h0, S.fn, by rw [List.length_set]; exact S.len, fun j d h => ?_, fun j io o h => ?_, fun j k b hjk h1 h2 => ?_, fun k b h => ?_⟩
    · by_cases e : j = i
      · subst e
        rw [List.getElem?_set_self hl] at h
        cases h
      · rw [List.getElem?_set_ne (Ne.symm e)] at h
        exact S.val j d h
    · by_cases e : j = i
      · subst e
        rw [List.getElem?_set_self hl] at h
        cases h
      · rw [List.getElem?_set_ne (Ne.symm e)] at h
        exact S.own j io o h
    · exact S.dis j k b hjk (isOw_set h1 rfl).2 (isOw_set h2 rfl).2
    · obtain ⟨e1, o, e2⟩ := S.io k b h
      have hk : k ≠ i := fun e => by
        subst e
        rw [q] at e2
        cases e2
      exact ⟨e1, o, by rw [List.getElem?_set_ne (Ne.symm hk)]; exact e2⟩
  obtain ⟨F', e1, S2, r, _⟩ := S1.freeze h2 h3 h4 (fun j hj hs => by
    obtain ⟨ne, hj'⟩ := isOw_set hj rfl
    exact S.dis i j a (Ne.symm ne) (by rw [q]; rfl) hj' hσ hs)
  refine ⟨F', e1, ⟨S2.fh, S2.f0, S2.h0, S2.fn, by rw [List.length_set]; exact S.len, fun j d h => ?_, fun j io o h => ?_, fun j k b hjk h1 h2 => ?_, fun k b h => ?_⟩, r⟩
  · by_cases e : j = i
    · subst e
      rw [List.getElem?_set_self hl] at h
      cases h
      exact ⟨_, hσ, r⟩
    · refine S2.val j d ?_
      rw [List.getElem?_set_ne (Ne.symm e)] at h ⊢
      exact h
  · by_cases e : j = i
    · subst e
      rw [List.getElem?_set_self hl] at h
      cases h
    · refine S2.own j io o ?_
      rw [List.getElem?_set_ne (Ne.symm e)] at h ⊢
      exact h
  · exact S.dis j k b hjk (isOw_set h1 rfl).2 (isOw_set h2 rfl).2
  · obtain ⟨e1, o, e2⟩ := S.io k b h
    have hk : k ≠ i := fun e => by
      subst e
      rw [q] at e2
      cases e2
    exact ⟨e1, o, by rw [List.getElem?_set_ne (Ne.symm hk)]; exact e2⟩
theorem Sat.esc (S : Sat K mg G F H σ ρ) {x : V} {v : OB} {d : D} {ρ' : En} (r : RpB K mg F σ x v) (h : esc v ρ = some (d, ρ')) : ∃ F', Same F F' ∧ Sat K mg G F' H σ ρ' ∧ Rp K mg F' x d := by
  cases r with
  | d r =>
    cases h
    exact ⟨F, Same.refl _, S, r⟩
  | o e =>
    rename_i i
    have h' : (match ρ[i]? with
      | some (.val x) => some (x, ρ)
      | some (.own false w) => some (w.d, ρ.set i (.val w.d))
      | _ => none) = some (d, ρ') := h
    cases q : ρ[i]? with
    | none =>
      rw [q] at h'
      cases h'
    | some s =>
      rw [q] at h'
      cases s with
      | un => cases h'
      | val y =>
        cases h'
        obtain ⟨w, h1, h2⟩ := S.val i _ q
        rw [e] at h1
        cases h1
        exact ⟨F, Same.refl _, S, h2⟩
      | own io w =>
        cases io with
        | true => cases h'
        | false =>
          cases h'
          obtain ⟨a, h1, _⟩ := S.own i false w q
          have h1' := h1
          rw [e] at h1'
          cases h1'
          exact S.own_val q h1
theorem Sat.escs : ∀ {F : Hp} {ρ : En} {vs : List OB} {xs : List V} {ds : List D} {ρ' : En}, Sat K mg G F H σ ρ → RpBs K mg F σ xs vs → escs vs ρ = some (ds, ρ') → ∃ F', Same F F' ∧ Sat K mg G F' H σ ρ' ∧ RpA K mg F' xs ds
  | F, ρ, [], _, ds, ρ', S, .nil, h => by
    cases h
    exact ⟨F, Same.refl _, S, .nil⟩
  | F, ρ, v :: vs, _, ds, ρ', S, .cons r t, h => by
    unfold Mi.escs at h
    cases q : Mi.esc v ρ with
    | none =>
      rw [q] at h
      cases h
    | some p =>
      obtain ⟨d, ρ1⟩ := p
      rw [q] at h
      obtain ⟨F1, e1, S1, r1⟩ := S.esc r q
      dsimp only at h
      cases q2 : Mi.escs vs ρ1 with
      | none =>
        rw [q2] at h
        cases h
      | some p2 =>
        obtain ⟨ds2, ρ2⟩ := p2
        rw [q2] at h
        cases h
        obtain ⟨F2, e2, S2, r2⟩ := Sat.escs S1 (t.mono e1) q2
        exact ⟨F2, e1.trans e2, S2, .cons (r1.mono e2) r2⟩
/-- a new object of one's own -/
theorem Sat.newOwn (S : Sat K mg G F H σ ρ) {p : Addr} {u : HO} {w : Ow} (hp : H p = none) (ok : OwOk K mg F (upd H p u) p w) : Sat K mg G F (upd H p u) σ ρ ∧ RpO K mg G F (upd H p u) σ ρ (.ref p) (.n w) := by
  have e : Ext F H F (upd H p u) := ⟨Same.refl _, same_upd hp, S.fh.trans (same_upd hp), fun _ _ h => .inl h⟩
  refine ⟨S.ext e, .n (S.fh.free hp) ok ((S.fresh0 hp).elim .inr .inl) fun j hj hs => ?_⟩
  cases q : ρ[j]? with
  | none =>
    rw [q] at hj
    cases hj
  | some s =>
    cases s with
    | own io o =>
      obtain ⟨a, h1, h2, h3, _⟩ := S.own j io o q
      rw [hs] at h1
      cases h1
      obtain ⟨z, hz⟩ := h3.at
      rw [hp] at hz
      cases hz
    | _ =>
      rw [q] at hj
      cases hj
end

/-! ### argument lists -/
def mNil : AM := fun ρ => .ok [] ρ
def mCons (m : EM) (ms : AM) : AM := fun ρ => (m ρ).bind fun v ρ => (ms ρ).bind fun vs ρ => .ok (v.fz :: vs) ρ
def rv (o : Option D) (ρ : En) : R OV := rz o ρ
def rn (o : Option Ow) (ρ : En) : R OV := match o with
  | some w => .ok (.n w) ρ
  | none => .bad
def getAll : List OB → En → Option (List D)
  | [], _ => some []
  | v :: vs, ρ => match v.get ρ with
    | some d => (match getAll vs ρ with
      | some ds => some (d :: ds)
      | none => none)
    | none => none
def apN (g : List D → Option D) (vs : List OB) (ρ : En) : R OV := match getAll vs ρ with
  | some ds => rz (g ds) ρ
  | none => .bad
def apNn (g : List D → Option Ow) (vs : List OB) (ρ : En) : R OV := match getAll vs ρ with
  | some ds => rn (g ds) ρ
  | none => .bad
/-- a built-in's call: data out; a new object out -/
def mCB (g : List D → Option D) (ms : AM) : EM := fun ρ => (ms ρ).bind fun vs ρ => apN g vs ρ
def mCBn (g : List D → Option Ow) (ms : AM) : EM := fun ρ => (ms ρ).bind fun vs ρ => apNn g vs ρ
def mTup (ms : AM) : EM := fun ρ => (ms ρ).bind fun vs ρ => match escs vs ρ with
  | some (ds, ρ) => if ds.length ≤ BIG then .ok (.d (.tup ds)) ρ else .bad
  | none => .bad
def mLst (ms : AM) : EM := fun ρ => (ms ρ).bind fun vs ρ => match escs vs ρ with
  | some (ds, ρ) => if ds.length ≤ BIG then .ok (.n (.lst ds)) ρ else .bad
  | none => .bad
section
variable {K : PySem.W.Frag} {mg : Str → Option Value} {W : WX} {F F' H H' : Hp} {G : Gh} {σ : St} {ρ : En}
inductive RpIs (K : PySem.W.Frag) (mg : Str → Option Value) (F H : Hp) : List V → List D → Prop
  | nil : RpIs K mg F H [] []
  | cons {v : V} {vs : List V} {d : D} {ds : List D} : RpI K mg F H v d → RpIs K mg F H vs ds → RpIs K mg F H (v :: vs) (d :: ds)
def OpN (K : PySem.W.Frag) (mg : Str → Option Value) (r : List V → Hp → VK → Prop) (g : List D → Option D) : Prop := ∀ {F H : Hp} {xs : List V} {ds : List D} {z : D} {Q : VK}, Same F H → RpIs K mg F H xs ds → g ds = some z →
  (∀ F' H' w, Ext F H F' H' → Rp K mg F' w z → Q w H') → r xs H Q
def OpNn (K : PySem.W.Frag) (mg : Str → Option Value) (r : List V → Hp → VK → Prop) (g : List D → Option Ow) : Prop := ∀ {F H : Hp} {xs : List V} {ds : List D} {z : Ow} {Q : VK}, Same F H → RpIs K mg F H xs ds → g ds = some z →
  (∀ p u, H p = none → OwOk K mg F (upd H p u) p z → Q (.ref p) (upd H p u)) → r xs H Q
theorem Sat.getAll : ∀ {vs : List OB} {xs : List V} {ds : List D}, Sat K mg G F H σ ρ → RpBs K mg F σ xs vs → getAll vs ρ = some ds → RpIs K mg F H xs ds
  | [], _, _, S, .nil, h => by
    cases h
    exact .nil
  | v :: vs, _, _, S, .cons r t, h => by
    unfold Mi.getAll at h
    cases q : v.get ρ with
    | none =>
      rw [q] at h
      cases h
    | some d =>
      rw [q] at h
      cases q2 : Mi.getAll vs ρ with
      | none =>
        rw [q2] at h
        cases h
      | some ds =>
        rw [q2] at h
        cases h
        exact .cons (S.get r q) (Sat.getAll S t q2)
theorem finN {g : List D → Option D} {r : List V → Hp → VK → Prop} {xs : List V} {vs : List OB} {Q : VK} (o : OpN K mg r g) (S : Sat K mg G F H σ ρ) (rx : RpBs K mg F σ xs vs) (h : Gd K mg W (RpO K mg) G F σ (apN g vs ρ) Q) : r xs H Q := by
  unfold apN at h
  cases q1 : getAll vs ρ with
  | none =>
    rw [q1] at h
    exact h.elim
  | some ds =>
    rw [q1] at h
    obtain ⟨z, hz, k⟩ := fin_rz S h
    exact o S.fh (S.getAll rx q1) hz k
theorem finNn {g : List D → Option Ow} {r : List V → Hp → VK → Prop} {xs : List V} {vs : List OB} {Q : VK} (o : OpNn K mg r g) (S : Sat K mg G F H σ ρ) (rx : RpBs K mg F σ xs vs) (h : Gd K mg W (RpO K mg) G F σ (apNn g vs ρ) Q) : r xs H Q := by
  unfold apNn at h
  cases q1 : getAll vs ρ with
  | none =>
    rw [q1] at h
    exact h.elim
  | some ds =>
    rw [q1] at h
    dsimp only at h
    cases hz : g ds with
    | none =>
      rw [hz] at h
      exact h.elim
    | some w =>
      rw [hz] at h
      refine o S.fh (S.getAll rx q1) hz fun p u hp ok => ?_
      obtain ⟨S2, r2⟩ := S.newOwn hp ok
      exact h F _ _ S2 (Same.refl _) r2
theorem subA {ma : AM} {Q : List V → Hp → Prop} (S : Sat K mg G F H σ ρ) (h : Gd K mg W (fun _ F _ σ _ => RpBs K mg F σ) G F σ (ma ρ) Q) : tA K mg W ma σ H Q := ⟨G, F, ρ, S, h⟩
end
section
variable {X : Cx} {W : WX} {e : Expr} {es : List Expr} {m : EM} {ms : AM} {pos : Pos}
theorem ma_nil : MA X W [] mNil := MA.weak pa_nil fun {σ H Q G F ρ} S g => g F H [] S (Same.refl _) .nil
theorem ma_cons (ha : ME X W e m) (hr : MA X W es ms) (hs : starEach (e :: es) X.env = (false, eval e X.env) :: starEach es X.env := by rfl) : MA X W (e :: es) (mCons m ms) :=
  MA.weak (pa_cons ha hr hs) fun S k => sub S (Gd.opd (f := fun v ρ => (ms ρ).bind fun vs ρ => .ok (v :: vs) ρ) k fun v ρ1 F1 H1 x S1 e1 r1 k1 => subA S1 (Gd.bind k1 fun vs ρ2 F2 H2 xs _ S2 e2 r2 k2 => k2 F2 H2 (x :: xs) S2 (Same.refl _) (.cons (r1.mono e2) r2)))
theorem me_tup {x1} (h : MA X W es ms) : ME X W (.Tuple es x1 pos) (mTup ms) :=
  ME.weak (pe_tupF h) fun S k => subA S (Gd.bind k fun vs ρ1 F1 H1 xs _ S1 e1 r1 k1 => by
    cases q : escs vs ρ1 with
    | none =>
      rw [q] at k1
      exact k1.elim
    | some p =>
      obtain ⟨ds, ρ2⟩ := p
      rw [q] at k1
      obtain ⟨F2, e2, S2, r2⟩ := S1.escs r1 q
      by_cases hz : ds.length ≤ BIG
      · have k2 : Gd X.K X.mg W (RpO X.K X.mg) _ F2 _ (.ok (.d (.tup ds)) ρ2) _ := Gd.mono e2 (by simpa only [if_pos hz] using k1)
        refine ⟨by rw [r2.len]; exact Nat.le_trans hz BIG_le, fun p o hp hd => ?_⟩
        have ex := Ext.new (u := HO.frz o (.tup xs)) S2.fh hp
        exact k2 _ _ _ (S2.ext ex) ex.ff (.d (.tup ⟨o, upd_same, hd⟩ (r2.mono ex.ff)))
      · simp only [if_neg hz] at k1
        exact k1.elim)
theorem me_lst (h : MA X W es ms) : ME X W (.List es pos) (mLst ms) :=
  ME.weak (pe_lst h) fun S k => subA S (Gd.bind k fun vs ρ1 F1 H1 xs _ S1 e1 r1 k1 => by
    cases q : escs vs ρ1 with
    | none =>
      rw [q] at k1
      exact k1.elim
    | some p =>
      obtain ⟨ds, ρ2⟩ := p
      rw [q] at k1
      obtain ⟨F2, e2, S2, r2⟩ := S1.escs r1 q
      by_cases hz : ds.length ≤ BIG
      · have k2 : Gd X.K X.mg W (RpO X.K X.mg) _ F2 _ (.ok (.n (.lst ds)) ρ2) _ := Gd.mono e2 (by simpa only [if_pos hz] using k1)
        refine ⟨by rw [r2.len]; exact Nat.le_trans hz BIG_le, fun p hp => ?_⟩
        obtain ⟨S3, r3⟩ := S2.newOwn hp (OwOk.lst upd_same r2)
        exact k2 _ _ _ S3 (Same.refl _) r3
      · simp only [if_neg hz] at k1
        exact k1.elim)
theorem me_callB {x : Str} {p : Pos} {id : String} {r : List V → Hp → VK → Prop} {g : List D → Option D} (o : OpN X.K X.mg r g) (hc : CallR X (.builtin id) r) (hg : Gl X x) (hm : X.mg x = none) (hv : bootBuiltins x = some (.builtin id)) (ha : MA X W (e :: es) ms)
    (hn : x ≠ "__name__" := by decide) (hdb : (x == ("__debug__" : Str)) = false := by decide) (he : starEach (e :: es) X.env = (false, eval e X.env) :: starEach es X.env := by rfl) (hpl : (backTo pos (starEach es X.env)).any (·.1) = false := by rfl) :
    ME X W (.Call (.Name x p) (e :: es) [] pos) (mCB g ms) :=
  ME.weak (pe_callB hc hg hm hv ha hn hdb he hpl) fun S k => subA S (Gd.bind k fun vs ρ1 F1 H1 xs _ S1 e1 r1 k1 => finN o S1 r1 k1)
theorem me_callBn {x : Str} {p : Pos} {id : String} {r : List V → Hp → VK → Prop} {g : List D → Option Ow} (o : OpNn X.K X.mg r g) (hc : CallR X (.builtin id) r) (hg : Gl X x) (hm : X.mg x = none) (hv : bootBuiltins x = some (.builtin id)) (ha : MA X W (e :: es) ms)
    (hn : x ≠ "__name__" := by decide) (hdb : (x == ("__debug__" : Str)) = false := by decide) (he : starEach (e :: es) X.env = (false, eval e X.env) :: starEach es X.env := by rfl) (hpl : (backTo pos (starEach es X.env)).any (·.1) = false := by rfl) :
    ME X W (.Call (.Name x p) (e :: es) [] pos) (mCBn g ms) :=
  ME.weak (pe_callB hc hg hm hv ha hn hdb he hpl) fun S k => subA S (Gd.bind k fun vs ρ1 F1 H1 xs _ S1 e1 r1 k1 => finNn o S1 r1 k1)
theorem me_callTy {x : Str} {p : Pos} {T : String} {r : List V → Hp → VK → Prop} {g : List D → Option D} (o : OpN X.K X.mg r g) (hc : CallR X (.type T) r) (hg : Gl X x) (hm : X.mg x = none) (hv : bootBuiltins x = some (.type T)) (ha : MA X W (e :: es) ms)
    (hn : x ≠ "__name__" := by decide) (hdb : (x == ("__debug__" : Str)) = false := by decide) (he : starEach (e :: es) X.env = (false, eval e X.env) :: starEach es X.env := by rfl) (hpl : (backTo pos (starEach es X.env)).any (·.1) = false := by rfl) :
    ME X W (.Call (.Name x p) (e :: es) [] pos) (mCB g ms) :=
  ME.weak (pe_callTy hc hg hm hv ha hn hdb he hpl) fun S k => subA S (Gd.bind k fun vs ρ1 F1 H1 xs _ S1 e1 r1 k1 => finN o S1 r1 k1)
theorem me_callTyn {x : Str} {p : Pos} {T : String} {r : List V → Hp → VK → Prop} {g : List D → Option Ow} (o : OpNn X.K X.mg r g) (hc : CallR X (.type T) r) (hg : Gl X x) (hm : X.mg x = none) (hv : bootBuiltins x = some (.type T)) (ha : MA X W (e :: es) ms)
    (hn : x ≠ "__name__" := by decide) (hdb : (x == ("__debug__" : Str)) = false := by decide) (he : starEach (e :: es) X.env = (false, eval e X.env) :: starEach es X.env := by rfl) (hpl : (backTo pos (starEach es X.env)).any (·.1) = false := by rfl) :
    ME X W (.Call (.Name x p) (e :: es) [] pos) (mCBn g ms) :=
  ME.weak (pe_callTy hc hg hm hv ha hn hdb he hpl) fun S k => subA S (Gd.bind k fun vs ρ1 F1 H1 xs _ S1 e1 r1 k1 => finNn o S1 r1 k1)
end

/-! ### statements -/
/-- what a def hands back: data, or a new object that nothing else names -/
inductive RV where
  | v (d : D) | w (o : Ow)
inductive SR where
  | nx (ρ : En) | rt (r : RV) (ρ : En) | bk (ρ : En) | ct (ρ : En) | ex (x : Xc) (ρ : En) | bad
abbrev SM := En → SR
section
variable (K : PySem.W.Frag) (mg : Str → Option Value)
inductive RpR (G : Gh) (F H : Hp) : V → RV → Prop
  | v {x : V} {d : D} : Rp K mg F x d → RpR G F H x (.v d)
  | w {a : Addr} {o : Ow} : F a = none → OwOk K mg F H a o → (G.O a ∨ G.H0 a = none) → RpR G F H (.ref a) (.w o)
def SGd (W : WX) (G : Gh) (F : Hp) (r : SR) (D : Ends) : Prop := match r with
  | .nx ρ => ∀ F' H' σ, Sat K mg G F' H' σ ρ → Same F F' → D.nx σ H'
  | .bk ρ => ∀ F' H' σ, Sat K mg G F' H' σ ρ → Same F F' → D.bk σ H'
  | .ct ρ => ∀ F' H' σ, Sat K mg G F' H' σ ρ → Same F F' → D.ct σ H'
  | .rt r ρ => ∀ F' H' σ x, Sat K mg G F' H' σ ρ → Same F F' → RpR K mg G F' H' x r → (∀ a, x = .ref a → (∃ o, r = .w o) → ∀ j : Nat, isOw ρ[j]? = true → σ[j]? = some (some (V.ref a)) → False) → D.rt x H'
  | .ex x ρ => ∀ σ, Raised K mg W G F σ x ρ
  | .bad => False
def tS (W : WX) (m : SM) : TS := fun D σ H => ∃ G F ρ, Sat K mg G F H σ ρ ∧ SGd K mg W G F (m ρ) D
end
abbrev MS (X : Cx) (W : WX) (st : Stmt) (m : SM) : Prop := PS X st (tS X.K X.mg W m)
abbrev MSs (X : Cx) (W : WX) (st : List Stmt) (m : SM) : Prop := PSs X st (tS X.K X.mg W m)
section
variable {K : PySem.W.Frag} {mg : Str → Option Value} {W : WX} {F F' H H' : Hp} {G : Gh} {σ : St} {ρ : En}
theorem SGd.mono {r : SR} {D : Ends} (e : Same F F') (h : SGd K mg W G F r D) : SGd K mg W G F' r D := by
  cases r with
  | nx ρ => exact fun F2 H2 σ S e2 => h F2 H2 σ S (e.trans e2)
  | bk ρ => exact fun F2 H2 σ S e2 => h F2 H2 σ S (e.trans e2)
  | ct ρ => exact fun F2 H2 σ S e2 => h F2 H2 σ S (e.trans e2)
  | rt r ρ => exact fun F2 H2 σ x S e2 => h F2 H2 σ x S (e.trans e2)
  | ex x ρ => exact fun σ => Raised.mono e (h σ)
  | bad => exact h
def R.st {α : Type} (r : R α) (f : α → En → SR) : SR := match r with
  | .ok a ρ => f a ρ
  | .ex x ρ => .ex x ρ
  | .bad => .bad
/-- a piece of an expression, then a statement's rest -/
theorem Gd.st {α β : Type} {Rep : Gh → Hp → Hp → St → En → β → α → Prop} {r : R α} {f : α → En → SR} {D : Ends} {Q' : β → Hp → Prop} (h : SGd K mg W G F (r.st f) D)
    (k : ∀ v ρ' F' H' x, Sat K mg G F' H' σ ρ' → Same F F' → Rep G F' H' σ ρ' x v → SGd K mg W G F' (f v ρ') D → Q' x H') : Gd K mg W Rep G F σ r Q' := by
  cases r with
  | ok v ρ => exact fun F2 H2 x S e2 r => k v ρ F2 H2 x S e2 r (SGd.mono e2 h)
  | ex x ρ => exact h σ
  | bad => exact h
theorem subS {m : SM} {D : Ends} (S : Sat K mg G F H σ ρ) (h : SGd K mg W G F (m ρ) D) : tS K mg W m D σ H := ⟨G, F, ρ, S, h⟩
def mNext : SM := fun ρ => .nx ρ
def mSeq (a b : SM) : SM := fun ρ => match a ρ with
  | .nx ρ => b ρ
  | r => r
theorem SGd.seq {a b : SM} {D : Ends} (h : SGd K mg W G F (mSeq a b ρ) D) : SGd K mg W G F (a ρ) { D with nx := tS K mg W b D } := by
  unfold mSeq at h
  cases q : a ρ with
  | nx ρ1 =>
    rw [q] at h
    exact fun F2 H2 σ S e => subS S (SGd.mono e h)
  | bk _ => rw [q] at h; exact h
  | ct _ => rw [q] at h; exact h
  | rt _ _ => rw [q] at h; exact h
  | ex _ _ => rw [q] at h; exact h
  | bad => rw [q] at h; exact h
end
section
variable {X : Cx} {W : WX} {pos : Pos}
theorem MS.weak {st : Stmt} {m : SM} {t : TS} (h : PS X st t) (k : ∀ {σ : St} {H : Hp} {D : Ends} {G : Gh} {F : Hp} {ρ : En}, Sat X.K X.mg G F H σ ρ → SGd X.K X.mg W G F (m ρ) D → t D σ H) : MS X W st m :=
  ⟨fun pins s σ H D I ⟨_, _, _, S, g⟩ => h.run pins s σ H D I (k S g)⟩
theorem MSs.weak {st : List Stmt} {m : SM} {t : TS} (h : PSs X st t) (k : ∀ {σ : St} {H : Hp} {D : Ends} {G : Gh} {F : Hp} {ρ : En}, Sat X.K X.mg G F H σ ρ → SGd X.K X.mg W G F (m ρ) D → t D σ H) : MSs X W st m :=
  ⟨fun pins s σ H D I ⟨_, _, _, S, g⟩ => h.run pins s σ H D I (k S g)⟩
theorem mss_nil : MSs X W [] mNext := MSs.weak pss_nil fun {σ H D G F ρ} S g => g F H σ S (Same.refl _)
theorem mss_cons {st : Stmt} {rest : List Stmt} {a b : SM} (h1 : MS X W st a) (h2 : MSs X W rest b) : MSs X W (st :: rest) (mSeq a b) :=
  MSs.weak (pss_cons h1 h2) fun S g => subS S (SGd.seq g)
theorem mss_one {st : Stmt} {a : SM} (h1 : MS X W st a) : MSs X W [st] a := pss_one h1
theorem ms_pass : MS X W (.Pass pos) mNext := MS.weak ps_pass fun {σ H D G F ρ} S g => g F H σ S (Same.refl _)
def mBreak : SM := fun ρ => .bk ρ
def mCont : SM := fun ρ => .ct ρ
theorem ms_break : MS X W (.Break pos) mBreak := MS.weak ps_break fun {σ H D G F ρ} S g => g F H σ S (Same.refl _)
theorem ms_continue : MS X W (.Continue pos) mCont := MS.weak ps_continue fun {σ H D G F ρ} S g => g F H σ S (Same.refl _)
/-- an expression as a statement -/
def mDrop (m : EM) : SM := fun ρ => (m ρ).st fun _ ρ => .nx ρ
theorem ms_expr {e : Expr} {m : EM} (he : ME X W e m) (hs : swapsWith e none pos.line X.env = pure false := by rfl) : MS X W (.Expr e pos) (mDrop m) :=
  MS.weak (ps_expr he hs) fun S g => sub S (Gd.st g fun v ρ1 F1 H1 x S1 e1 r1 k1 => k1 F1 H1 _ S1 (Same.refl _))
def mIfS (c : TM) (a b : SM) : SM := fun ρ => (c ρ).st fun c ρ => if c then a ρ else b ρ
theorem ms_if {c : Expr} {a b : List Stmt} {mc : TM} {ma mb : SM} (hc : MT X W c mc) (ha : MSs X W a ma) (hb : MSs X W b mb) : MS X W (.If c a b pos) (mIfS mc ma mb) :=
  MS.weak (ps_if hc ha hb) fun S g => subT S (Gd.st g fun v ρ1 F1 H1 x S1 e1 r1 k1 => by
    subst r1
    cases x with
    | true => exact subS S1 k1
    | false => exact subS S1 k1)
/-- what is handed back -/
def retV (v : OV) (ρ : En) : SR := match v with
  | .d x => .rt (.v x) ρ
  | .n w => .rt (.w w) ρ
  | .o i => match ρ[i]? with
    | some (.val x) => .rt (.v x) ρ
    | some (.own false w) => .rt (.w w) (ρ.set i .un)
    | _ => .bad
def mRet (m : EM) : SM := fun ρ => (m ρ).st retV
def mRetN : SM := fun ρ => .rt (.v .non) ρ
theorem ms_retN : MS X W (.Return none pos) mRetN := MS.weak ps_retN fun {σ H D G F ρ} S g => g F H σ .non S (Same.refl _) (.v .non) fun _ z => nomatch z
theorem Sat.drop {K : PySem.W.Frag} {mg : Str → Option Value} {F H : Hp} {G : Gh} {σ : St} {ρ : En} (S : Sat K mg G F H σ ρ) {i : Nat} {w : Ow} (q : ρ[i]? = some (Sl.own false w)) : Sat K mg G F H σ (ρ.set i .un) := by
  have hl : i < ρ.length := (List.getElem?_eq_some_iff.mp q).1
  refine ⟨S.fh, S.f0, S.h0, S.fn, by rw [List.length_set]; exact S.len, fun j d h => ?_, fun j io o h => ?_, fun j k b hjk h1 h2 => ?_, fun k b h => ?_⟩
  · by_cases e : j = i
    · subst e
      rw [List.getElem?_set_self hl] at h
      cases h
    · rw [List.getElem?_set_ne (Ne.symm e)] at h
      exact S.val j d h
  · by_cases e : j = i
    · subst e
      rw [List.getElem?_set_self hl] at h
      cases h
    · rw [List.getElem?_set_ne (Ne.symm e)] at h
      exact S.own j io o h
  · exact S.dis j k b hjk (isOw_set h1 rfl).2 (isOw_set h2 rfl).2
  · obtain ⟨e1, o, e2⟩ := S.io k b h
    have hk : k ≠ i := fun e => by
      subst e
      rw [q] at e2
      cases e2
    exact ⟨e1, o, by rw [List.getElem?_set_ne (Ne.symm hk)]; exact e2⟩
theorem ms_ret {e : Expr} {m : EM} (he : ME X W e m) : MS X W (.Return (some e) pos) (mRet m) :=
  MS.weak (ps_ret he) fun S g => sub S (Gd.st g fun v ρ1 F1 H1 x S1 e1 r1 k1 => by
    cases r1 with
    | d r => exact k1 F1 H1 _ x S1 (Same.refl _) (.v r) fun _ _ ⟨_, z⟩ => nomatch z
    | n h1 h2 h3 h4 => exact k1 F1 H1 _ _ S1 (Same.refl _) (.w h1 h2 h3) fun a ea _ => by cases ea; exact h4
    | o h =>
      rename_i i
      have k2 : SGd X.K X.mg W _ F1 (match ρ1[i]? with
        | some (.val x) => .rt (.v x) ρ1
        | some (.own false w) => .rt (.w w) (ρ1.set i .un)
        | _ => .bad) _ := k1
      cases q : ρ1[i]? with
      | none =>
        rw [q] at k2
        exact k2.elim
      | some s =>
        rw [q] at k2
        cases s with
        | un => exact k2.elim
        | val y =>
          obtain ⟨w, h1, h2⟩ := S1.val i _ q
          rw [h] at h1
          cases h1
          exact k2 F1 H1 _ x S1 (Same.refl _) (.v h2) fun _ _ ⟨_, z⟩ => nomatch z
        | own io w =>
          cases io with
          | true => exact k2.elim
          | false =>
            obtain ⟨a, h1, h2, h3, h4⟩ := S1.own i false w q
            have h1' := h1
            rw [h] at h1'
            cases h1'
            refine k2 F1 H1 _ _ (S1.drop q) (Same.refl _) (.w h2 h3 h4) fun b eb _ j hj hs => ?_
            cases eb
            obtain ⟨ne, hj'⟩ := isOw_set hj rfl
            exact S1.dis i j a (Ne.symm ne) (by rw [q]; rfl) hj' h1 hs)
end
end Mi
set_option Elab.async false
set_option linter.all false
set_option maxRecDepth 100000
set_option maxHeartbeats 1000000
/-! Mi, part E: stores, methods that change an object of one's own, loops. -/
namespace Mi
open PySem PySem.Spec PyProof.Rows L2

section
variable {K : PySem.W.Frag} {mg : Str → Option Value} {W : WX} {F F' H H' : Hp} {G : Gh} {σ : St} {ρ : En}
/-- what a slot may be given -/
def PutOk (K : PySem.W.Frag) (mg : Str → Option Value) (G : Gh) (F H : Hp) (σ : St) (ρ : En) (i : Nat) (x : V) : Sl → Prop
  | .un => True
  | .val d => Rp K mg F x d
  | .own io w => io = false ∧ ∃ a, x = .ref a ∧ F a = none ∧ OwOk K mg F H a w ∧ (G.O a ∨ G.H0 a = none) ∧ ∀ j : Nat, j ≠ i → isOw ρ[j]? = true → σ[j]? = some (some (V.ref a)) → False
theorem Sat.put (S : Sat K mg G F H σ ρ) {i : Nat} {x : Option V} {s : Sl} (hi : i < ρ.length) (hio : ∀ o, ρ[i]? ≠ some (Sl.own true o)) (hs : (s = .un) ∨ ∃ y, x = some y ∧ PutOk K mg G F H σ ρ i y s) : Sat K mg G F H (σ.set i x) (ρ.set i s) := by
  have hσ : i < σ.length := by rw [← S.len]; exact hi
  refine ⟨S.fh, S.f0, S.h0, S.fn, by rw [List.length_set, List.length_set]; exact S.len, fun j d h => ?_, fun j io o h => ?_, fun j k b hjk h1 h2 e1 e2 => ?_, fun k b h => ?_⟩
  · by_cases e : j = i
    · subst e
      rw [List.getElem?_set_self hi] at h
      cases h
      rcases hs with hs | ⟨y, rfl, hs⟩
      · cases hs
      · exact ⟨y, List.getElem?_set_self hσ, hs⟩
    · rw [List.getElem?_set_ne (Ne.symm e)] at h ⊢
      exact S.val j d h
  · by_cases e : j = i
    · subst e
      rw [List.getElem?_set_self hi] at h
      cases h
      rcases hs with hs | ⟨y, rfl, _, a, rfl, h1, h2, h3, _⟩
      · cases hs
      · exact ⟨a, List.getElem?_set_self hσ, h1, h2, h3⟩
    · rw [List.getElem?_set_ne (Ne.symm e)] at h ⊢
      exact S.own j io o h
  · have key : ∀ {j k : Nat}, j = i → k ≠ i → isOw (ρ.set i s)[j]? = true → isOw (ρ.set i s)[k]? = true → (σ.set i x)[j]? = some (some (V.ref b)) → (σ.set i x)[k]? = some (some (V.ref b)) → False := fun {j k} ej ek g1 g2 f1 f2 => by
      subst ej
      rw [List.getElem?_set_self hi] at g1
      rw [List.getElem?_set_self hσ] at f1
      have g3 : isOw ρ[k]? = true := by
        rw [List.getElem?_set_ne (Ne.symm ek)] at g2
        exact g2
      have f3 : σ[k]? = some (some (V.ref b)) := by
        rw [List.getElem?_set_ne (Ne.symm ek)] at f2
        exact f2
      clear g2 f2
      cases s with
      | own io w =>
        rcases hs with hs | ⟨y, rfl, _, a, rfl, _, _, _, h4⟩
        · cases hs
        · cases f1
          exact h4 k ek g3 f3
      | _ => cases g1
    by_cases ej : j = i
    · exact key ej (fun ek => hjk (ej.trans ek.symm)) h1 h2 e1 e2
    · by_cases ek : k = i
      · exact key ek ej h2 h1 e2 e1
      · rw [List.getElem?_set_ne (Ne.symm ej)] at h1
        rw [List.getElem?_set_ne (Ne.symm ej)] at e1
        rw [List.getElem?_set_ne (Ne.symm ek)] at h2
        rw [List.getElem?_set_ne (Ne.symm ek)] at e2
        exact S.dis j k b hjk h1 h2 e1 e2
  · obtain ⟨e1, o, e2⟩ := S.io k b h
    have hk : k ≠ i := fun e => by
      subst e
      exact hio o e2
    exact ⟨by rw [List.getElem?_set_ne (Ne.symm hk)]; exact e1, o, by rw [List.getElem?_set_ne (Ne.symm hk)]; exact e2⟩
/-- an object of one's own is changed -/
theorem Sat.upd (S : Sat K mg G F H σ ρ) {i : Nat} {io : Bool} {w w' : Ow} {a : Addr} {u : HO} (q : ρ[i]? = some (Sl.own io w)) (hσ : σ[i]? = some (some (V.ref a))) (ok : OwOk K mg F (upd H a u) a w') :
    Sat K mg G F (upd H a u) σ (ρ.set i (.own io w')) := by
  obtain ⟨a', h1, h2, h3, h4⟩ := S.own i io w q
  rw [hσ] at h1
  cases h1
  have hl : i < ρ.length := (List.getElem?_eq_some_iff.mp q).1
  have ow_set : ∀ {j : Nat}, isOw (ρ.set i (Sl.own io w'))[j]? = true → isOw ρ[j]? = true := fun {j} h => by
    by_cases e : j = i
    · subst e
      rw [q]
      rfl
    · rw [List.getElem?_set_ne (Ne.symm e)] at h
      exact h
  refine ⟨fun b o hb => ?_, S.f0, fun b o hb hn => ?_, S.fn, by rw [List.length_set]; exact S.len, fun j d h => ?_, fun j io' o h => ?_, fun j k b hjk h1 h2 => S.dis j k b hjk (ow_set h1) (ow_set h2), fun k b h => ?_⟩
  · rw [upd_ne (ne_of_none hb h2)]
    exact S.fh b o hb
  · have hba : b ≠ a := fun e => by
      subst e
      rcases h4 with h4 | h4
      · exact hn h4
      · rw [h4] at hb
        cases hb
    rw [upd_ne hba]
    exact S.h0 b o hb hn
  · by_cases e : j = i
    · subst e
      rw [List.getElem?_set_self hl] at h
      cases h
    · rw [List.getElem?_set_ne (Ne.symm e)] at h
      exact S.val j d h
  · by_cases e : j = i
    · subst e
      rw [List.getElem?_set_self hl] at h
      cases h
      exact ⟨a, hσ, h2, ok, h4⟩
    · rw [List.getElem?_set_ne (Ne.symm e)] at h
      obtain ⟨b, k1, k2, k3, k4⟩ := S.own j io' o h
      have hb : b ≠ a := fun eb => by
        subst eb
        exact S.dis i j b (Ne.symm e) (by rw [q]; rfl) (by rw [h]; rfl) hσ k1
      exact ⟨b, k1, k2, k3.mono (Same.refl _) (upd_ne hb), k4⟩
  · obtain ⟨e1, o, e2⟩ := S.io k b h
    by_cases e : k = i
    · subst e
      rw [q] at e2
      cases e2
      exact ⟨e1, _, List.getElem?_set_self hl⟩
    · exact ⟨e1, o, by rw [List.getElem?_set_ne (Ne.symm e)]; exact e2⟩
end

/-! ### x = e -/
def canSet (ρ : En) (i : Nat) : Bool := match ρ[i]? with
  | some (.own true _) => false
  | some _ => true
  | none => false
theorem canSet_ok {ρ : En} {i : Nat} (h : canSet ρ i = true) : i < ρ.length ∧ ∀ o, ρ[i]? ≠ some (Sl.own true o) := by
  unfold canSet at h
  cases q : ρ[i]? with
  | none =>
    rw [q] at h
    cases h
  | some s =>
    refine ⟨(List.getElem?_eq_some_iff.mp q).1, fun o e => ?_⟩
    rw [q] at h
    cases e
    cases h
def setSl (i : Nat) (v : OV) (ρ : En) : Option En := if canSet ρ i then (match v with
  | .d x => some (ρ.set i (.val x))
  | .n w => some (ρ.set i (.own false w))
  | .o j => match esc (.o j) ρ with
    | some (d, ρ) => if canSet ρ i then some (ρ.set i (.val d)) else none
    | none => none) else none
def nxt (o : Option En) : SR := match o with
  | some ρ => .nx ρ
  | none => .bad
def mSet (i : Nat) (m : EM) : SM := fun ρ => (m ρ).st fun v ρ => nxt (setSl i v ρ)
section
variable {K : PySem.W.Frag} {mg : Str → Option Value} {W : WX} {F F' H H' : Hp} {G : Gh} {σ : St} {ρ : En}
theorem Sat.setSl (S : Sat K mg G F H σ ρ) {i : Nat} {x : V} {v : OV} {ρ' : En} (r : RpO K mg G F H σ ρ x v) (h : setSl i v ρ = some ρ') : ∃ F', Same F F' ∧ Sat K mg G F' H (σ.set i (some x)) ρ' := by
  unfold Mi.setSl at h
  by_cases hc : canSet ρ i = true
  · rw [if_pos hc] at h
    obtain ⟨hi, hio⟩ := canSet_ok hc
    cases r with
    | d r =>
      cases h
      exact ⟨F, Same.refl _, S.put hi hio (.inr ⟨x, rfl, r⟩)⟩
    | n h1 h2 h3 h4 =>
      cases h
      exact ⟨F, Same.refl _, S.put hi hio (.inr ⟨_, rfl, rfl, _, rfl, h1, h2, h3, fun j _ => h4 j⟩)⟩
    | o e =>
      rename_i j
      dsimp only at h
      cases q : Mi.esc (.o j) ρ with
      | none =>
        rw [q] at h
        cases h
      | some p =>
        obtain ⟨d, ρ2⟩ := p
        rw [q] at h
        dsimp only at h
        obtain ⟨F2, e2, S2, r2⟩ := S.esc (.o e) q
        by_cases hc2 : canSet ρ2 i = true
        · rw [if_pos hc2] at h
          cases h
          obtain ⟨hi2, hio2⟩ := canSet_ok hc2
          exact ⟨F2, e2, S2.put hi2 hio2 (.inr ⟨x, rfl, r2⟩)⟩
        · rw [if_neg hc2] at h
          cases h
  · rw [if_neg hc] at h
    cases h
theorem set_fin {i : Nat} {x : V} {v : OV} {D : Ends} (S : Sat K mg G F H σ ρ) (r : RpO K mg G F H σ ρ x v) (k : SGd K mg W G F (nxt (setSl i v ρ)) D) : D.nx (σ.set i (some x)) H := by
  cases q : setSl i v ρ with
  | none =>
    rw [q] at k
    exact k.elim
  | some ρ' =>
    rw [q] at k
    obtain ⟨F', e, S'⟩ := S.setSl r q
    exact k F' H _ S' e
end
section
variable {X : Cx} {W : WX} {pos : Pos}
theorem ms_set {i : Nat} {x : Str} {e : Expr} {m : EM} {pos' : Pos} (hN : X.N.Nodup) (hi : X.N[i]? = some x) (hx : Loc X.env.scope x) (he : ME X W e m) (hs : swapsWith e (some (.Name x pos')) pos.line X.env = pure false := by rfl) (hf : X.fn x = true ∨ X.env.scope.names.lookup x = some .local := by first | exact .inl rfl | exact .inr rfl | assumption) :
    MS X W (.Assign [.Name x pos'] e pos) (mSet i m) :=
  MS.weak (ps_set hN hi hx he hs hf) fun S g => sub S (Gd.st g fun v ρ1 F1 H1 x S1 e1 r1 k1 => set_fin S1 r1 k1)
/-- x += e -/
def mAug (i : Nat) (g : D → D → Option D) (m : EM) : SM := fun ρ => match ρ[i]? with
  | some (.val d) => (m ρ).st fun v ρ => match v.fz.get ρ with
    | some e => (match g d e with
      | some z => if canSet ρ i then .nx (ρ.set i (.val z)) else .bad
      | none => .bad)
    | none => .bad
  | _ => .bad
theorem ms_aug {i : Nat} {x : Str} {e : Expr} {m : EM} {op : Operator} {ti : TIp} {g : D → D → Option D} {pos' : Pos} (o : Op2 X.K X.mg ti g) (hN : X.N.Nodup) (hi : X.N[i]? = some x) (hx : Loc X.env.scope x) (he : ME X W e m) (ho : PIp X op ti) (hf : X.fn x = true ∨ X.env.scope.names.lookup x = some .local := by first | exact .inl rfl | exact .inr rfl | assumption) :
    MS X W (.AugAssign (.Name x pos') op e pos) (mAug i g m) :=
  MS.weak (ps_aug hN hi hx he ho hf) fun {σ H D G F ρ} S k => by
    unfold mAug at k
    cases q : ρ[i]? with
    | none =>
      rw [q] at k
      exact k.elim
    | some s =>
      rw [q] at k
      cases s with
      | val d =>
        obtain ⟨y, h1, h2⟩ := S.val i d q
        refine ⟨y, h1, sub S (Gd.st k fun v ρ1 F1 H1 z S1 e1 r1 k1 => ?_)⟩
        obtain ⟨F2, e2, S2, r2⟩ := S1.fz r1
        cases q1 : v.fz.get ρ1 with
        | none =>
          rw [q1] at k1
          exact k1.elim
        | some e =>
          rw [q1] at k1
          dsimp only at k1
          cases q2 : g d e with
          | none =>
            rw [q2] at k1
            exact k1.elim
          | some z' =>
            rw [q2] at k1
            dsimp only at k1
            by_cases hc : canSet ρ1 i = true
            · rw [if_pos hc] at k1
              obtain ⟨hi', hio⟩ := canSet_ok hc
              refine o S2.fh (.fz ((h2.mono e1).mono e2)) (S2.get r2 q1) q2 fun F' H' w' ex rw' => ?_
              exact k1 F' H' _ ((S2.ext ex).put hi' hio (.inr ⟨w', rfl, rw'⟩)) (e2.trans ex.ff)
            · rw [if_neg hc] at k1
              exact k1.elim
      | _ => exact k.elim
theorem o_addI {K : PySem.W.Frag} {mg : Str → Option Value} : Op2 K mg (ipI fun i j => i + j) (fun d e => match d, e with | .int a, .int b => some (.int (a + b)) | _, _ => none) := fun {F H x y d e z Q} hs rx ry h q => by
  cases d <;> cases e <;> first | (cases h; done) | (cases h; exact ⟨_, _, rx.int, ry.int, q F H _ (.refl hs) (.int _)⟩)
theorem o_subI {K : PySem.W.Frag} {mg : Str → Option Value} : Op2 K mg (ipI fun i j => i - j) (fun d e => match d, e with | .int a, .int b => some (.int (a - b)) | _, _ => none) := fun {F H x y d e z Q} hs rx ry h q => by
  cases d <;> cases e <;> first | (cases h; done) | (cases h; exact ⟨_, _, rx.int, ry.int, q F H _ (.refl hs) (.int _)⟩)

/-! ### an object of one's own, changed -/
/-- x[i] = e -/
def mSetIx (s : Nat) (mi me : EM) : SM := fun ρ => (me ρ).st fun v ρ => match esc v.fz ρ with
  | some (d, ρ) => if isOw ρ[s]? then (mi ρ).st fun iv ρ => (match iv with
    | .d (.int k) => (match ρ[s]? with
      | some (.own io (.lst xs)) => (match ixN xs.length k with
        | some j => .nx (ρ.set s (.own io (.lst (xs.set j d))))
        | none => .bad)
      | _ => .bad)
    | _ => .bad) else .bad
  | none => .bad
theorem Sat.owAt {K : PySem.W.Frag} {mg : Str → Option Value} {F H : Hp} {G : Gh} {σ : St} {ρ : En} (S : Sat K mg G F H σ ρ) {s : Nat} (h : isOw ρ[s]? = true) : ∃ a io w, ρ[s]? = some (Sl.own io w) ∧ σ[s]? = some (some (V.ref a)) ∧ F a = none ∧ OwOk K mg F H a w := by
  cases q : ρ[s]? with
  | none =>
    rw [q] at h
    cases h
  | some sl =>
    rw [q] at h
    cases sl with
    | own io w =>
      obtain ⟨a, h1, h2, h3, _⟩ := S.own s io w q
      exact ⟨a, io, w, rfl, h1, h2, h3⟩
    | _ => cases h
theorem ms_setIx {s : Nat} {x : Str} {i e : Expr} {mi me : EM} {px pos' : Pos} (hi : ME X W i mi) (he : ME X W e me) (hpg : PG X (.Subscript (.Name x px) i pos') (gSub (tVar s) (tE X.K X.mg W mi) rSetL))
    (hs : swapsWithSole [.Subscript (.Name x px) i pos'] e pos.line X.env = pure false := by rfl) (hw : swappedStores [.Subscript (.Name x px) i pos'] e X.env = pure none := by rfl) : MS X W (.Assign [.Subscript (.Name x px) i pos'] e pos) (mSetIx s mi me) :=
  MS.weak (ps_asg he hpg hs hw) fun {σ H D G F ρ} S k => sub S (Gd.st k fun v ρ1 F1 H1 x1 S1 e1 r1 k1 => by
    obtain ⟨F2, e2, S2, r2⟩ := S1.fz r1
    cases q1 : esc v.fz ρ1 with
    | none =>
      rw [q1] at k1
      exact k1.elim
    | some p =>
      obtain ⟨d, ρ2⟩ := p
      rw [q1] at k1
      dsimp only at k1
      obtain ⟨F3, e3, S3, r3⟩ := S2.esc r2 q1
      by_cases ho : isOw ρ2[s]? = true
      · rw [if_pos ho] at k1
        have k3 := SGd.mono (e2.trans e3) k1
        obtain ⟨a, io0, w0, _, ha, _⟩ := S3.owAt ho
        refine ⟨_, ha, sub S3 (Gd.st k3 fun iv ρ3 F4 H4 y S4 e4 r4 k4 => ?_)⟩
        cases r4 with
        | d r =>
          cases r with
          | int n =>
            dsimp only at k4
            cases q4 : ρ3[s]? with
            | none =>
              rw [q4] at k4
              exact k4.elim
            | some sl =>
              rw [q4] at k4
              cases sl with
              | own io w =>
                cases w with
                | lst xs =>
                  dsimp only at k4
                  cases q5 : ixN xs.length n with
                  | none =>
                    rw [q5] at k4
                    exact k4.elim
                  | some j =>
                    rw [q5] at k4
                    dsimp only at k4
                    obtain ⟨b, b1, b2, b3, b4⟩ := S4.own s io _ q4
                    rw [ha] at b1
                    cases b1
                    cases b3 with
                    | lst hH rA =>
                      rename_i vs
                      refine ⟨a, vs, n, j, rfl, rfl, hH, by rw [rA.len]; exact q5, ?_⟩
                      exact k4 F4 _ σ (S4.upd q4 ha (.lst upd_same (rA.set (r3.mono e4) j))) (Same.refl _)
                | _ => exact k4.elim
              | _ => exact k4.elim
          | _ => exact k4.elim
        | _ => exact k4.elim
      · rw [if_neg ho] at k1
        exact k1.elim)
/-- d[k] = e, keys ints and texts -/
def putD {κ : Type} [DecidableEq κ] (kvs : List (κ × D)) (k : κ) (v : D) : List (κ × D) :=
  if (kvs.any fun kv => decide (kv.1 = k)) = true then kvs.map (fun kv => if kv.1 = k then (kv.1, v) else kv) else kvs ++ [(k, v)]
def mPut (s : Nat) (mk me : EM) : SM := fun ρ => (me ρ).st fun v ρ => match esc v.fz ρ with
  | some (d, ρ) => if isOw ρ[s]? then (mk ρ).st fun kv ρ => (match kv with
    | .d kd => (match keyD kd with
      | some k => (match ρ[s]? with
        | some (.own io (.dk kvs)) => if kvs.length < BIG then .nx (ρ.set s (.own io (.dk (putD kvs k d)))) else .bad
        | _ => .bad)
      | none => .bad)
    | _ => .bad) else .bad
  | none => .bad
theorem RpK.len {K : PySem.W.Frag} {mg : Str → Option Value} {F : Hp} {vs : List (Key × V)} {ds : List (Key × D)} : RpK K mg F vs ds → vs.length = ds.length
  | .nil => rfl
  | .cons _ t => congrArg Nat.succ (RpK.len t)
theorem keyD_V {K : PySem.W.Frag} {mg : Str → Option Value} {F : Hp} {x : V} {d : D} {k : Key} (r : Rp K mg F x d) (h : keyD d = some k) : x = kV k := by
  cases r <;> first | (cases h; done) | (cases h; rfl)
theorem RpK.any {K : PySem.W.Frag} {mg : Str → Option Value} {F : Hp} (k : Key) : ∀ {vs : List (Key × V)} {ds : List (Key × D)}, RpK K mg F vs ds → (vs.any fun kv => decide (kv.1 = k)) = (ds.any fun kv => decide (kv.1 = k))
  | _, _, .nil => rfl
  | _, _, .cons _ t => by
    rw [List.any_cons, List.any_cons, RpK.any k t]
theorem RpK.mapSet {K : PySem.W.Frag} {mg : Str → Option Value} {F : Hp} {v : V} {d : D} (k : Key) (r : Rp K mg F v d) : ∀ {vs : List (Key × V)} {ds : List (Key × D)}, RpK K mg F vs ds → RpK K mg F (vs.map fun kv => if kv.1 = k then (kv.1, v) else kv) (ds.map fun kv => if kv.1 = k then (kv.1, d) else kv)
  | _, _, .nil => .nil
  | (j, x) :: vs, (_, y) :: ds, .cons q t => by
    rw [List.map_cons, List.map_cons]
    by_cases e : j = k
    · rw [if_pos e, if_pos e]
      exact .cons r (RpK.mapSet k r t)
    · rw [if_neg e, if_neg e]
      exact .cons q (RpK.mapSet k r t)
theorem RpK.app {K : PySem.W.Frag} {mg : Str → Option Value} {F : Hp} {vs ws : List (Key × V)} {ds es : List (Key × D)} : RpK K mg F vs ds → RpK K mg F ws es → RpK K mg F (vs ++ ws) (ds ++ es)
  | .nil, s => s
  | .cons r t, s => .cons r (RpK.app t s)
theorem RpK.put {K : PySem.W.Frag} {mg : Str → Option Value} {F : Hp} {v : V} {d : D} (k : Key) (r : Rp K mg F v d) {vs : List (Key × V)} {ds : List (Key × D)} (t : RpK K mg F vs ds) : RpK K mg F (putK vs k v) (putD ds k d) := by
  unfold putK putD
  rw [RpK.any k t]
  by_cases e : (ds.any fun kv => decide (kv.1 = k)) = true
  · rw [if_pos e, if_pos e]
    exact RpK.mapSet k r t
  · rw [if_neg e, if_neg e]
    exact t.app (.cons r .nil)
theorem RpK.look {K : PySem.W.Frag} {mg : Str → Option Value} {F : Hp} (k : Key) : ∀ {vs : List (Key × V)} {ds : List (Key × D)}, RpK K mg F vs ds → (lookK ds k = none ∧ valV vs k = none) ∨ ∃ v d, lookK ds k = some d ∧ valV vs k = some v ∧ Rp K mg F v d
  | _, _, .nil => .inl ⟨rfl, rfl⟩
  | (j, x) :: vs, (_, y) :: ds, .cons q t => by
    by_cases e : j = k
    · refine .inr ⟨x, y, ?_, valV_pos (p := (j, x)) e, q⟩
      unfold lookK
      rw [List.find?_cons]
      simp [e]
    · have h1 : valV ((j, x) :: vs) k = valV vs k := valV_neg (p := (j, x)) e
      have h2 : lookK ((j, y) :: ds) k = lookK ds k := by
        unfold lookK
        rw [List.find?_cons]
        simp [e]
      rw [h1, h2]
      exact RpK.look k t
theorem ms_put {s : Nat} {x : Str} {i e : Expr} {mi me : EM} {px pos' : Pos} (hu : X.A.units + 1 < cLine) (hx : PE X (.Name x px) (tVar s)) (hi : ME X W i mi) (he : ME X W e me)
    (hs : swapsWith e (some (.Subscript (.Name x px) i pos')) pos.line X.env = pure false := by rfl) : MS X W (.Assign [.Subscript (.Name x px) i pos'] e pos) (mPut s mi me) :=
  MS.weak (ps_dput hu hx hi he hs) fun {σ H D G F ρ} S k => sub S (Gd.st k fun v ρ1 F1 H1 x1 S1 e1 r1 k1 => by
    obtain ⟨F2, e2, S2, r2⟩ := S1.fz r1
    cases q1 : esc v.fz ρ1 with
    | none =>
      rw [q1] at k1
      exact k1.elim
    | some p =>
      obtain ⟨d, ρ2⟩ := p
      rw [q1] at k1
      dsimp only at k1
      obtain ⟨F3, e3, S3, r3⟩ := S2.esc r2 q1
      by_cases ho : isOw ρ2[s]? = true
      · rw [if_pos ho] at k1
        have k3 := SGd.mono (e2.trans e3) k1
        obtain ⟨a, io0, w0, _, ha, _⟩ := S3.owAt ho
        refine ⟨_, ha, sub S3 (Gd.st k3 fun iv ρ3 F4 H4 y S4 e4 r4 k4 => ?_)⟩
        cases r4 with
        | d r =>
          rename_i kd
          dsimp only at k4
          cases q3 : keyD kd with
          | none =>
            rw [q3] at k4
            exact k4.elim
          | some kk =>
            rw [q3] at k4
            dsimp only at k4
            cases q4 : ρ3[s]? with
            | none =>
              rw [q4] at k4
              exact k4.elim
            | some sl =>
              rw [q4] at k4
              cases sl with
              | own io w =>
                cases w with
                | dk kvs =>
                  dsimp only at k4
                  by_cases hz : kvs.length < BIG
                  · rw [if_pos hz] at k4
                    obtain ⟨b, b1, b2, b3, b4⟩ := S4.own s io _ q4
                    rw [ha] at b1
                    cases b1
                    cases b3 with
                    | dk hH rA =>
                      rename_i vs
                      have ek := keyD_V r q3
                      subst ek
                      refine ⟨a, _, rfl, DPut.k hH (by rw [rA.len]; exact Nat.lt_of_lt_of_le hz BIG_le), ?_⟩
                      exact k4 F4 _ σ (S4.upd q4 ha (.dk upd_same (rA.put kk (r3.mono e4)))) (Same.refl _)
                  · rw [if_neg hz] at k4
                    exact k4.elim
                | _ => exact k4.elim
              | _ => exact k4.elim
        | _ => exact k4.elim
      · rw [if_neg ho] at k1
        exact k1.elim)
end
end Mi
set_option Elab.async false
set_option linter.all false
set_option maxRecDepth 100000
set_option maxHeartbeats 1000000
/-! Mi, part F: methods of a list of one's own; what is walked; for, while. -/
namespace Mi
open PySem PySem.Spec PyProof.Rows L2

def isOwL : Option Sl → Bool
  | some (.own _ (.lst _)) => true
  | _ => false
/-- the list in the slot s becomes f of it -/
def chg (s : Nat) (ρ : En) (f : List D → Option (List D × D)) : R OV := match ρ[s]? with
  | some (.own io (.lst xs)) => (match f xs with
    | some (ys, z) => .ok (.d z) (ρ.set s (.own io (.lst ys)))
    | none => .bad)
  | _ => .bad
def fApp (d : D) (xs : List D) : Option (List D × D) := if xs.length < BIG then some (xs ++ [d], .non) else none
def fExt (ys : List D) (xs : List D) : Option (List D × D) := if xs.length + ys.length ≤ BIG then some (xs ++ ys, .non) else none
def fPopAt (i : Int) (xs : List D) : Option (List D × D) := if -(2 ^ 63) ≤ i ∧ i < 2 ^ 63 then (match seqIndex? i xs.length with
  | some k => (match xs[k]? with
    | some y => some (xs.eraseIdx k, y)
    | none => none)
  | none => none) else none
def fPop (xs : List D) : Option (List D × D) := match xs[xs.length - 1]? with
  | some y => some (xs.dropLast, y)
  | none => none
def mAppend (s : Nat) (m : EM) : EM := fun ρ => if isOwL ρ[s]? then (m ρ).bind fun v ρ => (match esc v.fz ρ with
  | some (d, ρ) => chg s ρ (fApp d)
  | none => .bad) else .bad
def mExtend (s : Nat) (m : EM) : EM := fun ρ => if isOwL ρ[s]? then (m ρ).bind fun v ρ => (match v.fz.get ρ with
  | some (.lst ys) => chg s ρ (fExt ys)
  | _ => .bad) else .bad
def mPopAt (s : Nat) (m : EM) : EM := fun ρ => if isOwL ρ[s]? then (m ρ).bind fun v ρ => (match v with
  | .d (.int i) => chg s ρ (fPopAt i)
  | _ => .bad) else .bad
def mPop (s : Nat) : EM := fun ρ => chg s ρ fPop
section
variable {K : PySem.W.Frag} {mg : Str → Option Value} {W : WX} {F F' H H' : Hp} {G : Gh} {σ : St} {ρ : En}
theorem Sat.owLAt (S : Sat K mg G F H σ ρ) {s : Nat} (h : isOwL ρ[s]? = true) : ∃ a vs, σ[s]? = some (some (V.ref a)) ∧ H a = some (.lst vs) := by
  cases q : ρ[s]? with
  | none =>
    rw [q] at h
    cases h
  | some sl =>
    rw [q] at h
    cases sl with
    | own io w =>
      cases w with
      | lst xs =>
        obtain ⟨a, h1, h2, h3, _⟩ := S.own s io _ q
        cases h3 with
        | lst hH _ => exact ⟨a, _, h1, hH⟩
      | _ => cases h
    | _ => cases h
theorem chg_ok {s : Nat} {f : List D → Option (List D × D)} {Q : VK} (S : Sat K mg G F H σ ρ) (k : Gd K mg W (RpO K mg) G F σ (chg s ρ f) Q) :
    ∃ a vs xs ys z, σ[s]? = some (some (V.ref a)) ∧ H a = some (.lst vs) ∧ RpA K mg F vs xs ∧ f xs = some (ys, z) ∧ ∀ ws w, RpA K mg F ws ys → Rp K mg F w z → Q w (upd H a (.lst ws)) := by
  unfold chg at k
  cases q : ρ[s]? with
  | none =>
    rw [q] at k
    exact k.elim
  | some sl =>
    rw [q] at k
    cases sl with
    | own io w =>
      cases w with
      | lst xs =>
        dsimp only at k
        cases q2 : f xs with
        | none =>
          rw [q2] at k
          exact k.elim
        | some p =>
          obtain ⟨ys, z⟩ := p
          rw [q2] at k
          dsimp only at k
          obtain ⟨a, h1, h2, h3, _⟩ := S.own s io _ q
          cases h3 with
          | lst hH rA => exact ⟨a, _, xs, ys, z, h1, hH, rA, q2, fun ws w r1 r2 => k F _ w (S.upd q h1 (.lst upd_same r1)) (Same.refl _) (.d r2)⟩
      | _ => exact k.elim
    | _ => exact k.elim
theorem ifL {s : Nat} {r : R OV} {Q : VK} (k : Gd K mg W (RpO K mg) G F σ (if isOwL ρ[s]? then r else .bad) Q) : isOwL ρ[s]? = true ∧ Gd K mg W (RpO K mg) G F σ r Q := by
  by_cases h : isOwL ρ[s]? = true
  · rw [if_pos h] at k
    exact ⟨h, k⟩
  · rw [if_neg h] at k
    exact k.elim
end
section
variable {X : Cx} {W : WX} {s : Nat} {x : Str} {e : Expr} {m : EM} {px apos cpos : Pos}
theorem tyL {K : PySem.W.Frag} {H : Hp} {a : Addr} {vs : List V} (h : H a = some (.lst vs)) : tyV K "list" (.ref a) H := .inl ⟨rfl, _, .of h⟩
theorem me_append (hx : PE X (.Name x px) (tVar s)) (ha : ME X W e m) (h : PE X (.Call (.Attribute (.Name x px) "append" apos) [e] [] cpos) (tBM X.K "list" rAppend (tVar s) (tCons (tE X.K X.mg W m) tNil))) :
    ME X W (.Call (.Attribute (.Name x px) "append" apos) [e] [] cpos) (mAppend s m) :=
  ME.weak h fun {σ H Q G F ρ} S k => by
    obtain ⟨h0, k⟩ := ifL k
    obtain ⟨a, vs, ha, hv⟩ := S.owLAt h0
    refine ⟨_, ha, tyL hv, sub S (Gd.opd (f := fun v ρ => match esc v ρ with
      | some (d, ρ) => chg s ρ (fApp d)
      | none => .bad) k fun v ρ1 F1 H1 y S1 e1 r1 k1 => ?_)⟩
    cases q : esc v ρ1 with
    | none =>
      rw [q] at k1
      exact k1.elim
    | some p =>
      obtain ⟨d, ρ2⟩ := p
      rw [q] at k1
      dsimp only at k1
      obtain ⟨F2, e2, S2, r2⟩ := S1.esc r1 q
      obtain ⟨b, ws, xs, ys, z, b1, b2, b3, b4, k3⟩ := chg_ok S2 (Gd.mono e2 k1)
      rw [ha] at b1
      cases b1
      obtain ⟨hz, e4⟩ := if_some b4
      cases e4
      exact ⟨a, ws, y, rfl, rfl, b2, by rw [b3.len]; exact Nat.lt_of_lt_of_le hz BIG_le, k3 _ _ (b3.app (.one r2)) .non⟩
theorem me_extend (ha : ME X W e m) (h : PE X (.Call (.Attribute (.Name x px) "extend" apos) [e] [] cpos) (tBM X.K "list" rExtend (tVar s) (tCons (tE X.K X.mg W m) tNil))) :
    ME X W (.Call (.Attribute (.Name x px) "extend" apos) [e] [] cpos) (mExtend s m) :=
  ME.weak h fun {σ H Q G F ρ} S k => by
    obtain ⟨h0, k⟩ := ifL k
    obtain ⟨a, vs, ha, hv⟩ := S.owLAt h0
    refine ⟨_, ha, tyL hv, sub S (Gd.opd (f := fun v ρ => match v.get ρ with
      | some (.lst ys) => chg s ρ (fExt ys)
      | _ => .bad) k fun v ρ1 F1 H1 y S1 e1 r1 k1 => ?_)⟩
    cases q : v.get ρ1 with
    | none =>
      rw [q] at k1
      exact k1.elim
    | some d =>
      rw [q] at k1
      cases d with
      | lst es =>
        dsimp only at k1
        obtain ⟨c, cs, rfl, hc, rc⟩ := (S1.get r1 q).lst S1.fh
        obtain ⟨b, ws, xs, ys, z, b1, b2, b3, b4, k3⟩ := chg_ok S1 k1
        rw [ha] at b1
        cases b1
        obtain ⟨hz, e4⟩ := if_some b4
        cases e4
        exact ⟨a, c, ws, cs, rfl, rfl, b2, hc, by rw [b3.len, rc.len]; exact Nat.le_trans hz BIG_le, k3 _ _ (b3.app rc) .non⟩
      | _ => exact k1.elim
theorem me_popAt (ha : ME X W e m) (h : PE X (.Call (.Attribute (.Name x px) "pop" apos) [e] [] cpos) (tBM X.K "list" rPopAt (tVar s) (tCons (tE X.K X.mg W m) tNil))) :
    ME X W (.Call (.Attribute (.Name x px) "pop" apos) [e] [] cpos) (mPopAt s m) :=
  ME.weak h fun {σ H Q G F ρ} S k => by
    obtain ⟨h0, k⟩ := ifL k
    obtain ⟨a, vs, ha, hv⟩ := S.owLAt h0
    refine ⟨_, ha, tyL hv, sub S (Gd.bind k fun v ρ1 F1 H1 y _ S1 e1 r1 k1 => ?_)⟩
    cases r1 with
    | d r =>
      cases r with
      | int i =>
        dsimp only at k1
        obtain ⟨b, ws, xs, ys, z, b1, b2, b3, b4, k3⟩ := chg_ok S1 k1
        rw [ha] at b1
        cases b1
        unfold fPopAt at b4
        by_cases hz : -(2 ^ 63) ≤ i ∧ i < 2 ^ 63
        · rw [if_pos hz] at b4
          cases q3 : seqIndex? i xs.length with
          | none =>
            rw [q3] at b4
            cases b4
          | some j =>
            rw [q3] at b4
            dsimp only at b4
            cases q4 : xs[j]? with
            | none =>
              rw [q4] at b4
              cases b4
            | some d =>
              rw [q4] at b4
              cases b4
              obtain ⟨v, v1, v2⟩ := b3.get q4
              exact ⟨a, ws, i, j, v, rfl, rfl, b2, hz.1, hz.2, by rw [b3.len]; exact q3, v1, k3 _ _ (b3.erase j) v2⟩
        · rw [if_neg hz] at b4
          cases b4
      | _ => exact k1.elim
    | _ => exact k1.elim
theorem me_pop (h : PE X (.Call (.Attribute (.Name x px) "pop" apos) [] [] cpos) (tBM0 X.K "list" rPop (tVar s))) :
    ME X W (.Call (.Attribute (.Name x px) "pop" apos) [] [] cpos) (mPop s) :=
  ME.weak h fun {σ H Q G F ρ} S k => by
    obtain ⟨b, ws, xs, ys, z, b1, b2, b3, b4, k3⟩ := chg_ok S k
    unfold fPop at b4
    cases q4 : xs[xs.length - 1]? with
    | none =>
      rw [q4] at b4
      cases b4
    | some d =>
      rw [q4] at b4
      cases b4
      obtain ⟨v, v1, v2⟩ := b3.get q4
      exact ⟨_, b1, tyL b2, b, ws, v, rfl, rfl, b2, by rw [b3.len]; exact v1, k3 _ _ b3.dropLast v2⟩
end
end Mi
set_option Elab.async false
set_option linter.all false
set_option maxRecDepth 100000
set_option maxHeartbeats 1000000
/-! Mi, part G: what is walked; for, while, comprehensions. -/
namespace Mi
open PySem PySem.Spec PyProof.Rows L2

/-- an item of a walk: data; a new pair -/
inductive IV where
  | one (d : D) | pair (d e : D)
section
variable (K : PySem.W.Frag) (mg : Str → Option Value)
inductive RpV (F H : Hp) : V → IV → Prop
  | one {x : V} {d : D} : Rp K mg F x d → RpV F H x (.one d)
  | pair {a : Addr} {x y : V} {d e : D} : SqT K H a [x, y] → Rp K mg F x d → Rp K mg F y e → RpV F H (.ref a) (.pair d e)
/-- the walk J hands out the items ivs, as long as what is frozen in F1 stays -/
structure JOk (F1 : Hp) (J : It) (ivs : List IV) : Prop where
  stop : ∀ F H i, Same F1 F → Same F H → ivs.length ≤ i → J.stop i H
  go : ∀ F H i iv, Same F1 F → Same F H → ivs[i]? = some iv → J.go i H
  yld : ∀ F H i iv x H', Same F1 F → Same F H → ivs[i]? = some iv → J.yld i H x H' → (∃ F', Ext F H F' H' ∧ RpV K mg F' H' x iv)
def tI (W : WX) (m : En → R (List IV)) : TI := fun σ H Q => ∃ G F ρ, Sat K mg G F H σ ρ ∧ Gd K mg W (fun _ F _ _ _ J ivs => JOk K mg F J ivs) G F σ (m ρ) Q
end
abbrev IM := En → R (List IV)
abbrev MI (X : Cx) (W : WX) (tg iter : Expr) (m : IM) : Prop := PI X tg iter (tI X.K X.mg W m)

section
variable {K : PySem.W.Frag} {mg : Str → Option Value} {W : WX} {F F' H H' : Hp} {G : Gh} {σ : St} {ρ : En}
theorem JOk.mono {J : It} {ivs : List IV} (e : Same F F') (h : JOk K mg F J ivs) : JOk K mg F' J ivs :=
  ⟨fun F2 H i e2 => h.stop F2 H i (e.trans e2), fun F2 H i iv e2 => h.go F2 H i iv (e.trans e2), fun F2 H i iv x H' e2 => h.yld F2 H i iv x H' (e.trans e2)⟩
theorem get_one {ds : List D} {i : Nat} {iv : IV} (h : (ds.map IV.one)[i]? = some iv) : ∃ d, ds[i]? = some d ∧ iv = .one d := by
  rw [List.getElem?_map] at h
  cases e : ds[i]? with
  | none =>
    rw [e] at h
    cases h
  | some d =>
    rw [e] at h
    exact ⟨d, rfl, (Option.some.inj h).symm⟩
theorem jok_list {a : Addr} {vs : List V} {ds : List D} (h : SqL K F a vs) (r : RpA K mg F vs ds) (inj : ∀ F2 H2, Same F F2 → Same F2 H2 → ∀ xs, SqL K H2 a xs → xs = vs → True) : JOk K mg F (Itl K a) (ds.map .one) := by
  refine ⟨fun F2 H2 i e1 e2 hi => ⟨vs, (e1.trans e2).seq h, by rw [r.len]; simpa using hi⟩, fun F2 H2 i iv e1 e2 hi => ?_, fun F2 H2 i iv x H' e1 e2 hi hy => ?_⟩
  · obtain ⟨d, hd, rfl⟩ := get_one hi
    obtain ⟨v, hv, _⟩ := r.get hd
    exact ⟨vs, v, (e1.trans e2).seq h, hv⟩
  · obtain ⟨d, hd, rfl⟩ := get_one hi
    obtain ⟨v, hv, rv⟩ := r.get hd
    obtain ⟨rfl, k⟩ := hy
    have e := k vs ((e1.trans e2).seq h)
    rw [hv] at e
    cases e
    exact ⟨F2, .refl e2, .one (rv.mono e1)⟩
theorem jok_tup {a : Addr} {vs : List V} {ds : List D} (h : FT F a vs) (r : RpA K mg F vs ds) : JOk K mg F (Itt K a) (ds.map .one) := by
  refine ⟨fun F2 H2 i e1 e2 hi => ⟨vs, (h.mono (e1.trans e2)).seq, by rw [r.len]; simpa using hi⟩, fun F2 H2 i iv e1 e2 hi => ?_, fun F2 H2 i iv x H' e1 e2 hi hy => ?_⟩
  · obtain ⟨d, hd, rfl⟩ := get_one hi
    obtain ⟨v, hv, _⟩ := r.get hd
    exact ⟨vs, v, (h.mono (e1.trans e2)).seq, hv⟩
  · obtain ⟨d, hd, rfl⟩ := get_one hi
    obtain ⟨v, hv, rv⟩ := r.get hd
    obtain ⟨rfl, k⟩ := hy
    have e := k vs (h.mono (e1.trans e2)).seq
    rw [hv] at e
    cases e
    exact ⟨F2, .refl e2, .one (rv.mono e1)⟩
def rgD (a b : Int) : List D := (List.range (b - a).toNat).map fun i => D.int (a + (i : Nat))
theorem jok_rng {lo hi : Int} : JOk K mg F (Itr lo (hi - lo).toNat) ((rgD lo hi).map .one) := by
  have hl : ((rgD lo hi).map IV.one).length = (hi - lo).toNat := by simp [rgD]
  have at_ : ∀ {i : Nat} {iv : IV}, ((rgD lo hi).map IV.one)[i]? = some iv → i < (hi - lo).toNat ∧ iv = .one (.int (lo + (i : Nat))) := fun {i iv} h => by
    obtain ⟨d, hd, rfl⟩ := get_one h
    have hlt : i < (hi - lo).toNat := by
      have := (List.getElem?_eq_some_iff.mp hd).1
      simpa [rgD] using this
    refine ⟨hlt, ?_⟩
    unfold rgD at hd
    rw [List.getElem?_map, List.getElem?_range hlt] at hd
    cases hd
    rfl
  refine ⟨fun F2 H2 i e1 e2 hi' => by rw [hl] at hi'; exact hi', fun F2 H2 i iv e1 e2 hi' => (at_ hi').1, fun F2 H2 i iv x H' e1 e2 hi' hy => ?_⟩
  obtain ⟨_, rfl⟩ := at_ hi'
  obtain ⟨rfl, rfl⟩ := hy
  exact ⟨F2, .refl e2, .one (.int _)⟩
end

/-! ### the walks -/
def itD : D → Option (List IV)
  | .lst ds => some (ds.map .one)
  | .tup ds => some (ds.map .one)
  | .frl ds => some (ds.map .one)
  | _ => none
/-- for x in e: a list or a tuple -/
def mSeqI (m : EM) : IM := fun ρ => (m ρ).bind fun v ρ => match esc v.fz ρ with
  | some (d, ρ) => (match itD d with
    | some ivs => .ok ivs ρ
    | none => .bad)
  | none => .bad
/-- range(a), range(a, b) -/
def rgI (lo hi : Int) (ρ : En) : R (List IV) := if -(2 ^ 62) ≤ lo ∧ lo < 2 ^ 62 ∧ -(2 ^ 62) ≤ hi ∧ hi < 2 ^ 62 then .ok ((rgD lo hi).map .one) ρ else .bad
def mRng1 (m : EM) : IM := fun ρ => (m ρ).bind fun v ρ => match v with
  | .d (.int n) => rgI 0 n ρ
  | _ => .bad
def mRng2 (a b : EM) : IM := fun ρ => (a ρ).bind fun v ρ => (b ρ).bind fun u ρ => match v with
  | .d (.int i) => (match u with
    | .d (.int j) => rgI i j ρ
    | _ => .bad)
  | _ => .bad
section
variable {X : Cx} {W : WX} {tg e : Expr} {m : EM}
theorem MI.weak {iter : Expr} {t : TI} {m : IM} (h : PI X tg iter t) (k : ∀ {σ : St} {H : Hp} {Q : It → Hp → Prop} {G : Gh} {F : Hp} {ρ : En}, Sat X.K X.mg G F H σ ρ → Gd X.K X.mg W (fun _ F _ _ _ J ivs => JOk X.K X.mg F J ivs) G F σ (m ρ) Q → t σ H Q) : MI X W tg iter m :=
  ⟨fun pins s σ H Q I ⟨_, _, _, S, g⟩ => h.run pins s σ H Q I (k S g)⟩
theorem PI.or {iter : Expr} {t t' : TI} (h : PI X tg iter t) (h' : PI X tg iter t') : PI X tg iter (fun σ H R => t σ H R ∨ t' σ H R) :=
  ⟨fun pins s σ H R I q => q.elim (h.run pins s σ H R I) (h'.run pins s σ H R I)⟩
theorem mi_seq (he : ME X W e m) : MI X W tg e (mSeqI m) :=
  MI.weak (PI.or (pi_list he) (pi_tup he)) fun {σ H Q G F ρ} S k => by
    unfold mSeqI at k
    cases q : m ρ with
    | bad =>
      rw [q] at k
      exact k.elim
    | ex x ρ1 =>
      rw [q] at k
      exact .inl (sub S (by rw [q]; exact k))
    | ok v ρ1 =>
      have k' : Gd X.K X.mg W (fun _ F _ _ _ J ivs => JOk X.K X.mg F J ivs) G F σ ((m ρ).bind fun v ρ => match esc v.fz ρ with
        | some (d, ρ) => (match itD d with
          | some ivs => .ok ivs ρ
          | none => .bad)
        | none => .bad) Q := k
      rw [q] at k
      dsimp only [R.bind] at k
      cases q1 : esc v.fz ρ1 with
      | none =>
        rw [q1] at k
        exact k.elim
      | some p =>
        obtain ⟨d, ρ2⟩ := p
        rw [q1] at k
        dsimp only at k
        cases q2 : itD d with
        | none =>
          rw [q2] at k
          exact k.elim
        | some ivs =>
          rw [q2] at k
          have core : ∀ F1 H1 x, Sat X.K X.mg G F1 H1 σ ρ1 → Same F F1 → RpO X.K X.mg G F1 H1 σ ρ1 x v → ∃ F3, Same F F3 ∧ Sat X.K X.mg G F3 H1 σ ρ2 ∧ Rp X.K X.mg F3 x d := fun F1 H1 x S1 e1 r1 => by
            obtain ⟨F2, e2, S2, r2⟩ := S1.fz r1
            obtain ⟨F3, e3, S3, r3⟩ := S2.esc r2 q1
            exact ⟨F3, (e1.trans e2).trans e3, S3, r3⟩
          cases d with
          | lst ds =>
            cases q2
            refine .inl ⟨G, F, ρ, S, ?_⟩
            rw [q]
            intro F1 H1 x S1 e1 r1
            obtain ⟨F3, e3, S3, r3⟩ := core F1 H1 x S1 e1 r1
            cases r3 with
            | lst h r => exact ⟨_, rfl, ⟨_, .of (S3.fh _ _ h)⟩, k F3 H1 _ S3 e3 (jok_list (.of h) r fun _ _ _ _ _ _ _ => trivial)⟩
          | frl ds =>
            cases q2
            refine .inl ⟨G, F, ρ, S, ?_⟩
            rw [q]
            intro F1 H1 x S1 e1 r1
            obtain ⟨F3, e3, S3, r3⟩ := core F1 H1 x S1 e1 r1
            cases r3 with
            | frl h r => exact ⟨_, rfl, ⟨_, S3.fh.seq h⟩, k F3 H1 _ S3 e3 (jok_list h r fun _ _ _ _ _ _ _ => trivial)⟩
          | tup ds =>
            cases q2
            refine .inr ⟨G, F, ρ, S, ?_⟩
            rw [q]
            intro F1 H1 x S1 e1 r1
            obtain ⟨F3, e3, S3, r3⟩ := core F1 H1 x S1 e1 r1
            cases r3 with
            | tup h r => exact ⟨_, rfl, ⟨_, (h.mono S3.fh).seq⟩, k F3 H1 _ S3 e3 (jok_tup h r)⟩
          | _ => cases q2
theorem rgI_ok {lo hi : Int} {σ : St} {ρ : En} {G : Gh} {F H : Hp} {Q : It → Hp → Prop} (S : Sat X.K X.mg G F H σ ρ) (k : Gd X.K X.mg W (fun _ F _ _ _ J ivs => JOk X.K X.mg F J ivs) G F σ (rgI lo hi ρ) Q) :
    (-(2 ^ 62) ≤ lo ∧ lo < 2 ^ 62 ∧ -(2 ^ 62) ≤ hi ∧ hi < 2 ^ 62) ∧ Q (Itr lo (hi - lo).toNat) H := by
  unfold rgI at k
  by_cases h : -(2 ^ 62) ≤ lo ∧ lo < 2 ^ 62 ∧ -(2 ^ 62) ≤ hi ∧ hi < 2 ^ 62
  · rw [if_pos h] at k
    exact ⟨h, k F H _ S (Same.refl _) jok_rng⟩
  · rw [if_neg h] at k
    exact k.elim
theorem mi_rng1 {p pos : Pos} {t : TI} (h : PI X tg e (iRng1 (tCons (tE X.K X.mg W m) tNil))) : MI X W tg e (mRng1 m) :=
  MI.weak h fun {σ H Q G F ρ} S k => sub S (Gd.bind k fun v ρ1 F1 H1 x _ S1 e1 r1 k1 => by
    cases r1 with
    | d r =>
      cases r with
      | int n =>
        obtain ⟨⟨_, _, h1, h2⟩, q⟩ := rgI_ok S1 k1
        exact ⟨n, rfl, h1, h2, by simpa using q⟩
      | _ => exact k1.elim
    | _ => exact k1.elim)
theorem mi_rng2 {a b : EM} (h : PI X tg e (iRng2 (tCons (tE X.K X.mg W a) (tCons (tE X.K X.mg W b) tNil)))) : MI X W tg e (mRng2 a b) :=
  MI.weak h fun {σ H Q G F ρ} S k => sub S (Gd.bind k fun v ρ1 F1 H1 x _ S1 e1 r1 k1 => sub S1 (Gd.bind k1 fun u ρ2 F2 H2 y _ S2 e2 r2 k2 => by
    cases r1 with
    | d r =>
      cases r with
      | int i =>
        cases r2 with
        | d r' =>
          cases r' with
          | int j =>
            obtain ⟨h, q⟩ := rgI_ok S2 k2
            exact ⟨i, j, rfl, h, q⟩
          | _ => exact k2.elim
        | _ => exact k2.elim
      | _ => exact k2.elim
    | _ => exact k2.elim))
end

/-! ### targets -/
abbrev GM := IV → En → Option En
def gN (i : Nat) : GM := fun iv ρ => match iv with
  | .one d => if canSet ρ i then some (ρ.set i (.val d)) else none
  | .pair _ _ => none
/-- several names -/
def setAll : List Nat → List D → En → Option En
  | [], [], ρ => some ρ
  | i :: is, d :: ds, ρ => if canSet ρ i then setAll is ds (ρ.set i (.val d)) else none
  | _, _, _ => none
def gT (is : List Nat) : GM := fun iv ρ => match iv with
  | .one (.tup ds) => setAll is ds ρ
  | .pair d e => setAll is [d, e] ρ
  | _ => none
def gNames : List Nat → TGs
  | [] => gNil
  | i :: is => gCons (gName i) (gNames is)
section
variable {K : PySem.W.Frag} {mg : Str → Option Value} {F F' H H' : Hp} {G : Gh} {σ : St} {ρ : En}
/-- a target that does as its mirror says -/
def TgOk (K : PySem.W.Frag) (mg : Str → Option Value) (is : List Nat) (g : TG) (gm : GM) : Prop := ∀ {F H : Hp} {G : Gh} {σ : St} {ρ ρ' : En} {x : V} {iv : IV} {Q : St → Hp → Prop}, Sat K mg G F H σ ρ → RpV K mg F H x iv → gm iv ρ = some ρ' →
  (∀ σ', Sat K mg G F H σ' ρ' → (∀ j, j ∉ is → σ'[j]? = σ[j]?) → σ'.length = σ.length → Q σ' H) → g x σ H Q
theorem tg_name (i : Nat) : TgOk K mg [i] (gName i) (gN i) := fun {F H G σ ρ ρ' x iv Q} S r h q => by
  cases r with
  | one r =>
    obtain ⟨hc, e⟩ := if_some h
    cases e
    obtain ⟨h1, h2⟩ := canSet_ok hc
    exact q _ (S.put h1 h2 (.inr ⟨x, rfl, r⟩)) (fun j hj => List.getElem?_set_ne (fun e => hj (by simp [e]))) (List.length_set ..)
  | pair => cases h
theorem setAll_ok : ∀ {is : List Nat} {ds : List D} {xs : List V} {σ : St} {ρ ρ' : En} {Q : St → Hp → Prop}, Sat K mg G F H σ ρ → RpA K mg F xs ds → setAll is ds ρ = some ρ' → (∀ σ', Sat K mg G F H σ' ρ' → (∀ j, j ∉ is → σ'[j]? = σ[j]?) → σ'.length = σ.length → Q σ' H) → gNames is xs σ H Q
  | [], [], _, _, _, _, _, S, .nil, h, q => by
    cases h
    exact ⟨rfl, q _ S (fun _ _ => rfl) rfl⟩
  | i :: is, d :: ds, _, σ, ρ, ρ', Q, S, .cons r t, h, q => by
    unfold setAll at h
    by_cases hc : canSet ρ i = true
    · rw [if_pos hc] at h
      obtain ⟨h1, h2⟩ := canSet_ok hc
      exact ⟨_, _, rfl, setAll_ok (S.put (s := .val d) h1 h2 (.inr ⟨_, rfl, r⟩)) t h fun σ' S' k kl => q σ' S' (fun j hj => (k j (fun z => hj (List.mem_cons_of_mem _ z))).trans (List.getElem?_set_ne (fun e => hj (by simp [e])))) (kl.trans (List.length_set ..))⟩
    · rw [if_neg hc] at h
      cases h
  | [], _ :: _, _, _, _, _, _, _, _, h, _ => by cases h
  | _ :: _, [], _, _, _, _, _, _, _, h, _ => by cases h
theorem setAll_len : ∀ {is : List Nat} {ds : List D} {ρ ρ' : En}, setAll is ds ρ = some ρ' → ds.length = is.length
  | [], [], _, _, _ => rfl
  | i :: is, d :: ds, ρ, ρ', h => by
    unfold setAll at h
    by_cases hc : canSet ρ i = true
    · rw [if_pos hc] at h
      exact congrArg Nat.succ (setAll_len h)
    · rw [if_neg hc] at h
      cases h
  | [], _ :: _, _, _, h => by cases h
  | _ :: _, [], _, _, h => by cases h
theorem tg_tup (is : List Nat) (n : Nat) (hn : is.length = n) : TgOk K mg is (gTup K n (gNames is)) (gT is) := fun {F H G σ ρ ρ' x iv Q} S r h q => by
  cases r with
  | one r =>
    cases r with
    | tup hf ra => exact ⟨_, _, rfl, (hf.mono S.fh).seq, by rw [ra.len, setAll_len h, hn], setAll_ok S ra h q⟩
    | _ => cases h
  | pair hs r1 r2 => exact ⟨_, _, rfl, hs, by rw [← hn, ← setAll_len h]; rfl, setAll_ok S (.cons r1 (.cons r2 .nil)) h q⟩
end

/-! ### for -/
def mForL (gm : GM) (b : SM) : List IV → SM
  | [], ρ => .nx ρ
  | iv :: ivs, ρ => match gm iv ρ with
    | some ρ => (match b ρ with
      | .nx ρ => mForL gm b ivs ρ
      | .ct ρ => mForL gm b ivs ρ
      | .bk ρ => .nx ρ
      | r => r)
    | none => .bad
def mFor (im : IM) (gm : GM) (b : SM) : SM := fun ρ => (im ρ).st fun ivs ρ => mForL gm b ivs ρ
section
variable {X : Cx} {W : WX} {tg iter : Expr} {body : List Stmt} {pos : Pos}
theorem Same.seqq {F F' : Hp} (h : Same F F') : Same F F' := h
theorem ms_for {is : List Nat} {im : IM} {g : TG} {gm : GM} {b : SM} (hp : PassesOwn (model X.prog X.w) X.A X.env X.xe) (hc : X.calm = true) (hi : MI X W tg iter im) (hg : PG X tg g) (hgm : TgOk X.K X.mg is g gm) (hb : MSs X W body b)
    (hs : ∀ x, foldedSetIterable iter X.env x = pure x := by intro _; rfl) : MS X W (.For tg iter body [] pos) (mFor im gm b) :=
  MS.weak (ps_for hp hc hi hg hb hs) fun {σ H D G F ρ} S k => ⟨G, F, ρ, S, Gd.st k fun ivs ρ1 F1 H1 J S1 e1 jok k1 => by
    refine ⟨fun i m σ H => i + m = ivs.length ∧ ∃ F ρ, Sat X.K X.mg G F H σ ρ ∧ Same F1 F ∧ SGd X.K X.mg W G F (mForL gm b (ivs.drop i) ρ) D, ⟨ivs.length, by omega, F1, ρ1, S1, Same.refl _, k1⟩, ?_⟩
    rintro i m σ2 H2 ⟨him, F2, ρ2, S2, e2, k2⟩
    by_cases hi : i < ivs.length
    · have hiv : ivs[i]? = some ivs[i] := List.getElem?_eq_getElem hi
      rw [List.drop_eq_getElem_cons hi] at k2
      refine .inr ⟨jok.go F2 H2 i _ e2 S2.fh hiv, fun σ' H' => ∃ F ρ, Sat X.K X.mg G F H' σ' ρ ∧ Same F1 F ∧ SGd X.K X.mg W G F (mForL gm b (ivs.drop (i + 1)) ρ) D, fun σ' H' hN => ⟨m - 1, by omega, by omega, hN⟩, fun x H' hy => ?_⟩
      obtain ⟨F3, ex, rv⟩ := jok.yld F2 H2 i _ x H' e2 S2.fh hiv hy
      have S3 := S2.ext ex
      unfold mForL at k2
      cases q : gm ivs[i] ρ2 with
      | none =>
        rw [q] at k2
        exact k2.elim
      | some ρ3 =>
        rw [q] at k2
        dsimp only at k2
        refine hgm S3 rv q fun σ3 S4 _ _ => subS S4 ?_
        have k3 := SGd.mono ex.ff k2
        cases q2 : b ρ3 with
        | nx ρ4 =>
          rw [q2] at k3
          exact fun F5 H5 σ5 S5 e5 => ⟨F5, ρ4, S5, (e2.trans ex.ff).trans e5, SGd.mono e5 k3⟩
        | ct ρ4 =>
          rw [q2] at k3
          exact fun F5 H5 σ5 S5 e5 => ⟨F5, ρ4, S5, (e2.trans ex.ff).trans e5, SGd.mono e5 k3⟩
        | bk ρ4 =>
          rw [q2] at k3
          exact fun F5 H5 σ5 S5 e5 => k3 F5 H5 σ5 S5 e5
        | rt r ρ4 =>
          rw [q2] at k3
          exact k3
        | ex x ρ4 =>
          rw [q2] at k3
          exact k3
        | bad =>
          rw [q2] at k3
          exact k3.elim
    · have hd : ivs.drop i = [] := List.drop_eq_nil_of_le (by omega)
      rw [hd] at k2
      exact .inl ⟨jok.stop F2 H2 i e2 S2.fh (by omega), k2 F2 H2 σ2 S2 (Same.refl _)⟩⟩

/-! ### while -/
def mWhN (c : TM) (b : SM) : Nat → SM
  | 0, _ => .bad
  | n + 1, ρ => match c ρ with
    | .ok true ρ => (match b ρ with
      | .nx ρ => mWhN c b n ρ
      | .ct ρ => mWhN c b n ρ
      | .bk ρ => .nx ρ
      | r => r)
    | .ok false ρ => .nx ρ
    | .ex x ρ => .ex x ρ
    | .bad => .bad
open Classical in
/-- a while: what it comes to in some number of turns -/
noncomputable def mWhile (c : TM) (b : SM) : SM := fun ρ => if h : ∃ n, mWhN c b n ρ ≠ .bad then mWhN c b (Classical.choose h) ρ else .bad
theorem mWhN_succ {c : TM} {b : SM} : ∀ {n : Nat} {ρ : En}, mWhN c b n ρ ≠ .bad → mWhN c b (n + 1) ρ = mWhN c b n ρ
  | 0, ρ, h => absurd rfl h
  | n + 1, ρ, h => by
    have key : ∀ ρ', mWhN c b n ρ' ≠ .bad → mWhN c b (n + 1) ρ' = mWhN c b n ρ' := fun ρ' h' => mWhN_succ h'
    rw [mWhN] at h
    rw [mWhN]
    conv => rhs; rw [mWhN]
    cases q : c ρ with
    | ok t ρ1 =>
      rw [q] at h
      cases t with
      | true =>
        dsimp only at h ⊢
        cases q2 : b ρ1 with
        | nx ρ2 =>
          rw [q2] at h
          exact key ρ2 h
        | ct ρ2 =>
          rw [q2] at h
          exact key ρ2 h
        | _ => rfl
      | false => rfl
    | _ => rfl
theorem mWhN_le {c : TM} {b : SM} {n m : Nat} {ρ : En} (h : mWhN c b n ρ ≠ .bad) (hm : n ≤ m) : mWhN c b m ρ = mWhN c b n ρ := by
  induction hm with
  | refl => rfl
  | step _ ih => rw [mWhN_succ (by rw [ih]; exact h), ih]
theorem mWhile_eq {c : TM} {b : SM} {ρ : En} {n : Nat} (h : mWhN c b n ρ ≠ .bad) : mWhile c b ρ = mWhN c b n ρ := by
  have hx : ∃ n, mWhN c b n ρ ≠ .bad := ⟨n, h⟩
  unfold mWhile
  rw [dif_pos hx]
  rcases Nat.le_total n (Classical.choose hx) with hle | hle
  · exact mWhN_le h hle
  · exact (mWhN_le (Classical.choose_spec hx) hle).symm
theorem ms_while {c : Expr} {mc : TM} {b : SM} (hp : PassesOwn (model X.prog X.w) X.A X.env X.xe) (hc : MT X W c mc) (hb : MSs X W body b) : MS X W (.While c body [] pos) (mWhile mc b) :=
  MS.weak (ps_while hp hc hb) fun {σ H D G F ρ} S k => by
    by_cases hx : ∃ n, mWhN mc b n ρ ≠ .bad
    · obtain ⟨n, hn⟩ := hx
      rw [mWhile_eq hn] at k
      refine ⟨fun m σ H => ∃ F ρ, Sat X.K X.mg G F H σ ρ ∧ SGd X.K X.mg W G F (mWhN mc b m ρ) D, ⟨n, F, ρ, S, k⟩, ?_⟩
      rintro m σ2 H2 ⟨F2, ρ2, S2, k2⟩
      cases m with
      | zero => exact k2.elim
      | succ m =>
        rw [mWhN] at k2
        refine subT S2 ?_
        cases q : mc ρ2 with
        | bad =>
          rw [q] at k2
          exact k2.elim
        | ex x ρ3 =>
          rw [q] at k2
          exact k2 σ2
        | ok t ρ3 =>
          rw [q] at k2
          intro F3 H3 t' S3 e3 et
          subst et
          cases t' with
          | false => exact k2 F3 H3 σ2 S3 e3
          | true =>
            dsimp only at k2
            refine ⟨fun σ' H' => ∃ F ρ, Sat X.K X.mg G F H' σ' ρ ∧ SGd X.K X.mg W G F (mWhN mc b m ρ) D, fun σ' H' hN => ⟨m, by omega, hN⟩, subS S3 ?_⟩
            have k3 := SGd.mono e3 k2
            cases q2 : b ρ3 with
            | nx ρ4 =>
              rw [q2] at k3
              exact fun F5 H5 σ5 S5 e5 => ⟨F5, ρ4, S5, SGd.mono e5 k3⟩
            | ct ρ4 =>
              rw [q2] at k3
              exact fun F5 H5 σ5 S5 e5 => ⟨F5, ρ4, S5, SGd.mono e5 k3⟩
            | bk ρ4 =>
              rw [q2] at k3
              exact fun F5 H5 σ5 S5 e5 => k3 F5 H5 σ5 S5 e5
            | rt r ρ4 =>
              rw [q2] at k3
              exact k3
            | ex x ρ4 =>
              rw [q2] at k3
              exact k3
            | bad =>
              rw [q2] at k3
              exact k3.elim
    · unfold mWhile at k
      rw [dif_neg hx] at k
      exact k.elim
end
end Mi
set_option Elab.async false
set_option linter.all false
set_option maxRecDepth 100000
set_option maxHeartbeats 1000000
/-! Mi, part H: list comprehensions. -/
namespace Mi
open PySem PySem.Spec PyProof.Rows L2
abbrev W0 : WX := fun _ _ _ _ => False
def wipeE (ρ : En) : List Nat → En
  | [] => ρ
  | v :: vs => (wipeE ρ vs).set v .un
def restE (ρ0 ρ : En) : List Nat → En
  | [] => ρ
  | v :: vs => (restE ρ0 ρ vs).set v (ρ0.getD v .un)
def noOw (ρ : En) (i : Nat) : Bool := match ρ[i]? with
  | some .un => true
  | some (.val _) => true
  | _ => false
theorem wipeE_len (ρ : En) : ∀ vs : List Nat, (wipeE ρ vs).length = ρ.length
  | [] => rfl
  | v :: vs => by
    unfold wipeE
    rw [List.length_set, wipeE_len ρ vs]
theorem restE_len (ρ0 ρ : En) : ∀ vs : List Nat, (restE ρ0 ρ vs).length = ρ.length
  | [] => rfl
  | v :: vs => by
    unfold restE
    rw [List.length_set, restE_len ρ0 ρ vs]
theorem wipeE_out {ρ : En} {j : Nat} : ∀ {vs : List Nat}, j ∉ vs → (wipeE ρ vs)[j]? = ρ[j]?
  | [], _ => rfl
  | v :: vs, h => by
    unfold wipeE
    rw [List.getElem?_set_ne (fun e => h (by simp [e])), wipeE_out (fun z => h (List.mem_cons_of_mem _ z))]
theorem wipeE_in {ρ : En} {j : Nat} : ∀ {vs : List Nat} {s : Sl}, j ∈ vs → (wipeE ρ vs)[j]? = some s → s = .un
  | v :: vs, s, h, e => by
    unfold wipeE at e
    by_cases hj : j = v
    · subst hj
      by_cases hl : j < (wipeE ρ vs).length
      · rw [List.getElem?_set_self hl] at e
        exact (Option.some.inj e).symm
      · rw [List.getElem?_eq_none (by rw [List.length_set]; omega)] at e
        cases e
    · rw [List.getElem?_set_ne (Ne.symm hj)] at e
      exact wipeE_in ((List.mem_cons.mp h).resolve_left hj) e
theorem wipe_out {σ : St} {j : Nat} : ∀ {vs : List Nat}, j ∉ vs → (wipe σ vs)[j]? = σ[j]?
  | [], _ => rfl
  | v :: vs, h => by
    unfold wipe
    rw [List.getElem?_set_ne (fun e => h (by simp [e])), wipe_out (fun z => h (List.mem_cons_of_mem _ z))]
theorem wipe_in {σ : St} {j : Nat} : ∀ {vs : List Nat}, j ∈ vs → (wipe σ vs)[j]? = if j < σ.length then some none else none
  | v :: vs, h => by
    unfold wipe
    by_cases hj : j = v
    · subst hj
      by_cases hl : j < σ.length
      · rw [List.getElem?_set_self (by rw [wipe_length]; exact hl), if_pos hl]
      · rw [List.getElem?_eq_none (by rw [List.length_set, wipe_length]; omega), if_neg hl]
    · rw [List.getElem?_set_ne (Ne.symm hj)]
      exact wipe_in ((List.mem_cons.mp h).resolve_left hj)
theorem restE_out {ρ0 ρ : En} {j : Nat} : ∀ {vs : List Nat}, j ∉ vs → (restE ρ0 ρ vs)[j]? = ρ[j]?
  | [], _ => rfl
  | v :: vs, h => by
    unfold restE
    rw [List.getElem?_set_ne (fun e => h (by simp [e])), restE_out (fun z => h (List.mem_cons_of_mem _ z))]
theorem restE_in {ρ0 ρ : En} {j : Nat} : ∀ {vs : List Nat} {s : Sl}, j ∈ vs → (restE ρ0 ρ vs)[j]? = some s → s = ρ0.getD j .un
  | v :: vs, s, h, e => by
    unfold restE at e
    by_cases hj : j = v
    · subst hj
      by_cases hl : j < (restE ρ0 ρ vs).length
      · rw [List.getElem?_set_self hl] at e
        exact (Option.some.inj e).symm
      · rw [List.getElem?_eq_none (by rw [List.length_set]; omega)] at e
        cases e
    · rw [List.getElem?_set_ne (Ne.symm hj)] at e
      exact restE_in ((List.mem_cons.mp h).resolve_left hj) e
theorem wipe_same {σ σ' : St} {vs : List Nat} (hl : σ'.length = σ.length) (h : ∀ j, j ∉ vs → σ'[j]? = σ[j]?) : wipe σ' vs = wipe σ vs := by
  refine List.ext_getElem? fun j => ?_
  by_cases hj : j ∈ vs
  · rw [wipe_in hj, wipe_in hj, hl]
  · rw [wipe_out hj, wipe_out hj]
    exact h j hj
theorem wipe_wipe {σ : St} {vs : List Nat} : wipe (wipe σ vs) vs = wipe σ vs := wipe_same (wipe_length σ vs) fun j hj => wipe_out hj
section
variable {K : PySem.W.Frag} {mg : Str → Option Value} {F F' F1 H H' H1 : Hp} {G : Gh} {σ σ' : St} {ρ ρ' ρ1 ρ2 : En} {vs : List Nat}
theorem Sat.wipe (S : Sat K mg G F H σ ρ) (h : vs.all (canSet ρ) = true) : Sat K mg G F H (wipe σ vs) (wipeE ρ vs) := by
  have hc : ∀ v ∈ vs, canSet ρ v = true := fun v hv => List.all_eq_true.mp h v hv
  have ow : ∀ {j : Nat}, isOw (wipeE ρ vs)[j]? = true → j ∉ vs ∧ isOw ρ[j]? = true := fun {j} hj => by
    by_cases hv : j ∈ vs
    · cases q : (wipeE ρ vs)[j]? with
      | none =>
        rw [q] at hj
        cases hj
      | some s =>
        rw [wipeE_in hv q] at q
        rw [q] at hj
        cases hj
    · rw [wipeE_out hv] at hj
      exact ⟨hv, hj⟩
  refine ⟨S.fh, S.f0, S.h0, S.fn, by rw [wipeE_len, wipe_length]; exact S.len, fun j d hj => ?_, fun j io o hj => ?_, fun i j a hij h1 h2 e1 e2 => ?_, fun k a hk => ?_⟩
  · by_cases hv : j ∈ vs
    · cases wipeE_in hv hj
    · rw [wipeE_out hv] at hj
      rw [wipe_out hv]
      exact S.val j d hj
  · by_cases hv : j ∈ vs
    · cases wipeE_in hv hj
    · rw [wipeE_out hv] at hj
      rw [wipe_out hv]
      exact S.own j io o hj
  · obtain ⟨n1, o1⟩ := ow h1
    obtain ⟨n2, o2⟩ := ow h2
    rw [wipe_out n1] at e1
    rw [wipe_out n2] at e2
    exact S.dis i j a hij o1 o2 e1 e2
  · obtain ⟨e1, o, e2⟩ := S.io k a hk
    have hv : k ∉ vs := fun z => (canSet_ok (hc k z)).2 o e2
    exact ⟨by rw [wipe_out hv]; exact e1, o, by rw [wipeE_out hv]; exact e2⟩
/-- the block is left: its names are what they were -/
theorem Sat.unwipe (S1 : Sat K mg G F1 H1 σ ρ1) (h : vs.all (noOw ρ1) = true) (e : Same F1 F) (S : Sat K mg G F H (L2.wipe σ vs) ρ2) : Sat K mg G F H σ (restE ρ1 ρ2 vs) := by
  have hn : ∀ v ∈ vs, noOw ρ1 v = true := fun v hv => List.all_eq_true.mp h v hv
  have noow : ∀ {j : Nat} {s : Sl}, j ∈ vs → (restE ρ1 ρ2 vs)[j]? = some s → (s = .un ∨ ∃ d, s = .val d ∧ ρ1[j]? = some (Sl.val d)) := fun {j s} hv hj => by
    have e1 := restE_in hv hj
    have e2 := hn j hv
    unfold noOw at e2
    cases q : ρ1[j]? with
    | none =>
      rw [q] at e2
      cases e2
    | some t =>
      have et : ρ1.getD j .un = t := by rw [List.getD_eq_getElem?_getD, q]; rfl
      rw [et] at e1
      rw [q] at e2
      cases t with
      | un => exact .inl e1
      | val d => exact .inr ⟨d, e1, rfl⟩
      | own _ _ => cases e2
  have ow : ∀ {j : Nat}, isOw (restE ρ1 ρ2 vs)[j]? = true → j ∉ vs ∧ isOw ρ2[j]? = true := fun {j} hj => by
    by_cases hv : j ∈ vs
    · cases q : (restE ρ1 ρ2 vs)[j]? with
      | none =>
        rw [q] at hj
        cases hj
      | some s =>
        rw [q] at hj
        rcases noow hv q with rfl | ⟨d, rfl, _⟩
        · cases hj
        · cases hj
    · rw [restE_out hv] at hj
      exact ⟨hv, hj⟩
  refine ⟨S.fh, S.f0, S.h0, S.fn, by rw [restE_len, S.len, wipe_length], fun j d hj => ?_, fun j io o hj => ?_, fun i j a hij h1 h2 e1 e2 => ?_, fun k a hk => ?_⟩
  · by_cases hv : j ∈ vs
    · rcases noow hv hj with q | ⟨d', q, q2⟩
      · cases q
      · cases q
        obtain ⟨v, h1, h2⟩ := S1.val j _ q2
        exact ⟨v, h1, h2.mono e⟩
    · rw [restE_out hv] at hj
      obtain ⟨v, h1, h2⟩ := S.val j d hj
      rw [wipe_out hv] at h1
      exact ⟨v, h1, h2⟩
  · by_cases hv : j ∈ vs
    · rcases noow hv hj with q | ⟨d', q, q2⟩
      · cases q
      · cases q
    · rw [restE_out hv] at hj
      obtain ⟨a, h1, h2⟩ := S.own j io o hj
      rw [wipe_out hv] at h1
      exact ⟨a, h1, h2⟩
  · obtain ⟨n1, o1⟩ := ow h1
    obtain ⟨n2, o2⟩ := ow h2
    exact S.dis i j a hij o1 o2 (by rw [wipe_out n1]; exact e1) (by rw [wipe_out n2]; exact e2)
  · obtain ⟨_, o, e2⟩ := S.io k a hk
    obtain ⟨e1, o1, e3⟩ := S1.io k a hk
    have hv : k ∉ vs := fun z => by
      have := hn k z
      unfold noOw at this
      rw [e3] at this
      cases this
    exact ⟨e1, o, by rw [restE_out hv]; exact e2⟩
/-- an object that no slot holds and that is not frozen may change -/
theorem Sat.grow (S : Sat K mg G F H σ ρ) {a : Addr} {u : HO} (fa : F a = none) (n : ∀ j : Nat, isOw ρ[j]? = true → σ[j]? = some (some (V.ref a)) → False) (g : G.O a ∨ G.H0 a = none) : Sat K mg G F (L2.upd H a u) σ ρ := by
  refine ⟨fun b o hb => ?_, S.f0, fun b o hb hn => ?_, S.fn, S.len, S.val, fun i io o h => ?_, S.dis, S.io⟩
  · rw [upd_ne (ne_of_none hb fa)]
    exact S.fh b o hb
  · have hba : b ≠ a := fun e => by
      subst e
      rcases g with g | g
      · exact hn g
      · rw [g] at hb
        cases hb
    rw [upd_ne hba]
    exact S.h0 b o hb hn
  · obtain ⟨b, k1, k2, k3, k4⟩ := S.own i io o h
    have hb : b ≠ a := fun eb => by
      subst eb
      exact n i (by rw [h]; rfl) k1
    exact ⟨b, k1, k2, k3.mono (Same.refl _) (upd_ne hb), k4⟩
/-- a block's own entry -/
def Gh.blk (G : Gh) (F H : Hp) (σ : St) (ρ : En) : Gh := ⟨F, H, fun a => ∃ j : Nat, isOw ρ[j]? = true ∧ σ[j]? = some (some (V.ref a)), G.io⟩
theorem Sat.block (S : Sat K mg G F H σ ρ) : Sat K mg (G.blk F H σ ρ) F H σ ρ :=
  ⟨S.fh, Same.refl _, fun _ _ h _ => h, fun _ _ h => .inl h, S.len, S.val, fun i io o h => by
    obtain ⟨a, h1, h2, h3, _⟩ := S.own i io o h
    exact ⟨a, h1, h2, h3, .inl ⟨i, by rw [h]; rfl, h1⟩⟩, S.dis, S.io⟩
theorem Sat.unblock (S : Sat K mg G F H σ ρ) (S' : Sat K mg (G.blk F H σ ρ) F' H' σ' ρ') : Sat K mg G F' H' σ' ρ' := by
  have hO : ∀ a, (G.blk F H σ ρ).O a → G.O a ∨ G.H0 a = none := fun a ⟨j, h1, h2⟩ => by
    obtain ⟨b, io, w, q, h3, _⟩ := S.owAt h1
    obtain ⟨c, c1, _, _, c4⟩ := S.own j io w q
    rw [h2] at c1
    cases c1
    exact c4
  refine ⟨S'.fh, S.f0.trans S'.f0, fun b o h n => ?_, fun b o h => ?_, S'.len, S'.val, fun i io o h => ?_, S'.dis, S'.io⟩
  · refine S'.h0 b o (S.h0 b o h n) fun z => ?_
    rcases hO b z with q | q
    · exact n q
    · rw [q] at h
      cases h
  · rcases S'.fn b o h with q | q | q
    · exact S.fn b o q
    · exact .inr (S.fresh0 q)
    · exact .inr ((hO b q).symm)
  · obtain ⟨a, h1, h2, h3, h4⟩ := S'.own i io o h
    refine ⟨a, h1, h2, h3, ?_⟩
    rcases h4 with h4 | h4
    · exact hO a h4
    · exact (S.fresh0 h4).symm
end
def compL (vs : List Nat) (gm : GM) (tt : TM) (te : EM) : List IV → List D → En → R (List D)
  | [], acc, ρ => .ok acc ρ
  | iv :: r, acc, ρ => match gm iv ρ with
    | some ρ => (match tt ρ with
      | .ok true ρ => (match te ρ with
        | .ok v ρ => (match esc v.fz ρ with
          | some (d, ρ) => if acc.length < BIG then (if vs.all (canSet ρ) then compL vs gm tt te r (acc ++ [d]) (wipeE ρ vs) else .bad) else .bad
          | none => .bad)
        | _ => .bad)
      | .ok false ρ => if vs.all (canSet ρ) then compL vs gm tt te r acc (wipeE ρ vs) else .bad
      | _ => .bad)
    | none => .bad
def mComp (vs : List Nat) (im : IM) (gm : GM) (tt : TM) (te : EM) : EM := fun ρ => (im ρ).bind fun ivs ρ1 => if vs.all (noOw ρ1) then (match compL vs gm tt te ivs [] (wipeE ρ1 vs) with
  | .ok acc ρ2 => .ok (.n (.lst acc)) (restE ρ1 ρ2 vs)
  | _ => .bad) else .bad
def mYes : TM := fun ρ => .ok true ρ
abbrev MTs (X : Cx) (W : WX) (ifs : List Expr) (m : TM) : Prop := PTs X ifs (tT X.K X.mg W m)
theorem mts_nil {X : Cx} {W : WX} : MTs X W [] mYes := ⟨fun pins s σ H Q I ⟨G, F, ρ, S, g⟩ => pts_nil.run pins s σ H Q I (g F H true S (Same.refl _) rfl)⟩
theorem mts_one {X : Cx} {W : WX} {c : Expr} {m : TM} (h : MT X W c m) : MTs X W [c] m := pts_one h
section
variable {X : Cx} {W : WX} {tg iter elt : Expr} {ifs : List Expr} {scope : Scope} {pos : Pos} {vs is : List Nat} {g : TG} {gm : GM} {im : IM} {tt : TM} {te : EM}
theorem noOw_can {ρ : En} (h : vs.all (noOw ρ) = true) : vs.all (canSet ρ) = true := by
  refine List.all_eq_true.mpr fun v hv => ?_
  have := List.all_eq_true.mp h v hv
  unfold noOw at this
  unfold canSet
  cases q : ρ[v]? with
  | none =>
    rw [q] at this
    cases this
  | some s =>
    rw [q] at this
    cases s with
    | un => rfl
    | val d => rfl
    | own _ _ => cases this
/-- the reading of a comprehension, by its mirror -/
theorem comp_ok {K : PySem.W.Frag} {mg : Str → Option Value} {F H : Hp} {G : Gh} {σ : St} {ρ : En} {Q : VK} (hgm : TgOk K mg is g gm) (his : ∀ i ∈ is, i ∈ vs) (S : Sat K mg G F H σ ρ) (k : Gd K mg W (RpO K mg) G F σ (mComp vs im gm tt te ρ) Q) :
    tLc (tI K mg W im) g (tT K mg W0 tt) (tE K mg W0 te) vs σ H Q := by
  refine ⟨G, F, ρ, S, Gd.bind k fun ivs ρ1 F1 H1 J _ S1 e1 jok k1 => ?_⟩
  intro L hL
  by_cases hn : vs.all (noOw ρ1) = true
  · rw [if_pos hn] at k1
    have SL : Sat K mg G F1 (L2.upd H1 L (.lst [])) σ ρ1 := (S1.newOwn hL (OwOk.lst upd_same .nil)).1
    have fL : F1 L = none := S1.fh.free hL
    have nL : ∀ j : Nat, isOw ρ1[j]? = true → σ[j]? = some (some (V.ref L)) → False := fun j hj hs => by
      obtain ⟨a, _, _, _, ha, _, ok⟩ := S1.owAt hj
      rw [hs] at ha
      cases ha
      obtain ⟨z, hz⟩ := ok.at
      rw [hL] at hz
      cases hz
    refine ⟨fun i m H => i + m = ivs.length ∧ ∃ F ρ acc xs, Sat K mg G F H (wipe σ vs) ρ ∧ Same F1 F ∧ H L = some (.lst xs) ∧ RpA K mg F xs acc ∧ F L = none ∧ (∀ j : Nat, isOw ρ[j]? = true → (wipe σ vs)[j]? = some (some (V.ref L)) → False) ∧
      Gd K mg W (RpO K mg) G F σ (match compL vs gm tt te (ivs.drop i) acc ρ with
        | .ok acc ρ2 => .ok (.n (.lst acc)) (restE ρ1 ρ2 vs)
        | _ => .bad) Q,
      ⟨ivs.length, by omega, F1, wipeE ρ1 vs, [], [], SL.wipe (noOw_can hn), Same.refl _, upd_same, .nil, fL, fun j hj hs => ?_, k1⟩, ?_⟩
    · by_cases hv : j ∈ vs
      · rw [wipe_in hv] at hs
        split at hs <;> cases hs
      · rw [wipe_out hv] at hs
        rw [wipeE_out hv] at hj
        exact nL j hj hs
    · rintro i m H2 ⟨him, F2, ρ2, acc, xs, S2, e2, hL2, rA, fL2, nL2, k2⟩
      by_cases hi : i < ivs.length
      · have hiv : ivs[i]? = some ivs[i] := List.getElem?_eq_getElem hi
        rw [List.drop_eq_getElem_cons hi] at k2
        unfold compL at k2
        refine .inr ⟨jok.go F2 H2 i _ e2 S2.fh hiv, fun H => ∃ F ρ acc xs, Sat K mg G F H (wipe σ vs) ρ ∧ Same F1 F ∧ H L = some (.lst xs) ∧ RpA K mg F xs acc ∧ F L = none ∧ (∀ j : Nat, isOw ρ[j]? = true → (wipe σ vs)[j]? = some (some (V.ref L)) → False) ∧
          Gd K mg W (RpO K mg) G F σ (match compL vs gm tt te (ivs.drop (i + 1)) acc ρ with
            | .ok acc ρ2 => .ok (.n (.lst acc)) (restE ρ1 ρ2 vs)
            | _ => .bad) Q, fun H' hN => ⟨m - 1, by omega, by omega, hN⟩, fun x H' hy => ?_⟩
        obtain ⟨F3, ex, rv⟩ := jok.yld F2 H2 i _ x H' e2 S2.fh hiv hy
        have S3 := S2.ext ex
        have hL3 : H' L = some (.lst xs) := ex.hh _ _ hL2
        have fL3 : F3 L = none := by
          cases q : F3 L with
          | none => rfl
          | some z =>
            rcases ex.nw L z q with q | q
            · rw [fL2] at q; cases q
            · rw [hL2] at q; cases q
        cases q : gm ivs[i] ρ2 with
        | none =>
          rw [q] at k2
          exact k2.elim
        | some ρ3 =>
          rw [q] at k2
          dsimp only at k2
          -- the target is set within a block of its own
          refine hgm S3.block rv q fun σ3 S4 same3 len3 => ?_
          have hw : wipe σ3 vs = wipe σ vs := by
            rw [← wipe_wipe (σ := σ)]
            exact wipe_same len3 fun j hj => same3 j fun z => hj (his j z)
          have nO : ¬ (G.blk F3 H' (wipe σ vs) ρ2).O L := fun ⟨j, h1, h2⟩ => nL2 j h1 h2
          -- behind the turn: the new list stands, the block's names go
          have back : ∀ {F5 H5 : Hp} {ρ5 : En}, Sat K mg (G.blk F3 H' (wipe σ vs) ρ2) F5 H5 σ3 ρ5 → vs.all (canSet ρ5) = true → H5 L = some (.lst xs) ∧ F5 L = none ∧ Sat K mg G F5 H5 (wipe σ vs) (wipeE ρ5 vs) ∧ (∀ j : Nat, isOw (wipeE ρ5 vs)[j]? = true → (wipe σ vs)[j]? = some (some (V.ref L)) → False) := fun {F5 H5 ρ5} S5 hc => by
            refine ⟨S5.h0 L _ hL3 nO, ?_, ?_, fun j hj hs => ?_⟩
            · cases q5 : F5 L with
              | none => rfl
              | some z =>
                rcases S5.fn L z q5 with q6 | q6 | q6
                · have q6' : F3 L = some z := q6
                  rw [fL3] at q6'
                  cases q6'
                · have q6' : H' L = none := q6
                  rw [hL3] at q6'
                  cases q6'
                · exact absurd q6 nO
            · have S6 := (S3.unblock S5).wipe hc
              rw [hw] at S6
              exact S6
            · by_cases hv : j ∈ vs
              · rw [wipe_in hv] at hs
                split at hs <;> cases hs
              · rw [wipeE_out hv] at hj
                obtain ⟨a, io, w, q7, h1, h2, h3⟩ := S5.owAt hj
                have e7 : σ3[j]? = some (some (V.ref L)) := (same3 j fun z => hv (his j z)).trans hs
                rw [h1] at e7
                cases e7
                obtain ⟨c, c1, _, _, c4⟩ := S5.own j io w q7
                rw [h1] at c1
                cases c1
                rcases c4 with c4 | c4
                · exact nO c4
                · have c5 : H' L = none := c4
                  rw [hL3] at c5
                  cases c5
          refine ⟨hw, subT S4 ?_⟩
          cases qt : tt ρ3 with
          | bad =>
            rw [qt] at k2
            exact k2.elim
          | ex x ρ4 =>
            rw [qt] at k2
            exact k2.elim
          | ok t ρ4 =>
            rw [qt] at k2
            intro F4 H4 b S5 e5 eb
            subst eb
            cases b with
            | false =>
              dsimp only at k2
              rw [if_neg Bool.false_ne_true]
              by_cases hc : vs.all (canSet ρ4) = true
              · rw [if_pos hc] at k2
                obtain ⟨b1, b2, b3, b4⟩ := back S5 hc
                exact ⟨F4, wipeE ρ4 vs, acc, xs, b3, (e2.trans ex.ff).trans e5, b1, rA.mono (ex.ff.trans e5), b2, b4, Gd.mono (ex.ff.trans e5) k2⟩
              · rw [if_neg hc] at k2
                exact k2.elim
            | true =>
              dsimp only at k2
              rw [if_pos rfl]
              refine sub S5 ?_
              cases qe : te ρ4 with
              | bad =>
                rw [qe] at k2
                exact k2.elim
              | ex x ρ5 =>
                rw [qe] at k2
                exact k2.elim
              | ok v ρ5 =>
                rw [qe] at k2
                dsimp only at k2
                intro F5 H5 y S6 e6 r6
                obtain ⟨F6, e7, S7, r7⟩ := S6.fz r6
                cases q8 : esc v.fz ρ5 with
                | none =>
                  rw [q8] at k2
                  exact k2.elim
                | some p =>
                  obtain ⟨d, ρ6⟩ := p
                  rw [q8] at k2
                  dsimp only at k2
                  obtain ⟨F7, e8, S8, r8⟩ := S7.esc r7 q8
                  by_cases hz : acc.length < BIG
                  · rw [if_pos hz] at k2
                    by_cases hc : vs.all (canSet ρ6) = true
                    · rw [if_pos hc] at k2
                      obtain ⟨b1, b2, b3, b4⟩ := back S8 hc
                      have sm : Same F2 F7 := (((ex.ff.trans e5).trans e6).trans e7).trans e8
                      refine ⟨xs, b1, by rw [rA.len]; exact Nat.lt_of_lt_of_le hz BIG_le, F7, wipeE ρ6 vs, acc ++ [d], xs ++ [y], ?_, e2.trans sm, upd_same, (rA.mono sm).app (.one r8), b2, b4, Gd.mono sm k2⟩
                      -- the new list has grown: it is no slot's, it is not frozen
                      exact b3.grow b2 b4 (by
                        rcases S1.fresh0 hL with z | z
                        · exact .inr z
                        · exact .inl z)
                    · rw [if_neg hc] at k2
                      exact k2.elim
                  · rw [if_neg hz] at k2
                    exact k2.elim
      · have hd : ivs.drop i = [] := List.drop_eq_nil_of_le (by omega)
        rw [hd] at k2
        unfold compL at k2
        refine .inl ⟨jok.stop F2 H2 i e2 S2.fh (by omega), ?_⟩
        have S5 := Sat.unwipe SL hn e2 S2
        refine k2 F2 H2 _ S5 (Same.refl _) (.n fL2 (.lst hL2 rA) ?_ fun j hj hs => ?_)
        · exact (S1.fresh0 hL).symm
        · by_cases hv : j ∈ vs
          · cases q : (restE ρ1 ρ2 vs)[j]? with
            | none =>
              rw [q] at hj
              cases hj
            | some t =>
              have e9 := restE_in hv q
              have e10 := List.all_eq_true.mp hn j hv
              unfold noOw at e10
              rw [q, e9, List.getD_eq_getElem?_getD] at hj
              cases q2 : ρ1[j]? with
              | none =>
                rw [q2] at hj
                cases hj
              | some t2 =>
                rw [q2] at hj e10
                cases t2 with
                | own _ _ => cases e10
                | _ => cases hj
          · rw [restE_out hv] at hj
            exact nL2 j hj (by rw [wipe_out hv]; exact hs)
  · rw [if_neg hn] at k1
    exact k1.elim
theorem me_comp {own : List (Str × Nat)} (hc : X.calm = true) (hN : X.N.Nodup) (hi : MI X W tg iter im) (ok : BlkOk X.N X.env.scope scope own)
    (hg : ∀ (s : Shared) (H : Hp) (C : Addr) (cl : List (Str × Addr)) (fp : List Addr), PG (X.blk s H scope (compEnvC scope cl C X.env) fp) tg g)
    (ht : ∀ (s : Shared) (H : Hp) (C : Addr) (cl : List (Str × Addr)) (fp : List Addr), MTs (X.blk s H scope (compEnvC scope cl C X.env) fp) W0 ifs tt)
    (he : ∀ (s : Shared) (H : Hp) (C : Addr) (cl : List (Str × Addr)) (fp : List Addr), ME (X.blk s H scope (compEnvC scope cl C X.env) fp) W0 elt te) (hgm : TgOk X.K X.mg is g gm) (his : ∀ i ∈ is, i ∈ own.map (·.2)) (hs : ∀ x, foldedSetIterable iter X.env x = pure x := by intro _; rfl) :
    ME X W (.ListComp elt [⟨tg, iter, ifs, 0⟩] scope pos) (mComp (own.map (·.2)) im gm tt te) :=
  ME.weak (pe_lc hc hN hi ok hg ht he hs) fun S k => comp_ok hgm his S k
theorem ms_setComp {own : List (Str × Nat)} {i : Nat} {y : Str} {py spos : Pos} (hc : X.calm = true) (hN : X.N.Nodup) (hy : X.N[i]? = some y) (hyl : X.env.scope.names.lookup y = some .local)
    (hsw : swapsWith (.ListComp elt [⟨tg, iter, ifs, 0⟩] scope pos) (some (.Name y py)) spos.line X.env = pure true) (hi : MI X W tg iter im) (ok : BlkOk X.N X.env.scope scope own)
    (hg : ∀ (s : Shared) (H : Hp) (C : Addr) (cl : List (Str × Addr)) (fp : List Addr), PG (X.blk s H scope (compEnvC scope cl C X.env) fp) tg g)
    (ht : ∀ (s : Shared) (H : Hp) (C : Addr) (cl : List (Str × Addr)) (fp : List Addr), MTs (X.blk s H scope (compEnvC scope cl C X.env) fp) W0 ifs tt)
    (he : ∀ (s : Shared) (H : Hp) (C : Addr) (cl : List (Str × Addr)) (fp : List Addr), ME (X.blk s H scope (compEnvC scope cl C X.env) fp) W0 elt te) (hgm : TgOk X.K X.mg is g gm) (his : ∀ i ∈ is, i ∈ own.map (·.2)) (hs : ∀ x, foldedSetIterable iter X.env x = pure x := by intro _; rfl) :
    MS X W (.Assign [.Name y py] (.ListComp elt [⟨tg, iter, ifs, 0⟩] scope pos) spos) (mSet i (mComp (own.map (·.2)) im gm tt te)) :=
  MS.weak (ps_setLc hc hN hy hyl hsw hi ok hg ht he hs) fun {σ H D G F ρ} S k => comp_ok (W := W) (Q := fun x H1 => D.nx (σ.set i (some x)) H1) hgm his S (Gd.st k fun v ρ1 F1 H1 x S1 e1 r1 k1 => set_fin S1 r1 k1)
end
end Mi
set_option Elab.async false
set_option linter.all false
set_option maxRecDepth 100000
set_option maxHeartbeats 1000000
/-! Mi, part I: defs and their calls. -/
namespace Mi
open PySem PySem.Spec PyProof.Rows L2
inductive DR where
  | ok (r : RV) (os : List Ow) | ex (x : Xc) (os : List Ow) | bad
def ioOf : List Nat → En → Option (List Ow)
  | [], _ => some []
  | k :: ks, ρ => match ρ[k]? with
    | some (.own _ o) => (match ioOf ks ρ with
      | some os => some (o :: os)
      | none => none)
    | _ => none
def okD (ios : List Nat) (r : RV) (ρ : En) : DR := match ioOf ios ρ with
  | some os => .ok r os
  | none => .bad
/-- a def's mirror, from its body's: n slots, lent objects in the slots ios -/
def mDef (n : Nat) (ios : List Nat) (b : SM) : List Sl → DR := fun as => match b (as ++ List.replicate (n - as.length) .un) with
  | .rt r ρ => okD ios r ρ
  | .nx ρ => okD ios (.v .non) ρ
  | .ex x ρ => (match ioOf ios ρ with
    | some os => .ex x os
    | none => .bad)
  | _ => .bad
section
variable (K : PySem.W.Frag) (mg : Str → Option Value)
structure ArgOk (F H : Hp) (ios : List Nat) (vs : List V) (as : List Sl) : Prop where
  len : as.length = vs.length
  val : ∀ (i : Nat) (d : D), as[i]? = some (Sl.val d) → ∃ v, vs[i]? = some v ∧ Rp K mg F v d
  own : ∀ (i : Nat) (io : Bool) (o : Ow), as[i]? = some (Sl.own io o) → i ∈ ios ∧ ∃ a, vs[i]? = some (V.ref a) ∧ F a = none ∧ OwOk K mg F H a o
  io : ∀ k ∈ ios, ∃ o, as[k]? = some (Sl.own true o)
  dis : ∀ (i j : Nat) (a : Addr), i ≠ j → i ∈ ios → j ∈ ios → vs[i]? = some (V.ref a) → vs[j]? = some (V.ref a) → False
/-- behind a call -/
structure Aft (F H F' H' : Hp) (vs : List V) (ios : List Nat) (os : List Ow) : Prop where
  ff : Same F F'
  fh : Same F' H'
  hh : ∀ b o, H b = some o → (∀ k ∈ ios, vs[k]? ≠ some (V.ref b)) → H' b = some o
  nw : ∀ b o, F' b = some o → F b = some o ∨ H b = none
  len : os.length = ios.length
  io : ∀ (n k : Nat) (a : Addr) (o : Ow), ios[n]? = some k → os[n]? = some o → vs[k]? = some (V.ref a) → F' a = none ∧ OwOk K mg F' H' a o
inductive RpR' (F H F' H' : Hp) : V → RV → Prop
  | v {x : V} {d : D} : Rp K mg F' x d → RpR' F H F' H' x (.v d)
  | w {a : Addr} {o : Ow} : F' a = none → OwOk K mg F' H' a o → H a = none → RpR' F H F' H' (.ref a) (.w o)
def DGd (F H : Hp) (vs : List V) (ios : List Nat) (r : DR) (Q : VK) (E : XK) : Prop := match r with
  | .ok r os => ∀ F' H' x, Aft K mg F H F' H' vs ios os → RpR' K mg F H F' H' x r → Q x H'
  | .ex x os => ∀ F' H' C d fs, mg x.c = some (.ref C) → Aft K mg F H F' H' vs ios os → F' d = some (.xd fs) → RpF K mg F' fs x.fs → E (.ref C) (some d) H'
  | .bad => False
/-- the promise of a def by its mirror; n parameters -/
def spM (n : Nat) (ios : List Nat) (f : List Sl → DR) : Sp := fun vs H Q E => vs.length = n ∧ ∃ F as, Same F H ∧ ArgOk K mg F H ios vs as ∧ DGd K mg F H vs ios (f as) Q E
end
section
variable {K : PySem.W.Frag} {mg : Str → Option Value} {F F' H H' : Hp} {G : Gh} {σ : St} {ρ : En} {ios : List Nat} {vs : List V} {as : List Sl}
theorem start_get {N : List Str} {i : Nat} {v : V} (h : vs[i]? = some v) : (L2.start N vs)[i]? = some (some v) := by
  have hi := (List.getElem?_eq_some_iff.mp h).1
  unfold L2.start
  rw [List.getElem?_append_left (by rw [List.length_map]; exact hi), List.getElem?_map, h]
  rfl
theorem slots_get {n i : Nat} {s : Sl} (h : (as ++ List.replicate n Sl.un)[i]? = some s) : s = .un ∨ as[i]? = some s := by
  by_cases hi : i < as.length
  · rw [List.getElem?_append_left hi] at h
    exact .inr h
  · rw [List.getElem?_append_right (by omega), List.getElem?_replicate] at h
    split at h
    · exact .inl (Option.some.inj h).symm
    · cases h
/-- the entry of a def -/
def Gh.entry (F H : Hp) (ios : List Nat) (vs : List V) : Gh := ⟨F, H, fun a => ∃ k ∈ ios, vs[k]? = some (V.ref a), ios.filterMap fun k => match vs[k]? with
  | some (V.ref a) => some (k, a)
  | _ => none⟩
theorem entry_io {k : Nat} {a : Addr} : (k, a) ∈ (Gh.entry F H ios vs).io ↔ k ∈ ios ∧ vs[k]? = some (V.ref a) := by
  show (k, a) ∈ (ios.filterMap fun k => match vs[k]? with
    | some (V.ref a) => some (k, a)
    | _ => none) ↔ _
  rw [List.mem_filterMap]
  constructor
  · rintro ⟨j, hj, e⟩
    split at e
    · rename_i b q
      cases e
      exact ⟨hj, q⟩
    · cases e
  · rintro ⟨h1, h2⟩
    exact ⟨k, h1, by rw [h2]⟩
theorem Sat.start {N : List Str} (hl : vs.length ≤ N.length) (fh : Same F H) (A : ArgOk K mg F H ios vs as) : Sat K mg (Gh.entry F H ios vs) F H (L2.start N vs) (as ++ List.replicate (N.length - as.length) .un) := by
  have al := A.len
  have oo : ∀ {i : Nat}, isOw (as ++ List.replicate (N.length - as.length) Sl.un)[i]? = true → i ∈ ios ∧ ∃ a, vs[i]? = some (V.ref a) := fun {i} h => by
    cases q : (as ++ List.replicate (N.length - as.length) Sl.un)[i]? with
    | none =>
      rw [q] at h
      cases h
    | some s =>
      rcases slots_get q with rfl | q2
      · rw [q] at h
        cases h
      · rw [q] at h
        cases s with
        | own io o =>
          obtain ⟨h1, a, h2, _⟩ := A.own i io o q2
          exact ⟨h1, a, h2⟩
        | _ => cases h
  refine ⟨fh, Same.refl _, fun _ _ h _ => h, fun _ _ h => .inl h, ?_, fun i d h => ?_, fun i io o h => ?_, fun i j a hij h1 h2 e1 e2 => ?_, fun k a h => ?_⟩
  · unfold L2.start
    rw [List.length_append, List.length_append, List.length_replicate, List.length_replicate, List.length_map]
    omega
  · rcases slots_get h with q | q
    · cases q
    · obtain ⟨v, h1, h2⟩ := A.val i d q
      exact ⟨v, start_get h1, h2⟩
  · rcases slots_get h with q | q
    · cases q
    · obtain ⟨h1, a, h2, h3, h4⟩ := A.own i io o q
      exact ⟨a, start_get h2, h3, h4, .inl ⟨i, h1, h2⟩⟩
  · obtain ⟨k1, b1, c1⟩ := oo h1
    obtain ⟨k2, b2, c2⟩ := oo h2
    rw [start_get c1] at e1
    rw [start_get c2] at e2
    cases e1
    cases e2
    exact A.dis i j a hij k1 k2 c1 c2
  · obtain ⟨h1, h2⟩ := entry_io.mp h
    obtain ⟨o, q⟩ := A.io k h1
    refine ⟨start_get h2, o, ?_⟩
    rw [List.getElem?_append_left (List.getElem?_eq_some_iff.mp q).1]
    exact q
theorem ioOf_get : ∀ {ios : List Nat} {ρ : En} {os : List Ow}, ioOf ios ρ = some os → os.length = ios.length ∧ ∀ (n k : Nat) (o : Ow), ios[n]? = some k → os[n]? = some o → ∃ io, ρ[k]? = some (Sl.own io o)
  | [], _, _, h => by
    cases h
    exact ⟨rfl, fun n k o e => by simp at e⟩
  | j :: ks, ρ, os, h => by
    unfold ioOf at h
    cases q : ρ[j]? with
    | none =>
      rw [q] at h
      cases h
    | some s =>
      rw [q] at h
      cases s with
      | own io w =>
        dsimp only at h
        cases q2 : ioOf ks ρ with
        | none =>
          rw [q2] at h
          cases h
        | some os2 =>
          rw [q2] at h
          cases h
          obtain ⟨l, k⟩ := ioOf_get q2
          refine ⟨congrArg Nat.succ l, fun n k' o e1 e2 => ?_⟩
          cases n with
          | zero =>
            cases e1
            cases e2
            exact ⟨io, q⟩
          | succ n => exact k n k' o e1 e2
      | _ => cases h
/-- behind the body: what callers are told -/
theorem Sat.aft {os : List Ow} (A : ArgOk K mg F H ios vs as) (S : Sat K mg (Gh.entry F H ios vs) F' H' σ ρ) (h : ioOf ios ρ = some os) : Aft K mg F H F' H' vs ios os := by
  obtain ⟨l, k⟩ := ioOf_get h
  refine ⟨S.f0, S.fh, fun b o hb hn => S.h0 b o hb fun ⟨j, hj, e⟩ => hn j hj e, fun b o hb => ?_, l, fun n j a o e1 e2 e3 => ?_⟩
  · rcases S.fn b o hb with q | q | ⟨j, hj, e⟩
    · exact .inl q
    · exact .inr q
    · obtain ⟨e1, w, e2⟩ := S.io j b (entry_io.mpr ⟨hj, e⟩)
      obtain ⟨c, c1, c2, _⟩ := S.own j true w e2
      rw [e1] at c1
      cases c1
      rw [c2] at hb
      cases hb
  · obtain ⟨io, q⟩ := k n j o e1 e2
    obtain ⟨f1, w, f2⟩ := S.io j a (entry_io.mpr ⟨List.mem_of_getElem? e1, e3⟩)
    rw [q] at f2
    cases f2
    obtain ⟨c, c1, c2, c3, _⟩ := S.own j true o q
    rw [f1] at c1
    cases c1
    exact ⟨c2, c3⟩
end
section
variable {P : Program} {w : World} {K : PySem.W.Frag} {mg : Str → Option Value} {base : Heap} {x qual : Str} {params : Arguments} {body : List Stmt} {scope : Scope} {dvs : List V} {kws : List (Str × V)} {f : Addr} {fd : FuncData}
/-- THE RULE of a def: its body has a mirror, so it keeps the mirror's promise -/
theorem def_ok {N ps : List Str} {k : Nat} {ios : List Nat} {m : SM} (FD : FunD K x qual params body scope dvs kws f fd) (S : FnScope N ps scope) (hps : ps.length ≤ N.length)
    (hb : ∀ (cdv : Value) (A : Around) (outer : List Env) (s : Shared) (H : Hp) (E : XK), Room k (A.deeper (envOfC qual scope s.heap.objs.size f cdv)) →
      MSs (cxOf (L2.CX P w) P w K mg base N qual scope f cdv A outer s H E) (fun cls d _ H' => E cls d H') body m) : FnOk P w K mg base (L2.CX P w) (k + 1) f fd ps (spM K mg ps.length ios (mDef N.length ios m)) := by
  refine FD.ok S (fun vs H Q E h => h.1) (fun cdv A outer s H vs Q E hr h => ⟨_, hb cdv A outer s H E hr, ?_⟩)
  obtain ⟨hn, F, as, fh, AO, g⟩ := h
  have S0 := Sat.start (N := N) (by rw [hn]; exact hps) fh AO
  refine ⟨Gh.entry F H ios vs, F, as ++ List.replicate (N.length - as.length) Sl.un, S0, ?_⟩
  unfold mDef at g
  have done : ∀ {r : RV} {ρ : En}, DGd K mg F H vs ios (okD ios r ρ) Q E → ∀ {F' H' : Hp} {σ : St} {y : V}, Sat K mg (Gh.entry F H ios vs) F' H' σ ρ → (∀ os, Aft K mg F H F' H' vs ios os → RpR' K mg F H F' H' y r) → Q y H' := fun {r ρ} g {F' H' σ y} S' hr => by
    unfold okD at g
    cases q : ioOf ios ρ with
    | none =>
      rw [q] at g
      exact g.elim
    | some os =>
      rw [q] at g
      have a := S'.aft AO q
      exact g F' H' y a (hr os a)
  cases q : m (as ++ List.replicate (N.length - as.length) .un) with
  | nx ρ =>
    rw [q] at g
    exact fun F' H' σ S' _ => done g S' fun _ _ => .v .non
  | rt r ρ =>
    rw [q] at g
    intro F' H' σ y S' e rr hown
    refine done g S' fun os a => ?_
    cases rr with
    | v r => exact .v r
    | w h1 h2 h3 =>
      rename_i b o
      refine .w h1 h2 ?_
      rcases h3 with ⟨j, hj, e3⟩ | h3
      · exfalso
        obtain ⟨f1, w2, f2⟩ := S'.io j b (entry_io.mpr ⟨hj, e3⟩)
        exact hown b rfl ⟨_, rfl⟩ j (by rw [f2]; rfl) f1
      · exact h3
  | ex y ρ =>
    rw [q] at g
    dsimp only at g
    intro σ F' H' C d fs hC S' e hd rf
    cases q2 : ioOf ios ρ with
    | none =>
      rw [q2] at g
      exact g.elim
    | some os =>
      rw [q2] at g
      exact g F' H' C d fs hC (S'.aft AO q2) hd rf
  | bk ρ =>
    rw [q] at g
    exact g.elim
  | ct ρ =>
    rw [q] at g
    exact g.elim
  | bad =>
    rw [q] at g
    exact g.elim
end

/-! ### calls -/
/-- an argument that is handed over as data; a lent object -/
def mArg (m : EM) (ms : AM) : AM := fun ρ => (m ρ).bind fun v ρ => match esc v.fz ρ with
  | some (d, ρ) => (ms ρ).bind fun vs ρ => .ok (.d d :: vs) ρ
  | none => .bad
def mLend (i : Nat) (ms : AM) : AM := fun ρ => if isOw ρ[i]? then (ms ρ).bind fun vs ρ => .ok (.o i :: vs) ρ else .bad
def toArgs : List OB → En → Option (List Sl)
  | [], _ => some []
  | .d d :: vs, ρ => (match toArgs vs ρ with
    | some as => some (.val d :: as)
    | none => none)
  | .o i :: vs, ρ => match ρ[i]? with
    | some (.own _ o) => (match toArgs vs ρ with
      | some as => some (.own true o :: as)
      | none => none)
    | _ => none
/-- the places of the lent ones, their slots -/
def ioPos : List OB → Nat → List Nat
  | [], _ => []
  | .d _ :: vs, k => ioPos vs (k + 1)
  | .o _ :: vs, k => k :: ioPos vs (k + 1)
def ioSl : List OB → List Nat
  | [] => []
  | .d _ :: vs => ioSl vs
  | .o i :: vs => i :: ioSl vs
def putO : List Nat → List Ow → En → En
  | i :: is, o :: os, ρ => match ρ[i]? with
    | some (.own t _) => putO is os (ρ.set i (.own t o))
    | _ => putO is os ρ
  | _, _, ρ => ρ
def rvOV : RV → OV
  | .v d => .d d
  | .w o => .n o
def mCall (ios : List Nat) (f : List Sl → DR) (dv : List D) (ms : AM) : EM := fun ρ => (ms ρ).bind fun vs ρ => match toArgs vs ρ with
  | some as => if ioPos vs 0 = ios ∧ (ioSl vs).Nodup then (match f (as ++ dv.map .val) with
    | .ok r os => .ok (rvOV r) (putO (ioSl vs) os ρ)
    | .ex x os => .ex x (putO (ioSl vs) os ρ)
    | .bad => .bad) else .bad
  | none => .bad
section
variable {K : PySem.W.Frag} {mg : Str → Option Value} {W : WX} {F F' H H' : Hp} {G : Gh} {σ : St} {ρ : En}
theorem ma_arg {X : Cx} {e : Expr} {es : List Expr} {m : EM} {ms : AM} (ha : ME X W e m) (hr : MA X W es ms) (hs : starEach (e :: es) X.env = (false, eval e X.env) :: starEach es X.env := by rfl) : MA X W (e :: es) (mArg m ms) :=
  MA.weak (pa_cons ha hr hs) fun S k => sub S (Gd.opd (f := fun v ρ => match esc v ρ with
    | some (d, ρ) => (ms ρ).bind fun vs ρ => .ok (.d d :: vs) ρ
    | none => .bad) k fun v ρ1 F1 H1 x S1 e1 r1 k1 => by
      cases q : esc v ρ1 with
      | none =>
        rw [q] at k1
        exact k1.elim
      | some p =>
        obtain ⟨d, ρ2⟩ := p
        rw [q] at k1
        dsimp only at k1
        obtain ⟨F2, e2, S2, r2⟩ := S1.esc r1 q
        exact subA S2 (Gd.bind (Gd.mono e2 k1) fun vs ρ3 F3 H3 xs _ S3 e3 r3 k3 => k3 F3 H3 (x :: xs) S3 (Same.refl _) (.cons (.d (r2.mono e3)) r3)))
theorem ma_lend {X : Cx} {x : Str} {pos : Pos} {es : List Expr} {ms : AM} (i : Nat) (ha : PE X (.Name x pos) (tVar i)) (hr : MA X W es ms) (hs : starEach (.Name x pos :: es) X.env = (false, eval (.Name x pos) X.env) :: starEach es X.env := by rfl) : MA X W (.Name x pos :: es) (mLend i ms) :=
  MA.weak (pa_cons ha hr hs) fun {σ H Q G F ρ} S k => by
    unfold mLend at k
    by_cases h : isOw ρ[i]? = true
    · rw [if_pos h] at k
      obtain ⟨a, io, w, _, ha, _⟩ := S.owAt h
      exact ⟨_, ha, subA S (Gd.bind k fun vs ρ3 F3 H3 xs _ S3 e3 r3 k3 => k3 F3 H3 (_ :: xs) S3 (Same.refl _) (.cons (.o ha) r3))⟩
    · rw [if_neg h] at k
      exact k.elim
theorem toArgs_get : ∀ {vs : List OB} {as : List Sl} {i : Nat} {v : OB}, toArgs vs ρ = some as → vs[i]? = some v → (∃ d, v = .d d ∧ as[i]? = some (Sl.val d)) ∨ ∃ j t o, v = .o j ∧ ρ[j]? = some (Sl.own t o) ∧ as[i]? = some (Sl.own true o)
  | [], _, _, _, _, h => by simp at h
  | .d d :: vs, as, i, v, h, hv => by
    unfold toArgs at h
    cases q : toArgs vs ρ with
    | none =>
      rw [q] at h
      cases h
    | some as2 =>
      rw [q] at h
      cases h
      cases i with
      | zero =>
        cases hv
        exact .inl ⟨d, rfl, rfl⟩
      | succ i => exact toArgs_get (vs := vs) (as := as2) (i := i) q hv
  | .o j :: vs, as, i, v, h, hv => by
    unfold toArgs at h
    cases q0 : ρ[j]? with
    | none =>
      rw [q0] at h
      cases h
    | some s =>
      rw [q0] at h
      cases s with
      | own t o =>
        dsimp only at h
        cases q : toArgs vs ρ with
        | none =>
          rw [q] at h
          cases h
        | some as2 =>
          rw [q] at h
          cases h
          cases i with
          | zero =>
            cases hv
            exact .inr ⟨j, t, o, rfl, q0, rfl⟩
          | succ i => exact toArgs_get (vs := vs) (as := as2) (i := i) q hv
      | _ => cases h
theorem toArgs_len : ∀ {vs : List OB} {as : List Sl}, toArgs vs ρ = some as → as.length = vs.length
  | [], _, h => by
    cases h
    rfl
  | .d d :: vs, as, h => by
    unfold toArgs at h
    cases q : toArgs vs ρ with
    | none =>
      rw [q] at h
      cases h
    | some as2 =>
      rw [q] at h
      cases h
      exact congrArg Nat.succ (toArgs_len q)
  | .o j :: vs, as, h => by
    unfold toArgs at h
    cases q0 : ρ[j]? with
    | none =>
      rw [q0] at h
      cases h
    | some s =>
      rw [q0] at h
      cases s with
      | own t o =>
        dsimp only at h
        cases q : toArgs vs ρ with
        | none =>
          rw [q] at h
          cases h
        | some as2 =>
          rw [q] at h
          cases h
          exact congrArg Nat.succ (toArgs_len q)
      | _ => cases h
theorem ioPos_mem : ∀ {vs : List OB} {b k : Nat}, k ∈ ioPos vs b ↔ ∃ i j, k = b + i ∧ vs[i]? = some (OB.o j)
  | [], b, k => by simp [ioPos]
  | .d d :: vs, b, k => by
    unfold ioPos
    rw [ioPos_mem]
    constructor
    · rintro ⟨i, j, rfl, h⟩
      exact ⟨i + 1, j, by omega, h⟩
    · rintro ⟨i, j, rfl, h⟩
      cases i with
      | zero => cases h
      | succ i => exact ⟨i, j, by omega, h⟩
  | .o q :: vs, b, k => by
    unfold ioPos
    rw [List.mem_cons, ioPos_mem]
    constructor
    · rintro (rfl | ⟨i, j, rfl, h⟩)
      · exact ⟨0, q, rfl, rfl⟩
      · exact ⟨i + 1, j, by omega, h⟩
    · rintro ⟨i, j, rfl, h⟩
      cases i with
      | zero => exact .inl rfl
      | succ i => exact .inr ⟨i, j, by omega, h⟩
/-- the n-th lent one: its place, its slot -/
theorem io_at : ∀ {vs : List OB} {b n : Nat}, (ioPos vs b).length = (ioSl vs).length ∧ ∀ k j, (ioPos vs b)[n]? = some k → (ioSl vs)[n]? = some j → ∃ i, k = b + i ∧ vs[i]? = some (OB.o j)
  | [], b, n => ⟨rfl, fun k j h => by simp [ioPos] at h⟩
  | .d d :: vs, b, n => by
    obtain ⟨h1, h2⟩ := io_at (vs := vs) (b := b + 1) (n := n)
    refine ⟨h1, fun k j e1 e2 => ?_⟩
    obtain ⟨i, rfl, h3⟩ := h2 k j e1 e2
    exact ⟨i + 1, by omega, h3⟩
  | .o q :: vs, b, n => by
    refine ⟨congrArg Nat.succ (io_at (vs := vs) (b := b + 1) (n := 0)).1, fun k j e1 e2 => ?_⟩
    cases n with
    | zero =>
      cases e1
      cases e2
      exact ⟨0, rfl, rfl⟩
    | succ n =>
      obtain ⟨i, rfl, h3⟩ := (io_at (vs := vs) (b := b + 1) (n := n)).2 k j e1 e2
      exact ⟨i + 1, by omega, h3⟩
theorem ioSl_mem {vs : List OB} {i j : Nat} (h : vs[i]? = some (OB.o j)) : j ∈ ioSl vs := by
  induction vs generalizing i with
  | nil => simp at h
  | cons v vs ih =>
    cases i with
    | zero =>
      cases h
      exact List.mem_cons_self ..
    | succ i =>
      have := ih h
      cases v with
      | d _ => exact this
      | o _ => exact List.mem_cons_of_mem _ this
theorem ioSl_inj : ∀ {vs : List OB} {i k j : Nat}, (ioSl vs).Nodup → vs[i]? = some (OB.o j) → vs[k]? = some (OB.o j) → i = k
  | [], _, _, _, _, h, _ => by simp at h
  | .d _ :: vs, i, k, j, nd, h1, h2 => by
    cases i with
    | zero => cases h1
    | succ i =>
      cases k with
      | zero => cases h2
      | succ k => exact congrArg Nat.succ (ioSl_inj (vs := vs) nd h1 h2)
  | .o q :: vs, i, k, j, nd, h1, h2 => by
    have nd' := List.nodup_cons.mp (show (q :: ioSl vs).Nodup from nd)
    cases i with
    | zero =>
      cases h1
      cases k with
      | zero => rfl
      | succ k => exact absurd (ioSl_mem (vs := vs) h2) nd'.1
    | succ i =>
      cases k with
      | zero =>
        cases h2
        exact absurd (ioSl_mem (vs := vs) h1) nd'.1
      | succ k => exact congrArg Nat.succ (ioSl_inj nd'.2 h1 h2)
theorem putO_out : ∀ {is : List Nat} {os : List Ow} {ρ : En} {j : Nat}, j ∉ is → (putO is os ρ)[j]? = ρ[j]?
  | [], _, _, _, _ => rfl
  | _ :: _, [], _, _, _ => rfl
  | i :: is, o :: os, ρ, j, h => by
    have hj : j ≠ i := fun e => h (by simp [e])
    have hr : j ∉ is := fun z => h (List.mem_cons_of_mem _ z)
    unfold putO
    split
    · rw [putO_out hr, List.getElem?_set_ne (Ne.symm hj)]
    · rw [putO_out hr]
theorem putO_len : ∀ {is : List Nat} {os : List Ow} {ρ : En}, (putO is os ρ).length = ρ.length
  | [], _, _ => rfl
  | _ :: _, [], _ => rfl
  | i :: is, o :: os, ρ => by
    unfold putO
    split
    · rw [putO_len, List.length_set]
    · rw [putO_len]
theorem putO_in : ∀ {is : List Nat} {os : List Ow} {ρ : En} {n i : Nat} {o w : Ow} {t : Bool}, is.Nodup → is[n]? = some i → os[n]? = some o → ρ[i]? = some (Sl.own t w) → (putO is os ρ)[i]? = some (Sl.own t o)
  | [], _, _, _, _, _, _, _, _, h, _, _ => by simp at h
  | _ :: _, [], _, _, _, _, _, _, _, _, h, _ => by simp at h
  | j :: is, o :: os, ρ, n, i, o', w, t, nd, h1, h2, h3 => by
    obtain ⟨n1, n2⟩ := List.nodup_cons.mp nd
    cases n with
    | zero =>
      cases h1
      cases h2
      unfold putO
      rw [h3]
      dsimp only
      rw [putO_out n1, List.getElem?_set_self (List.getElem?_eq_some_iff.mp h3).1]
    | succ n =>
      have hij : i ≠ j := fun e => n1 (e ▸ List.mem_of_getElem? h1)
      unfold putO
      split
      · exact putO_in n2 h1 h2 (by rw [List.getElem?_set_ne (Ne.symm hij)]; exact h3)
      · exact putO_in n2 h1 h2 h3
theorem RpBs.get : ∀ {xs : List V} {vs : List OB} {i : Nat} {v : OB}, RpBs K mg F σ xs vs → vs[i]? = some v → ∃ x, xs[i]? = some x ∧ RpB K mg F σ x v
  | _, _, _, _, .nil, h => by simp at h
  | _, _, 0, _, .cons r _, h => by
    cases h
    exact ⟨_, rfl, r⟩
  | _, _, i + 1, _, .cons _ t, h => RpBs.get (i := i) t h
theorem RpBs.len : ∀ {xs : List V} {vs : List OB}, RpBs K mg F σ xs vs → xs.length = vs.length
  | _, _, .nil => rfl
  | _, _, .cons _ t => congrArg Nat.succ (RpBs.len t)
/-- what is handed over -/
theorem Sat.args (S : Sat K mg G F H σ ρ) {xs dvs : List V} {vs : List OB} {as : List Sl} {dv : List D} (r : RpBs K mg F σ xs vs) (rd : RpA K mg F dvs dv) (h : toArgs vs ρ = some as) (nd : (ioSl vs).Nodup) :
    ArgOk K mg F H (ioPos vs 0) (xs ++ dvs) (as ++ dv.map .val) := by
  have l1 := r.len
  have l2 := toArgs_len h
  have l3 := rd.len
  -- a place of the written arguments
  have left : ∀ {i : Nat} {s : Sl}, as[i]? = some s → ∃ v x, vs[i]? = some v ∧ (xs ++ dvs)[i]? = some x ∧ RpB K mg F σ x v := fun {i s} e => by
    have hi := (List.getElem?_eq_some_iff.mp e).1
    have hv : vs[i]? = some vs[i] := List.getElem?_eq_getElem (by omega)
    obtain ⟨x, hx, rx⟩ := r.get hv
    exact ⟨_, x, hv, by rw [List.getElem?_append_left (by omega)]; exact hx, rx⟩
  have lent : ∀ {k : Nat}, k ∈ ioPos vs 0 → ∃ j t o x, vs[k]? = some (OB.o j) ∧ ρ[j]? = some (Sl.own t o) ∧ as[k]? = some (Sl.own true o) ∧ (xs ++ dvs)[k]? = some x ∧ σ[j]? = some (some x) := fun {k} hk => by
    obtain ⟨i, j, e, hv⟩ := ioPos_mem.mp hk
    rw [Nat.zero_add] at e
    subst e
    rcases toArgs_get h hv with ⟨d, e, _⟩ | ⟨j', t, o, e, h1, h2⟩
    · cases e
    · cases e
      obtain ⟨v, x, e1, e2, rx⟩ := left h2
      rw [hv] at e1
      cases e1
      cases rx with
      | o e3 => exact ⟨_, t, o, x, hv, h1, h2, e2, e3⟩
  refine ⟨by rw [List.length_append, List.length_append, List.length_map]; omega, fun i d e => ?_, fun i io o e => ?_, fun k hk => ?_, fun i j a hij h1 h2 e1 e2 => ?_⟩
  · by_cases hi : i < as.length
    · rw [List.getElem?_append_left hi] at e
      obtain ⟨v, x, e1, e2, rx⟩ := left e
      rcases toArgs_get h e1 with ⟨d', e3, e4⟩ | ⟨j, t, o, e3, _, e4⟩
      · subst e3
        rw [e] at e4
        cases e4
        cases rx with
        | d rx => exact ⟨x, e2, rx⟩
      · rw [e] at e4
        cases e4
    · rw [List.getElem?_append_right (by omega), List.getElem?_map] at e
      cases q : dv[i - as.length]? with
      | none =>
        rw [q] at e
        cases e
      | some d' =>
        rw [q] at e
        cases e
        obtain ⟨x, e1, rx⟩ := rd.get q
        exact ⟨x, by rw [List.getElem?_append_right (by omega), l1, ← l2]; exact e1, rx⟩
  · by_cases hi : i < as.length
    · rw [List.getElem?_append_left hi] at e
      obtain ⟨v, x, e1, e2, rx⟩ := left e
      rcases toArgs_get h e1 with ⟨d', e3, e4⟩ | ⟨j, t, o', e3, e5, e4⟩
      · rw [e] at e4
        cases e4
      · subst e3
        rw [e] at e4
        cases e4
        obtain ⟨a, a1, a2, a3, _⟩ := S.own j t o e5
        cases rx with
        | o e6 =>
          rw [a1] at e6
          cases e6
          exact ⟨ioPos_mem.mpr ⟨i, j, by omega, e1⟩, a, e2, a2, a3⟩
    · rw [List.getElem?_append_right (by omega), List.getElem?_map] at e
      cases q : dv[i - as.length]? with
      | none =>
        rw [q] at e
        cases e
      | some d' =>
        rw [q] at e
        cases e
  · obtain ⟨j, t, o, x, _, _, h3, _⟩ := lent hk
    exact ⟨o, by rw [List.getElem?_append_left (List.getElem?_eq_some_iff.mp h3).1]; exact h3⟩
  · obtain ⟨j1, t1, o1, x1, p1, p2, p3, p4, p5⟩ := lent h1
    obtain ⟨j2, t2, o2, x2, q1, q2, q3, q4, q5⟩ := lent h2
    rw [p4] at e1
    cases e1
    rw [q4] at e2
    cases e2
    by_cases e : j1 = j2
    · subst e
      exact hij (ioSl_inj nd p1 q1)
    · exact S.dis j1 j2 a e (by rw [p2]; rfl) (by rw [q2]; rfl) p5 q5
/-- behind the call -/
theorem Sat.back (S : Sat K mg G F H σ ρ) {xs dvs : List V} {vs : List OB} {as : List Sl} {os : List Ow} (r : RpBs K mg F σ xs vs) (h : toArgs vs ρ = some as) (nd : (ioSl vs).Nodup) (A : Aft K mg F H F' H' (xs ++ dvs) (ioPos vs 0) os) :
    Sat K mg G F' H' σ (putO (ioSl vs) os ρ) := by
  have l1 := r.len
  -- the lent slots
  have lent : ∀ {j : Nat}, j ∈ ioSl vs → ∃ (n k : Nat) (t : Bool) (w o : Ow) (a : Addr), (ioSl vs)[n]? = some j ∧ (ioPos vs 0)[n]? = some k ∧ os[n]? = some o ∧ ρ[j]? = some (Sl.own t w) ∧ σ[j]? = some (some (V.ref a)) ∧ (xs ++ dvs)[k]? = some (V.ref a) ∧
      (putO (ioSl vs) os ρ)[j]? = some (Sl.own t o) ∧ F' a = none ∧ OwOk K mg F' H' a o ∧ (G.O a ∨ G.H0 a = none) := fun {j} hj => by
    obtain ⟨n, hn⟩ := List.mem_iff_getElem?.mp hj
    obtain ⟨ll, at_⟩ := io_at (vs := vs) (b := 0) (n := n)
    have hlt := (List.getElem?_eq_some_iff.mp hn).1
    have hk : (ioPos vs 0)[n]? = some (ioPos vs 0)[n] := List.getElem?_eq_getElem (by omega)
    have hlo : n < os.length := by rw [A.len]; omega
    have ho : os[n]? = some os[n] := List.getElem?_eq_getElem hlo
    obtain ⟨i, e, hv⟩ := at_ _ _ hk hn
    rw [Nat.zero_add] at e
    rw [e] at hk
    rcases toArgs_get h hv with ⟨d, e2, _⟩ | ⟨j', t, w, e2, h1, h2⟩
    · cases e2
    · cases e2
      obtain ⟨x, hx, rx⟩ := r.get hv
      obtain ⟨a, a1, a2, a3, a4⟩ := S.own _ t w h1
      cases rx with
      | o e3 =>
        rw [a1] at e3
        cases e3
        have hi := (List.getElem?_eq_some_iff.mp hx).1
        have hx' : (xs ++ dvs)[i]? = some (V.ref a) := by rw [List.getElem?_append_left hi]; exact hx
        obtain ⟨b1, b2⟩ := A.io n i a _ hk ho hx'
        exact ⟨n, i, t, w, _, a, hn, hk, ho, h1, a1, hx', putO_in nd hn ho h1, b1, b2, a4⟩
  -- a lent address stands in a slot
  have slot : ∀ {k : Nat} {b : Addr}, k ∈ ioPos vs 0 → (xs ++ dvs)[k]? = some (V.ref b) → ∃ j, j ∈ ioSl vs ∧ isOw ρ[j]? = true ∧ σ[j]? = some (some (V.ref b)) := fun {k b} hk e => by
    obtain ⟨i, j, e0, hv⟩ := ioPos_mem.mp hk
    rw [Nat.zero_add] at e0
    subst e0
    rcases toArgs_get h hv with ⟨d, e2, _⟩ | ⟨j', t, w, e2, h1, h2⟩
    · cases e2
    · cases e2
      obtain ⟨x, hx, rx⟩ := r.get hv
      have hi := (List.getElem?_eq_some_iff.mp hx).1
      rw [List.getElem?_append_left hi, hx] at e
      cases e
      cases rx with
      | o e3 => exact ⟨_, ioSl_mem hv, by rw [h1]; rfl, e3⟩
  have ow : ∀ {j : Nat}, isOw (putO (ioSl vs) os ρ)[j]? = true → isOw ρ[j]? = true := fun {j} hj => by
    by_cases hm : j ∈ ioSl vs
    · obtain ⟨n, k, t, w, o, a, _, _, _, q, _⟩ := lent hm
      rw [q]
      rfl
    · rw [putO_out hm] at hj
      exact hj
  refine ⟨A.fh, S.f0.trans A.ff, fun b o hb hn => ?_, fun b o hb => ?_, by rw [putO_len]; exact S.len, fun j d e => ?_, fun j io o e => ?_, fun i j a hij h1 h2 => S.dis i j a hij (ow h1) (ow h2), fun k a e => ?_⟩
  · refine A.hh b o (S.h0 b o hb hn) fun k hk e => ?_
    obtain ⟨j, hj, _⟩ := slot hk e
    obtain ⟨n, k', t, w, o', a, _, _, _, _, a1, a2, _, _, _, a4⟩ := lent hj
    obtain ⟨j2, hj2, o2, e2⟩ := slot hk e
    -- the address b is an object of one's own
    obtain ⟨c, io, w2, q, c1, _⟩ := S.owAt o2
    rw [c1] at e2
    cases e2
    obtain ⟨c', c2, _, _, c4⟩ := S.own j2 io w2 q
    rw [c1] at c2
    cases c2
    rcases c4 with c4 | c4
    · exact hn c4
    · rw [c4] at hb
      cases hb
  · rcases A.nw b o hb with q | q
    · exact S.fn b o q
    · exact .inr (S.fresh0 q)
  · by_cases hm : j ∈ ioSl vs
    · obtain ⟨n, k, t, w, o, a, _, _, _, _, _, _, q, _⟩ := lent hm
      rw [q] at e
      cases e
    · rw [putO_out hm] at e
      obtain ⟨v, h1, h2⟩ := S.val j d e
      exact ⟨v, h1, h2.mono A.ff⟩
  · by_cases hm : j ∈ ioSl vs
    · obtain ⟨n, k, t, w, o', a, _, _, _, _, a1, _, q, f1, f2, f3⟩ := lent hm
      rw [q] at e
      cases e
      exact ⟨a, a1, f1, f2, f3⟩
    · rw [putO_out hm] at e
      obtain ⟨a, a1, a2, a3, a4⟩ := S.own j io o e
      obtain ⟨u, hu⟩ := a3.at
      refine ⟨a, a1, ?_, a3.mono A.ff ?_, a4⟩
      · cases q : F' a with
        | none => rfl
        | some z =>
          rcases A.nw a z q with q | q
          · rw [a2] at q; cases q
          · rw [hu] at q; cases q
      · rw [hu]
        refine A.hh a u hu fun k hk e9 => ?_
        obtain ⟨j2, hj2, o2, e2⟩ := slot hk e9
        have hne : j ≠ j2 := fun z => hm (z ▸ hj2)
        exact S.dis j j2 a hne (by rw [e]; rfl) o2 a1 e2
  · obtain ⟨e1, o, e2⟩ := S.io k a e
    by_cases hm : k ∈ ioSl vs
    · obtain ⟨n, k', t, w, o', a', _, _, _, q0, _, _, q, _⟩ := lent hm
      rw [e2] at q0
      cases q0
      exact ⟨e1, o', q⟩
    · exact ⟨e1, o, by rw [putO_out hm]; exact e2⟩
theorem me_call {X : Cx} {W : WX} {ios : List Nat} {f : List Sl → DR} {dv : List D} {dvs : List V} {ds : List Value} {ms : AM} {k n : Nat} {fa : Addr} {fd : FuncData} {ps : List Str} {x : Str} {p pos : Pos} {e : Expr} {es : List Expr}
    (FO : FnOk X.prog X.w X.K X.mg X.base (L2.CX X.prog X.w) k fa fd ps (spM X.K X.mg n ios f)) (hr : Room k X.A) (tk : Takes X W) (hg : Gl X x) (hm : X.mg x = some (.ref fa)) (hk : PySem.W.keepIn X.K (.ref fa) = true) (hb : Binds X.K fd ps ds) (hd : Vals dvs ds)
    (rd : ∀ F, RpA X.K X.mg F dvs dv) (hn : (e :: es).length + dvs.length = n) (ha : MA X W (e :: es) ms) (hml : ∀ ρ vs ρ', ms ρ = .ok vs ρ' → vs.length = (e :: es).length)
    (hdb : (x == ("__debug__" : Str)) = false := by decide) (he : starEach (e :: es) X.env = (false, eval e X.env) :: starEach es X.env := by rfl) (hpl : (backTo pos (starEach es X.env)).any (·.1) = false := by rfl) :
    ME X W (.Call (.Name x p) (e :: es) [] pos) (mCall ios f dv ms) :=
  ME.weak (pe_callSD FO hr hg hm hk hb hd (fun σ => passAt tk σ) ha hdb he hpl) fun {σ H Q G F ρ} S k => by
    have k' : Gd X.K X.mg W (RpO X.K X.mg) G F σ ((ms ρ).bind fun vs ρ => match toArgs vs ρ with
      | some as => if ioPos vs 0 = ios ∧ (ioSl vs).Nodup then (match f (as ++ dv.map .val) with
        | .ok r os => .ok (rvOV r) (putO (ioSl vs) os ρ)
        | .ex x os => .ex x (putO (ioSl vs) os ρ)
        | .bad => .bad) else .bad
      | none => .bad) Q := k
    refine subA S (Gd.bind k' fun vs ρ1 F1 H1 xs hms S1 e1 r1 k1 => ?_)
    cases q : toArgs vs ρ1 with
    | none =>
      rw [q] at k1
      exact k1.elim
    | some as =>
      rw [q] at k1
      dsimp only at k1
      by_cases hc : ioPos vs 0 = ios ∧ (ioSl vs).Nodup
      · rw [if_pos hc] at k1
        obtain ⟨c1, c2⟩ := hc
        subst c1
        refine ⟨?_, F1, as ++ dv.map .val, S1.fh, S1.args r1 (rd F1) q c2, ?_⟩
        · rw [List.length_append, r1.len, hml ρ vs ρ1 hms]
          exact hn
        · cases q2 : f (as ++ dv.map .val) with
          | bad =>
            rw [q2] at k1
            exact k1.elim
          | ok r os =>
            rw [q2] at k1
            intro F2 H2 y A rr
            have S2 := S1.back r1 q c2 A
            refine k1 F2 H2 y S2 A.ff ?_
            cases rr with
            | v r => exact .d r
            | w h1 h2 h3 =>
              rename_i a o
              refine .n h1 h2 ((S1.fresh0 h3).symm) fun j hj hs => ?_
              obtain ⟨b, io, w, q3, b1, b2, b3⟩ := S2.owAt hj
              rw [hs] at b1
              cases b1
              -- a was no object ahead of the call, what a slot holds was one
              have : isOw ρ1[j]? = true := by
                by_cases hm2 : j ∈ ioSl vs
                · obtain ⟨n3, hn3⟩ := List.mem_iff_getElem?.mp hm2
                  obtain ⟨ll, at_⟩ := io_at (vs := vs) (b := 0) (n := n3)
                  have hlt := (List.getElem?_eq_some_iff.mp hn3).1
                  obtain ⟨i, e0, hv⟩ := at_ _ _ (List.getElem?_eq_getElem (by omega)) hn3
                  rcases toArgs_get q hv with ⟨d, e2, _⟩ | ⟨j', t, w', e2, h1', _⟩
                  · cases e2
                  · cases e2
                    rw [h1']
                    rfl
                · rw [putO_out hm2] at hj
                  exact hj
              obtain ⟨c, io', w', q4, d1, d2, d3⟩ := S1.owAt this
              rw [hs] at d1
              cases d1
              obtain ⟨u, hu⟩ := d3.at
              rw [h3] at hu
              cases hu
          | ex y os =>
            rw [q2] at k1
            intro F2 H2 C d fs hC A hd2 rf
            exact k1 F2 H2 C d fs hC (S1.back r1 q c2 A) A.ff hd2 rf
      · rw [if_neg hc] at k1
        exact k1.elim
/-- an argument list's mirror gives as many as are written -/
theorem ml_nil {ρ : En} {vs : List OB} {ρ' : En} (h : mNil ρ = .ok vs ρ') : vs.length = 0 := by
  cases h
  rfl
theorem ml_arg {m : EM} {ms : AM} {n : Nat} (hm : ∀ ρ vs ρ', ms ρ = .ok vs ρ' → vs.length = n) : ∀ ρ vs ρ', mArg m ms ρ = .ok vs ρ' → vs.length = n + 1 := fun ρ vs ρ' h => by
  unfold mArg at h
  cases q : m ρ with
  | ok v ρ1 =>
    rw [q] at h
    dsimp only [R.bind] at h
    cases q1 : esc v.fz ρ1 with
    | none =>
      rw [q1] at h
      cases h
    | some p =>
      obtain ⟨d, ρ2⟩ := p
      rw [q1] at h
      dsimp only at h
      cases q2 : ms ρ2 with
      | ok us ρ3 =>
        rw [q2] at h
        cases h
        rw [List.length_cons, hm _ _ _ q2]
      | ex _ _ =>
        rw [q2] at h
        cases h
      | bad =>
        rw [q2] at h
        cases h
  | ex _ _ =>
    rw [q] at h
    cases h
  | bad =>
    rw [q] at h
    cases h
theorem ml_lend {i : Nat} {ms : AM} {n : Nat} (hm : ∀ ρ vs ρ', ms ρ = .ok vs ρ' → vs.length = n) : ∀ ρ vs ρ', mLend i ms ρ = .ok vs ρ' → vs.length = n + 1 := fun ρ vs ρ' h => by
  unfold mLend at h
  by_cases hc : isOw ρ[i]? = true
  · rw [if_pos hc] at h
    cases q2 : ms ρ with
    | ok us ρ3 =>
      rw [q2] at h
      cases h
      rw [List.length_cons, hm _ _ _ q2]
    | ex _ _ =>
      rw [q2] at h
      cases h
    | bad =>
      rw [q2] at h
      cases h
  · rw [if_neg hc] at h
    cases h
end
end Mi
set_option Elab.async false
set_option linter.all false
set_option maxRecDepth 100000
set_option maxHeartbeats 2000000
/-! Mi, part J: own errors whose __init__ says super().__init__(text), then sets the one field: made, raised. -/
namespace PySem
namespace MiX
open PySem.W PySem.Calls PyProof.Rows PySem.HandSPX
def iA (f : Str) (p1 p2 : Pos) : Arguments := { posonlyargs := [], args := [{ arg := "self", annotation := none, pos := p1 }, { arg := f, annotation := none, pos := p2 }], vararg := none, kwonlyargs := [], kw_defaults := [], kwarg := none, defaults := [] }
abbrev iE (t : Str) (q : Nat → Pos) : Expr := .Call (.Attribute (.Call (.Name "super" (q 0)) [] [] (q 1)) "__init__" (q 2)) [.Constant (.str t) 0 (q 3)] [] (q 4)
def iB (f t : Str) (q : Nat → Pos) : List Stmt := [
  .Expr (iE t q) (q 5),
  .Assign [.Attribute (.Name "self" (q 6)) f (q 7)] (.Name f (q 8)) (q 9)]
def iS (f : Str) : Scope := { kind := .function, names := [(PySem.Str.ofString "self", .local), (f, .local), (PySem.Str.ofString "__class__", .free), (PySem.Str.ofString "super", .globalImplicit)], isGenerator := false, isCoroutine := false, more := [] }
/-- what the written part says of the class named c, its field f; at C; its __init__ at fI -/
structure ExT (P : Program) (K : Frag) (mg : Str → Option Value) (c f : Str) (C fI : Addr) : Prop where
  gC : mg c = some (.ref C)
  cls : ∃ nm q N bs bm sn sub ab col dd k0 k1 k2 k3 k5, K.lookup C = some (excClassObj nm q C N bs bm true sn sub ab col dd k0 k1 k2 k3 k5 "ValueError.__new__") ∧ refsVE bm = true ∧ alongIn K "__init__" bm = some (some (.builtin "ValueError.__init__"))
  sa : findIn K (.ref C) "__setattr__" = some (some (.builtin "object.__setattr__"))
  ga : findIn K (.ref C) "__getattribute__" = some (some (.builtin "BaseException.__getattribute__"))
  gg : findIn K (.ref C) "__getattr__" = some none
  noN : findIn K (.ref C) f = some none
  iC : findIn K (.ref C) "__init__" = some (some (.ref fI))
  tC : typeIn K (.ref fI) = some (.type "function")
  kC : keepIn K (.ref C) = true
  exC : subIn K (.ref C) (.type "BaseException") = some true
  vC : subIn K (.ref C) (.type "ValueError") = some true
  tyC : typeIn K (.ref C) = some (.type "type")
  hdC : hasDictIn K C = true
  subC : mroIn K C (.ref C) = some true
  opq : nsIn K cStatics "thirdparty.any" = some none
  noS : mg "super" = none
  top : (P.main.scope.names.lookup ("super" : Str)).isSome = false
  fn : ∃ (oc : Value) (od : Option Addr) (doc pm : Value) (an : Option Addr) (ct : Value) (osl : Array (Option Value)) (p1 p2 : Pos) (q : Nat → Pos) (t qn : Str) (cda cc : Addr) (c1 : Value) (d1 : Option Addr) (vs : Array Value) (s1 : Array (Option Value)) (file : Str) (tf : Tok) (c2 : Value) (d2 : Option Addr) (s2 : Array (Option Value)),
    K.lookup fI = some ⟨oc, od, .func (ksFn "__init__" qn (iA f p1 p2) (iB f t q) (iS f) .none .none doc pm an (.ref cda) ct cc), osl⟩ ∧ codeIn K (.ref cda) qn = true ∧
    K.lookup cda = some ⟨c1, d1, .fields vs, s1⟩ ∧ vs[2]? = some (.str file tf) ∧ ((P.main.file : Str) == file) = true ∧ K.lookup cc = some ⟨c2, d2, .cell (some (.ref C)), s2⟩ ∧
    (∀ u v, bindArgs (ksFn "__init__" qn (iA f p1 p2) (iB f t q) (iS f) .none .none doc pm an (.ref cda) ct cc) ⟨[u, v], []⟩ = pure ([(("self" : Str), u), (f, v)] : List (Str × Value))) ∧
    (∀ env, ∃ pl, eval (iE t q) env = (do
      let ov ← attributeBase (.Call (.Name "super" (q 0)) [] [] (q 1)) "__init__" env (eval (.Call (.Name "super" (q 0)) [] [] (q 1)) env)
      standAt (q 2).atName
      let (f, first) ← holding [ov] (getMethod ov "__init__" pl)
      callWith (q 4) f first (backTo (q 4) (starEach [.Constant (.str t) 0 (q 3)] env)) []))
/-- what makes a word a field's name here -/
structure Fld (f : Str) : Prop where
  s : (f == ("self" : Str)) = false
  c : (f == ("__class__" : Str)) = false
  d : (f == ("__debug__" : Str)) = false
  g : (("super" : Str) == f) = false
  k : (("__class__" : Str) == f) = false
/-- what __init__ leaves of a fresh error at x -/
structure InitEnd (h h' : Heap) (f : Str) (x C dx : Addr) (v : Value) : Prop where
  keep : ∀ b o, b ≠ x → h.get? b = some o → h'.get? b = some o
  obj : ∃ t1 : Addr, h'.get? x = some { cls := .ref C, dict := some dx, data := .fields #[.ref t1, .none, .none, .none, .bool false, .none] }
  dbig : h.objs.size ≤ dx
  dne : dx ≠ x
  ns : h'.Ns1 dx (fun y => if y = f then some v else none)
section
variable {prog : Program} {w : World} {A : Around} {E : Value → Shared → Prop} {R : Result → Shared → Prop} {s : Shared} {K : Frag} {mg mb : Str → Option Value} {c f : Str} {C fI : Addr}
variable {h : Heap} {g : Array GenState} {d : Drawn} {t : Nat} {os : OsState}
variable {nm q : Str} {N : Addr} {bs bm : List Value} {hdct : Bool} {sn : List Str} {sub : List Value} {ab : Bool} {col : Option Bool} {dd : Option Addr} {k0 k1 k2 k3 k5 : Option Value}
theorem look_f (F : Fld f) : (iS f).names.lookup f = some .local := by
  have e := F.s
  show (match f == PySem.Str.ofString "self" with
    | true => some NameKind.local
    | false => List.lookup f [(f, NameKind.local), (PySem.Str.ofString "__class__", NameKind.free), (PySem.Str.ofString "super", NameKind.globalImplicit)]) = _
  rw [show (f == PySem.Str.ofString "self") = false from e]
  show List.lookup f ((f, NameKind.local) :: _) = _
  rw [List.lookup_cons, beq_self_eq_true]
theorem look_c (F : Fld f) : (iS f).names.lookup ("__class__" : Str) = some .free := by
  show List.lookup (PySem.Str.ofString "__class__") ((PySem.Str.ofString "self", NameKind.local) :: (f, NameKind.local) :: (PySem.Str.ofString "__class__", NameKind.free) :: _) = _
  rw [List.lookup_cons, show (PySem.Str.ofString "__class__" == PySem.Str.ofString "self") = false by decide]
  dsimp only
  rw [List.lookup_cons, show (PySem.Str.ofString "__class__" == f) = false from F.k]
  dsimp only
  rw [List.lookup_cons, beq_self_eq_true]
theorem look_s (F : Fld f) : (iS f).names.lookup ("super" : Str) = some .globalImplicit := by
  show List.lookup (PySem.Str.ofString "super") ((PySem.Str.ofString "self", NameKind.local) :: (f, NameKind.local) :: (PySem.Str.ofString "__class__", NameKind.free) :: (PySem.Str.ofString "super", NameKind.globalImplicit) :: []) = _
  rw [List.lookup_cons, show (PySem.Str.ofString "super" == PySem.Str.ofString "self") = false by decide]
  dsimp only
  rw [List.lookup_cons, show (PySem.Str.ofString "super" == f) = false from F.g]
  dsimp only
  rw [List.lookup_cons, show (PySem.Str.ofString "super" == PySem.Str.ofString "__class__") = false by decide]
  dsimp only
  rw [List.lookup_cons, beq_self_eq_true]
theorem look_self : (iS f).names.lookup ("self" : Str) = some .local := by
  show List.lookup (PySem.Str.ofString "self") ((PySem.Str.ofString "self", NameKind.local) :: _) = _
  rw [List.lookup_cons, beq_self_eq_true]
/-- ValueError.__init__ bound to the error, called -/
theorem call_bw {u e t0 : Addr} {rest : List Value} {Q : Value → Shared → Prop}
    (hC : h.get? C = some (excClassObj nm q C N bs bm hdct sn sub ab col dd k0 k1 k2 k3 k5 "ValueError.__new__")) (he : h.get? e = some (excO C t0)) (hu : h.get? u = some (kxs_mw "ValueError.__init__" e)) (hrest : rest.length ≤ sizeLine)
    (hq : ∀ h' t1, (∀ b o, b ≠ e → h.get? b = some o → h'.get? b = some o) → h'.get? e = some (excO C t1) → h.objs.size ≤ h'.objs.size → Q .none ⟨h', g, d, t, os⟩) :
    wpAny (model prog w) A (call (.ref u) rest) Q E ⟨h, g, d, t, os⟩ := by
  refine wpAny_call (codeAny_of_tree ?_)
  show wpAny _ A.in1 (callAny (.ref u) ⟨rest, []⟩) _ _ _
  simp only [callAny]
  refine wpAny_bind (wpAny_load hu ?_)
  simp only [kxs_mw, show (Value.type "method-wrapper" == Value.type "method" || Value.type "method-wrapper" == Value.type "builtin_function_or_method" || Value.type "method-wrapper" == Value.type "method-wrapper") = true by decide, if_true]
  refine W.KFB.if_so (by decide) ?_
  refine wpAny_bind (check_bound_init F.excBase_ValueError.toExcCallFacts hC he rfl ?_)
  refine wpAny_bind (wpAny_pure (wpAny_pure ?_))
  refine ⟨Code.quiet_builtin _ (by decide +kernel), codeAny_builtin F.excBase_ValueError.initEntry ?_⟩
  rw [Around.under_plainId F.excBase_ValueError.init.plain _]
  wp_walk
  refine hq _ h.objs.size (fun b o hb ho => ?_) ?_ ?_
  · rw [Heap.get?_update_other _ _ (Ne.symm hb)]
    exact Heap.get?_push_of_some _ ho
  · rw [Heap.get?_update_self _ (Heap.get?_push_of_some _ he) rfl]
    rfl
  · first
      | (simp [Heap.size_push]; done)
      | (rw [Heap.size_update, Heap.size_push]; exact Nat.le_succ _)

theorem su_init (T : ExT prog K mg c f C fI) (Fl : Fld f) {x t0 : Addr} {v : Value} (X : K.In s.heap) (hg : s.heap.Ns mainGlobals mg) (hb : s.heap.Ns builtinsNs mb) (hbs : mb "super" = some (.type "super")) (hlim : s.heap.NoLimit) (hx : s.heap.get? x = some (excO C t0)) (hnx : K.lookup x = none)
    (hroom : A.depth < recursionLimit) (hq : ∀ h' tk dx, InitEnd s.heap h' f x C dx v → R (.ok (.ret .none)) { s with heap := h', toks := tk }) :
    codeAny (model prog w) A (.call (.ref fI) ⟨[.ref x, v], []⟩) R s := by
  obtain ⟨oc, od, doc, pm, an, ct, osl, p1, p2, q, t, qn, cda, cc, c1, d1, vs, s1, file, tf, c2, d2, s2, ho, hcd, hcda, hvs, hfile, hcc, hbind, hev⟩ := T.fn
  obtain ⟨nm, qq, N, bs, bm, sn, sub, ab, col, dd, k0, k1, k2, k3, k5, hC, hbm, hal⟩ := T.cls
  have hcl : clsIn K C = some { name := nm, bases := bs, mro := .ref C :: bm, ns := N, qualname := qq, hasDict := true, slotNames := sn, subclasses := sub, abstract := ab, collection := col, hasDel := false } := by unfold clsIn; rw [hC] <;> rfl
  have bnd : BindsTo s (ksFn "__init__" qn (iA f p1 p2) (iB f t q) (iS f) .none .none doc pm an (.ref cda) ct cc) ⟨[.ref x, v], []⟩ ([(("self" : Str), .ref x), (f, v)] : List (Str × Value)) := by
    exact BindsTo.of_eq (hbind _ _)
  refine ks_codeAny_call_defAt (fd := ksFn "__init__" qn (iA f p1 p2) (iB f t q) (iS f) .none .none doc pm an (.ref cda) ct cc) (body := iB f t q) (binds := ([(("self" : Str), .ref x), (f, v)] : List (Str × Value))) hroom (X _ _ ho) rfl hlim (codeRec_of X hcd) rfl bnd ?_ ?_ (fun h₁ hns k₁ => ?_) rfl rfl rfl
  · intro y hy
    rcases List.mem_cons.mp hy with rfl | hy
    · exact fun z => by cases z
    rcases List.mem_cons.mp hy with rfl | hy
    · exact fun z => by cases z
    rcases List.mem_cons.mp hy with rfl | hy
    · exact fun z => by cases z
    rcases List.mem_cons.mp hy with rfl | hy
    · exact fun z => by cases z
    · cases hy
  · intro y hy
    rcases List.mem_cons.mp hy with rfl | hy
    · exact look_self
    rcases List.mem_cons.mp hy with rfl | hy
    · exact look_f Fl
    · cases hy
  show _root_.PySem.wpAt _ _ (.func (iB f t q) (ksEnv qn (iS f) s.heap.objs.size fI (.ref cda) cc)) (execs (iB f t q) (ksEnv qn (iS f) s.heap.objs.size fI (.ref cda) cc)) _ _ _
  have X₁ : K.In h₁ := X.keeps k₁
  have hx₁ := k₁ _ _ hx
  obtain ⟨oL, es, ep, hL, hmL⟩ := hns
  have hns : h₁.Ns s.heap.objs.size (fun y => List.lookup y ([((("self" : Str)), Value.ref x), (f, v)] : List (Str × Value)).reverse) := ⟨oL, es, ep, hL, hmL⟩
  obtain ⟨pl, hev⟩ := hev (ksEnv qn (iS f) s.heap.objs.size fI (.ref cda) cc)
  have v1 : List.lookup ("self" : Str) ([(f, v), (("self" : Str), Value.ref x)] : List (Str × Value)) = some (.ref x) := by
    rw [List.lookup_cons]
    have e : (("self" : Str) == f) = false := by
      have := Fl.s
      simp only [beq_eq_false_iff_ne, ne_eq] at this ⊢
      exact fun z => this z.symm
    rw [e]
    dsimp only
    rw [List.lookup_cons, beq_self_eq_true]
  have v2 : List.lookup f ([(f, v), (("self" : Str), Value.ref x)] : List (Str × Value)) = some v := by
    rw [List.lookup_cons, beq_self_eq_true]
  refine ks_wpAt_execs_cons (ks_wpAt_Expr_any (ks_wpAt_MethodCall ?_ hev))
  refine ks_wpAt_super_base (env := ksEnv qn (iS f) s.heap.objs.size fI (.ref cda) cc) (look_s Fl) (look_c Fl) (by decide) rfl (X₁ _ _ ho) rfl rfl rfl (X₁ _ _ hcda) rfl hvs hfile T.top ?_
  refine ks_loadName_global rfl (look_s Fl) (loadGlobal_builtin (env := ksEnv qn (iS f) s.heap.objs.size fI (.ref cda) cc) (hg.keeps k₁) T.noS (hb.keeps k₁) hbs ⟨rfl, ?_⟩)
  refine wpAny_loadName_free rfl (look_c Fl) (show List.lookup ("__class__" : Str) [("__class__", cc)] = some cc by rw [List.lookup_cons, beq_self_eq_true]) (v := .ref C) ⟨_, X₁ _ _ hcc, rfl⟩ ?_
  refine wpAny_loadName_local rfl look_self hns v1 ?_
  refine ks_wpAny_isType_cls (X₁ _ _ hC) rfl ⟨rfl, ?_⟩
  refine ks_wpAny_call_super (X₁ _ _ hC) rfl hx₁ rfl (fun z e => by cases e) (looks_mroIn X₁ T.subC) (fun h₂ hso k₂ => ?_)
  have X₂ : K.In h₂ := X₁.keeps k₂
  have I₂ : W.InstAt h₂ x (excO C t0) C none := ⟨k₂ _ _ hx₁, rfl, rfl, trivial⟩
  refine kxs_getMethod kxs_ValueError (l := bm) hso (looks_opaque X₂ T.opq) (l₀ := .ref C :: bm) ?_ ?_ X₂ hal (I₂.type.andThen (looks_subIn X₂ T.vC)) (ks_ne X₂ I₂ hcl) (by decide) ?_
  · exact fun A Q E s k q => wpAny_bind ((looks_clsIn X₂ hcl) A _ E s k (wpAny_pure q))
  · rw [List.dropWhile_cons, if_neg (by simp)]
    rfl
  have k₃ : ∀ b o, h₂.get? b = some o → (h₂.push (kxs_mw "ValueError.__init__" x)).get? b = some o := fun b o e => Heap.get?_push_of_some _ e
  have hu : (h₂.push (kxs_mw "ValueError.__init__" x)).get? h₂.objs.size = some (kxs_mw "ValueError.__init__" x) := Heap.get?_push_at rfl rfl
  refine kxs_callWith (i := "ValueError.__init__") (x := x) rfl (evalArgs_plain (spliced_cons (Constant_str (k := 0) (pos := q 3) (spliced_nil ⟨hu, ?_⟩))))
  have X₃ : K.In (h₂.push (kxs_mw "ValueError.__init__" x)) := X₂.keeps k₃
  have hx₃ := k₃ _ _ (k₂ _ _ hx₁)
  have xL : s.heap.objs.size ≠ x := Nat.ne_of_gt (Heap.lt_size hx)
  refine call_bw (X₃ _ _ hC) hx₃ hu ?_ (fun h₄ t1 k₄ hx₄ _ => ?_)
  · show [_].length ≤ sizeLine
    rw [sizeLine_eq]
    exact (by decide : 1 ≤ 16777216)
  -- self.f = f
  have hL₄ := k₄ _ _ xL (k₃ _ _ (k₂ _ _ hL))
  have hns₄ : h₄.Ns s.heap.objs.size (fun y => List.lookup y ([((("self" : Str)), Value.ref x), (f, v)] : List (Str × Value)).reverse) := ⟨oL, es, ep, hL₄, hmL⟩
  have X₄ : K.In h₄ := fun b o e => k₄ b o (fun z => by rw [z, hnx] at e; cases e) (X₃ b o e)
  refine ks_wpAt_execs_cons (wpAt_of_wpAny (plainObj_wpAny_Assign_Attribute ?_))
  have ld : ∀ {y : Str} {u : Value} {pos : Pos} {Q : Value → Shared → Prop} {A' : Around} {E' : Value → Shared → Prop} {s' : Shared}, s'.heap = h₄ → (y == ("__debug__" : Str)) = false → (iS f).names.lookup y = some .local → List.lookup y ([(f, v), (("self" : Str), Value.ref x)] : List (Str × Value)) = some u → Q u s' →
      wpAny (model prog w) A' (eval (.Name y pos) (ksEnv qn (iS f) s.heap.objs.size fI (.ref cda) cc)) Q E' s' := fun {y u pos Q A' E' s'} e1 e2 e3 e4 e5 =>
    wpAny_Name (wpAny_loadName_local rfl e3 (by rw [e1]; exact hns₄) e4 e5) e2
  refine ld rfl Fl.d (look_f Fl) v2 (ld rfl (by decide) look_self v1 ?_)
  refine set_plain X₄ (ox := excO C t1) (od := none) ⟨hx₄, rfl, rfl, trivial⟩ T.sa ?_
  refine exc_osa X₄ hx₄ hcl (show refsVE (.ref C :: bm) = true from hbm) rfl T.noN (fun h₅ tk₅ dx k₅ dn dne hx₅ hn₅ => ?_)
  refine wpAt_of_wpAny ?_
  show wpAny _ _ (execs [] _) _ _ _
  refine wpAny_execs_nil (hq h₅ tk₅ dx ⟨fun b o hb e => ?_, ⟨_, hx₅⟩, ?_, dne, hn₅⟩)
  · exact k₅ b o hb (k₄ b o hb (k₃ b o (k₂ b o (k₁ b o e))))
  · exact Nat.le_of_lt (Nat.lt_of_lt_of_le (Heap.lt_size hL₄) dn)
end
end MiX
end PySem
namespace Mi
open PySem PySem.Spec PyProof.Rows L2 PySem.MiX
theorem relO_fld {f : Str} {v : V} {v' : Value} (r : RelV v v') (g : Str) : RelO (List.lookup g [(f, v)]) (if g = f then some v' else none) := by
  by_cases hw : g = f
  · subst hw
    rw [if_pos rfl]
    have q : List.lookup g [(g, v)] = some v := by rw [List.lookup_cons, beq_self_eq_true]
    rw [q]
    exact r
  · rw [if_neg hw]
    have qw : (g == f) = false := by simpa using hw
    have q2 : List.lookup g [(f, v)] = none := by rw [List.lookup_cons, qw]; rfl
    rw [q2]
    trivial
section
variable {X : Cx} {c f : Str} {C fI : Addr}
/-- C(e) -/
def tMkX (C : Addr) (f : Str) (ta : TA) : St → Hp → XK → Prop := fun σ H Q => ta σ H fun vs H1 => ∃ v, vs = [v] ∧ ∀ d, H1 d = none → Q (.ref C) (some d) (upd H1 d (.xd [(f, v)]))
theorem pmk_ex {a : Expr} {ta : TA} {p pos : Pos} {k : Nat} (T : ExT X.prog X.K X.mg c f C fI) (Fl : Fld f) (hr : Room k X.A) (ha : PA X [a] ta) (hg : Gl X c) (hdb : (c == ("__debug__" : Str)) = false := by decide)
    (he : starEach (a :: []) X.env = (false, eval a X.env) :: starEach [] X.env := by rfl) (hpl : (backTo pos (starEach [] X.env)).any (·.1) = false := by rfl) :
    PMk X (.Call (.Name c p) [a] [] pos) (tMkX C f ta) := by
  intro pins s σ H Q I h
  refine wpAny_Call_Name_kw (ld_glob I hg T.gC ?_ hdb)
  refine PySem.W.callWith_K (h₀ := X.base) I.ok.mod.kin T.kC (thn (ha.run pos pins s σ H _ I h) fun us s1 hh => ?_) he hpl
  obtain ⟨vs, H1, I1, r1, v, ev, q1⟩ := hh
  subst ev
  refine ⟨I1.kIn, ?_⟩
  cases r1 with
  | cons rv rn =>
    rename_i v' us'
    cases rn
    show wpAny _ _ (call (.ref C) [v']) _ _ _
    have hlim := I1.nolimit
    obtain ⟨mb, hb1, hb2⟩ := I1.mod.blt
    have hgl : s1.heap.Ns mainGlobals X.mg := I1.mod.glob.keeps I1.bk
    have hbl : s1.heap.Ns builtinsNs mb := hb1.keeps I1.bk
    have hbs : mb "super" = some (.type "super") := (hb2 "super" (by decide)).trans (by first | boot_by_name | rfl | kernel_rfl)
    obtain ⟨hp, g, dr, tk, os⟩ := s1
    obtain ⟨nm, q, N, bs, bm, sn, sub, ab, col, dd, k0, k1, k2, k3, k5, hC, hbm, hal⟩ := T.cls
    have X1 : X.K.In hp := I1.kIn
    have kp : ∀ b o, hp.get? b = some o → ((hp.push (PySem.W.kdv_tup [v'])).push (PySem.HandSPX.excO C hp.objs.size)).get? b = some o := fun b o e => Heap.get?_push_of_some _ (Heap.get?_push_of_some _ e)
    have hget : ((hp.push (PySem.W.kdv_tup [v'])).push (PySem.HandSPX.excO C hp.objs.size)).get? (hp.objs.size + 1) = some (PySem.HandSPX.excO C hp.objs.size) := by heap_get
    have hnx : X.K.lookup (hp.objs.size + 1) = none := by
      cases e : X.K.lookup (hp.objs.size + 1) with
      | none => rfl
      | some o =>
        have z : hp.get? (hp.objs.size + 1) = some o := X1 _ _ e
        exact absurd (Nat.lt_of_succ_lt (Heap.lt_size z)) (Nat.lt_irrefl _)
    refine wpAny_call (PySem.HandSPX.call_own F.excBase_ValueError (fun Y => PySem.HandSPX.refsVE_contains Y bm hbm) (X1 _ _ hC) (PySem.W.looks_findIn X1 T.iC) (fun self => PySem.W.bind_fn X1 self T.tC) (by show [_].length ≤ sizeLine; rw [sizeLine_eq]; exact (by decide : 1 ≤ 16777216)) ?_)
    refine su_init (s := ⟨(hp.push (PySem.W.kdv_tup [v'])).push (PySem.HandSPX.excO C hp.objs.size), g, dr, tk, os⟩) T Fl (X1.keeps kp) (hgl.keeps kp) (hbl.keeps kp) hbs (hlim.keeps kp) hget hnx ?_ fun h' tk' d ⟨k', ⟨t1, hx⟩, dn, dne, hns⟩ => ?_
    · show X.A.depth + 1 < recursionLimit
      have := hr.dp
      omega
    refine ⟨rfl, ?_⟩
    show MkP X pins σ Q (.ref (hp.objs.size + 1)) ⟨h', g, dr, tk', os⟩
    have old0 : ∀ b o, hp.get? b = some o → h'.get? b = some o := fun b o e => k' b o (Nat.ne_of_lt (Nat.lt_succ_of_lt (Heap.lt_size e))) (kp b o e)
    have dbig : hp.objs.size ≤ d := by
      have z : hp.objs.size + 1 + 1 ≤ d := by
        first
          | (simpa only [Heap.size_push] using dn)
          | exact dn
          | (have q := dn; rw [Heap.size_push, Heap.size_push] at q; exact q)
      omega
    obtain ⟨G', g1, g2⟩ := restrict h' fun b => decide (b ≠ hp.objs.size + 1)
    have gk : ∀ b, b ≠ hp.objs.size + 1 → G'.get? b = h'.get? b := fun b hb => g1 b (decide_eq_true hb)
    have ge : G'.get? (hp.objs.size + 1) = none := g2 _ (by simp)
    have old : ∀ b o, hp.get? b = some o → G'.get? b = some o := fun b o q => (gk b (Nat.ne_of_lt (Nat.lt_succ_of_lt (Heap.lt_size q)))).trans (old0 b o q)
    have ob : ObjOk X.prog X.w (upd H1 d (.xd [(f, v)])) G' d (.xd [(f, v)]) :=
      ⟨_, hns.at (fun o q => (gk d dne).trans q), fun y => relO_fld rv y⟩
    have J : Inv X pins σ (upd H1 d (.xd [(f, v)])) ⟨G', g, dr, tk', os⟩ := I1.laid (t' := tk') old dbig ob
    refine ⟨hp.objs.size + 1, _, _, ⟨G', g, dr, tk', os⟩, _, .ref C, some d, rfl, J, fun b o q => ?_, ge, hx, ⟨rfl, rfl⟩, rfl, rfl, ?_, rfl, I1.bare, raises_own T.exC T.tyC, q1 d (I1.hok.fresh dbig)⟩
    · by_cases hb : b = hp.objs.size + 1
      · have q' : G'.get? b = some o := q
        rw [hb, ge] at q'; cases q'
      · exact (gk b hb).symm.trans q
    · rw [upd_ne (Ne.symm dne)]
      exact I1.hok.fresh (Nat.le_succ _)
end
/-! ### raise C(e) -/
def mRaise (c f : Str) (ms : AM) : SM := fun ρ => (ms ρ).st fun vs ρ => match vs with
  | [.d d] => .ex ⟨c, [(f, d)]⟩ ρ
  | _ => .bad
theorem ms_raise {X : Cx} {W : WX} {c f : Str} {C fI : Addr} {a : Expr} {ms : AM} {p pos pos2 : Pos} {k : Nat} (T : ExT X.prog X.K X.mg c f C fI) (Fl : Fld f) (hc : X.calm = true) (tk : Takes X W) (hr : Room k X.A) (ha : MA X W [a] ms) (hg : Gl X c)
    (hdb : (c == ("__debug__" : Str)) = false := by decide) (he : starEach (a :: []) X.env = (false, eval a X.env) :: starEach [] X.env := by rfl) (hpl : (backTo pos (starEach [] X.env)).any (·.1) = false := by rfl) :
    MS X W (.Raise (some (.Call (.Name c p) [a] [] pos)) none pos2) (mRaise c f ms) :=
  MS.weak (ps_raise hc tk (pmk_ex T Fl hr ha hg hdb he hpl)) fun {σ H D G F ρ} S g => subA S (Gd.st g fun vs ρ1 F1 H1 xs S1 e1 r1 k1 => by
    cases r1 with
    | nil => exact k1.elim
    | cons rv rr =>
      cases rr with
      | cons r2 r3 =>
        cases rv <;> exact k1.elim
      | nil =>
        cases rv with
        | o h => exact k1.elim
        | d rd =>
          rename_i x d
          refine ⟨_, rfl, fun a ha => ?_⟩
          have ex := Ext.new (u := HO.xd [(f, x)]) S1.fh ha
          have k2 : ∀ σ, Raised X.K X.mg W G F1 σ ⟨c, [(f, d)]⟩ ρ1 := k1
          exact k2 σ _ _ C a _ T.gC (S1.ext ex) ex.ff upd_same (.cons (rd.mono ex.ff) .nil))
end Mi
set_option Elab.async false
set_option linter.all false
set_option maxRecDepth 100000
set_option maxHeartbeats 2000000
/-! Mi, part K: try, what the suite asks of the caught error, isinstance. -/
namespace Mi
open PySem PySem.Spec PyProof.Rows L2 PySem.MiX
/-- the caught error: its address, its dict's, its class -/
structure Ck where
  a : Addr
  d : Addr
  c : Str
/-- behind the suite the clause's name goes -/
def goneS (i : Nat) (ρ : En) (k : En → SR) : SR := if canSet ρ i then k (ρ.set i .un) else .bad
def unslot (i : Nat) : SR → SR
  | .nx ρ => goneS i ρ .nx
  | .bk ρ => goneS i ρ .bk
  | .ct ρ => goneS i ρ .ct
  | .rt r ρ => goneS i ρ (.rt r)
  | .ex _ _ => .bad
  | .bad => .bad
def mSuite (i : Nat) (ms : Ck → SM) (k : Ck) (x : Xc) : SM := fun ρ => if canSet ρ i then unslot i (ms k (ρ.set i (.val (.exc k.a k.d x.c x.fs)))) else .bad
def mTry (cat : List (Str × Bool)) (i : Nat) (mb : SM) (ms : Ck → SM) : SM := fun ρ => match mb ρ with
  | .ex x ρ1 => (match cat.lookup x.c with
    | some true => mSuite i ms ⟨0, 0, x.c⟩ x ρ1
    | some false => .ex x ρ1
    | none => .bad)
  | r => r
abbrev W0F : WX := fun _ _ _ _ => False
section
variable {K : PySem.W.Frag} {mg : Str → Option Value} {W : WX} {F F' H H' : Hp} {G : Gh} {σ : St} {ρ : En}
theorem Sat.gone (S : Sat K mg G F H σ ρ) {i : Nat} (h : canSet ρ i = true) : Sat K mg G F H (σ.set i none) (ρ.set i .un) := by
  obtain ⟨hi, hio⟩ := canSet_ok h
  exact S.put hi hio (.inl rfl)
/-- the ends of a suite -/
abbrev gEnds (i : Nat) (D : Ends) : Ends := { nx := fun σ' H' => D.nx (σ'.set i none) H', rt := D.rt, bk := fun σ' H' => D.bk (σ'.set i none) H', ct := fun σ' H' => D.ct (σ'.set i none) H' }
theorem suite_fin {i : Nat} {r : SR} {D : Ends} (h : SGd K mg W G F (unslot i r) D) : SGd K mg W0F G F r (gEnds i D) := by
  cases r with
  | nx ρ =>
    intro F2 H2 σ2 S2 e2
    dsimp only [unslot, goneS] at h
    by_cases c : canSet ρ i = true
    · rw [if_pos c] at h
      exact h F2 H2 _ (S2.gone c) e2
    · rw [if_neg c] at h
      exact h.elim
  | bk ρ =>
    intro F2 H2 σ2 S2 e2
    dsimp only [unslot, goneS] at h
    by_cases c : canSet ρ i = true
    · rw [if_pos c] at h
      exact h F2 H2 _ (S2.gone c) e2
    · rw [if_neg c] at h
      exact h.elim
  | ct ρ =>
    intro F2 H2 σ2 S2 e2
    dsimp only [unslot, goneS] at h
    by_cases c : canSet ρ i = true
    · rw [if_pos c] at h
      exact h F2 H2 _ (S2.gone c) e2
    · rw [if_neg c] at h
      exact h.elim
  | rt v ρ =>
    intro F2 H2 σ2 x S2 e2 r2 n2
    dsimp only [unslot, goneS] at h
    by_cases c : canSet ρ i = true
    · rw [if_pos c] at h
      refine h F2 H2 _ x (S2.gone c) e2 r2 fun a ea ew j hj hs => ?_
      obtain ⟨ne, hj'⟩ := isOw_set hj rfl
      rw [List.getElem?_set_ne (Ne.symm ne)] at hs
      exact n2 a ea ew j hj' hs
    · rw [if_neg c] at h
      exact h.elim
  | ex _ _ => exact h.elim
  | bad => exact h.elim
end
section
variable {X : Cx} {W : WX}
/-- try: body / except x as n: suite -/
theorem ms_try {x n : Str} {cv : Value} {i : Nat} {cat : List (Str × Bool)} {body suite : List Stmt} {b₀ : Stmt} {np pos pos' : Pos} {mb : SM} {ms : Ck → SM} (hs : X.stack = X.env :: X.outer) (hf : X.env.frame = some X.env.locals) (hN : X.N.Nodup) (hi : X.N[i]? = some n)
    (hln : X.env.kindOf n = some .local) (hc : Names X x cv) (tk : Takes X W) (hcat : ∀ c b C, cat.lookup c = some b → X.mg c = some (.ref C) → PySem.W.exmOne X.K (.ref C) cv = some b) (hpar : ∀ k x ρ, x.c = k.c → mSuite i ms k x ρ = mSuite i ms ⟨0, 0, x.c⟩ x ρ)
    (hb : ∀ (W' : WX) (pn : List (Addr × Obj)) (xe : Value → Shared → Prop), Takes (X.tr pn xe) W' → PassesOwn (model X.prog X.w) X.A X.env xe → MSs (X.tr pn xe) W' body mb)
    (hsu : ∀ (k : Ck) (C : Addr) (oe : Obj) (pn : List (Addr × Obj)), X.mg k.c = some (.ref C) → Zc (.ref C) (some k.d) oe → (∃ vs, oe.data = .fields vs) → MSs (X.suite k.a ((k.a, oe) :: pn)) W0F (b₀ :: suite) (ms k)) :
    MS X W (.Try body [.ExceptHandler (some (.Name x np)) (some n) (b₀ :: suite) pos'] [] [] pos) (mTry cat i mb ms) := by
  refine MS.weak (ps_try_as (i := i) (tb := fun W' => tS X.K X.mg W' mb) (ts := fun a cls d D σ H => ∃ c dd C, cls = .ref C ∧ d = some dd ∧ X.mg c = some (.ref C) ∧ tS X.K X.mg W0F (ms ⟨a, dd, c⟩) D σ H) (Wout := W) hs hf hN hi hln hc tk hb ?_) ?_
  · intro a oe cls d pn hz hfv
    refine ⟨fun pins s σ H D I h => ?_⟩
    obtain ⟨c, dd, C, rfl, rfl, hm, h⟩ := h
    exact (hsu ⟨a, dd, c⟩ C oe pn hm hz hfv).run pins s σ H D I h
  · intro σ H D G F ρ S g
    refine ⟨G, F, ρ, S, ?_⟩
    unfold mTry at g
    cases q : mb ρ with
    | nx ρ1 => rw [q] at g; exact g
    | bk ρ1 => rw [q] at g; exact g
    | ct ρ1 => rw [q] at g; exact g
    | rt v ρ1 => rw [q] at g; exact g
    | bad => rw [q] at g; exact g
    | ex y ρ1 =>
      rw [q] at g
      dsimp only at g
      intro σ1 F1 H1 C d fs hC S1 e1 hd rf
      cases q2 : cat.lookup y.c with
      | none =>
        rw [q2] at g
        exact g.elim
      | some b =>
        rw [q2] at g
        refine ⟨b, hcat _ _ _ q2 hC, fun hb a ha => ?_, fun hb => ?_⟩
        · subst hb
          dsimp only at g
          have g2 : SGd X.K X.mg W G F (mSuite i ms ⟨a, d, y.c⟩ y ρ1) D := by
            rw [hpar ⟨a, d, y.c⟩ y ρ1 rfl]
            exact g
          unfold mSuite at g2
          by_cases c : canSet ρ1 i = true
          · rw [if_pos c] at g2
            obtain ⟨hi1, hio⟩ := canSet_ok c
            have S2 := S1.put (x := some (V.ref a)) (s := .val (.exc a d y.c y.fs)) hi1 hio (.inr ⟨_, rfl, Rp.exc hC hd rf⟩)
            exact ⟨y.c, d, C, rfl, rfl, hC, subS S2 (suite_fin (SGd.mono e1 g2))⟩
          · rw [if_neg c] at g2
            exact g2.elim
        · subst hb
          exact g σ1 F1 H1 C d fs hC S1 e1 hd rf
end

/-! ### caught.f -/
def fldD : List (Str × D) → Str → Option D
  | [], _ => none
  | (g, d) :: r, f => if f = g then some d else fldD r f
def mXf (tbl : List (Str × Str)) (k : Ck) (f : Str) (m : EM) : EM := fun ρ => (m ρ).bind fun v ρ => match v.fz.get ρ with
  | some (.exc a d c fs) => if a = k.a ∧ d = k.d ∧ c = k.c ∧ (tbl.contains (c, f)) = true then (match fldD fs f with
    | some y => .ok (.d y) ρ
    | none => .bad) else .bad
  | _ => .bad
section
variable {K : PySem.W.Frag} {mg : Str → Option Value} {W : WX} {F F' H H' : Hp} {G : Gh} {σ : St} {ρ : En}
theorem RpF.look : ∀ {fs : List (Str × V)} {ds : List (Str × D)} {f : Str} {y : D}, RpF K mg F fs ds → fldD ds f = some y → ∃ v, fs.lookup f = some v ∧ Rp K mg F v y
  | _, _, _, _, .nil, h => by cases h
  | _, _, f, y, .cons (k := g) (v := v) r t, h => by
    unfold fldD at h
    by_cases e : f = g
    · rw [if_pos e] at h
      cases h
      subst e
      exact ⟨v, by rw [List.lookup_cons, beq_self_eq_true], r⟩
    · rw [if_neg e] at h
      obtain ⟨w, h1, h2⟩ := RpF.look t h
      exact ⟨w, by rw [List.lookup_cons, show (f == g) = false by simpa using e]; exact h1, h2⟩
theorem RpI.exc {x : V} {a d : Addr} {c : Str} {fs : List (Str × D)} (h : RpI K mg F H x (.exc a d c fs)) : ∃ C vs, x = .ref a ∧ mg c = some (.ref C) ∧ F d = some (.xd vs) ∧ RpF K mg F vs fs := by
  generalize hd : D.exc a d c fs = y at h
  cases h with
  | fz r =>
    cases r with
    | exc h1 h2 h3 =>
      cases hd
      exact ⟨_, _, rfl, h1, h2, h3⟩
    | _ => cases hd
  | own o =>
    cases o with
    | _ => cases hd
end
section
variable {X : Cx}
/-- what the written part says of the classes and fields that suites read -/
structure XfT (K : PySem.W.Frag) (mg : Str → Option Value) (tbl : List (Str × Str)) : Prop where
  ok : ∀ c f C, tbl.contains (c, f) = true → mg c = some (.ref C) → XfC K C ∧ PySem.W.findIn K (.ref C) f = some none
theorem me_xf {tbl : List (Str × Str)} {k : Ck} {C : Addr} {oe : Obj} {pn : List (Addr × Obj)} {W : WX} {e : Expr} {m : EM} {f : Str} {pos : Pos} (T : XfT X.K X.mg tbl) (hm : X.mg k.c = some (.ref C)) (hz : Zc (.ref C) (some k.d) oe) (hf : ∃ vs, oe.data = .fields vs)
    (he : ME (X.suite k.a ((k.a, oe) :: pn)) W e m) (hb : attributeBase e f X.env (eval e X.env) = eval e X.env := by rfl) :
    ME (X.suite k.a ((k.a, oe) :: pn)) W (.Attribute e f pos) (mXf tbl k f m) := by
  rcases (Bool.eq_false_or_eq_true (tbl.contains (k.c, f))) with ht | ht
  · obtain ⟨t1, t2⟩ := T.ok k.c f C ht hm
    refine ME.weak (pe_xf t1 t2 hz hf he hb) fun {σ H Q G F ρ} S g => sub S (Gd.bind g fun v ρ1 F1 H1 x _ S1 e1 r1 k1 => ?_)
    cases q : v.fz.get ρ1 with
    | none =>
      rw [q] at k1
      exact k1.elim
    | some y =>
      rw [q] at k1
      cases y with
      | exc a d c fs =>
        dsimp only at k1
        by_cases hc : a = k.a ∧ d = k.d ∧ c = k.c ∧ tbl.contains (c, f) = true
        · rw [if_pos hc] at k1
          obtain ⟨rfl, rfl, rfl, _⟩ := hc
          cases q2 : fldD fs f with
          | none =>
            rw [q2] at k1
            exact k1.elim
          | some z =>
            rw [q2] at k1
            obtain ⟨F2, e2, S2, r2⟩ := S1.fz r1
            obtain ⟨C2, vs, rfl, h1, h2, h3⟩ := (S2.get r2 q).exc
            obtain ⟨y, h4, h5⟩ := h3.look q2
            exact ⟨rfl, rfl, _, _, y, rfl, S2.fh _ _ h2, h4, k1 F2 H1 y S2 e2 (.d h5)⟩
        · rw [if_neg hc] at k1
          exact k1.elim
      | _ => exact k1.elim
  · refine ⟨fun pins s σ H Q I ⟨G, F, ρ, S, g⟩ => attr_of hb (thn (he.run pins s σ H (fun _ _ => False) I (sub S (Gd.bind g fun v ρ1 F1 H1 x _ S1 e1 r1 k1 => ?_))) fun u s1 ⟨x, H1, I1, rx, q⟩ => q.elim)⟩
    cases q : v.fz.get ρ1 with
    | none =>
      rw [q] at k1
      exact k1.elim
    | some y =>
      rw [q] at k1
      cases y with
      | exc a d c fs =>
        dsimp only at k1
        by_cases hc : a = k.a ∧ d = k.d ∧ c = k.c ∧ tbl.contains (c, f) = true
        · obtain ⟨_, _, e3, e4⟩ := hc
          rw [e3, ht] at e4
          cases e4
        · rw [if_neg hc] at k1
          exact k1.elim
      | _ => exact k1.elim
end
end Mi
set_option Elab.async false
set_option linter.all false
set_option maxRecDepth 100000
set_option maxHeartbeats 2000000
/-! Mi, part L: isinstance. -/
namespace Mi
open PySem PySem.Spec PyProof.Rows L2 PySem.MiX
theorem kitAny_one {K : PySem.W.Frag} {t u : Value} {b : Bool} (h : PySem.W.kitAny K t [u] = some b) : PySem.W.kitOne K t u = some b := by
  unfold PySem.W.kitAny at h
  cases q : PySem.W.kitOne K t u with
  | none =>
    rw [q] at h
    cases h
  | some c =>
    rw [q] at h
    cases c with
    | true => exact h
    | false => exact h
/-- what isinstance asks of an own class of plain objects -/
structure ObC (K : PySem.W.Frag) (C : Addr) : Prop where
  cl : Cls K C
  ha : PySem.W.findIn K (.ref C) "__class__" = some (some (.builtin "object.__class__"))
  hn : PySem.W.specialIn K (.builtin "object.__class__") "__get__" = some (some (.builtin "getset_descriptor.__get__"))
  ht : PySem.W.takesIn K (.builtin "object.__class__") = some true
  hm : PySem.W.mroIn K C (.type "object") = some true
/-- a test of data by its kind -/
structure Tst where
  nn : Bool
  bb : Bool
  ii : Bool
  ss : Bool
  tt : Bool
  ll : Bool
  dd : Bool
  ob : List (Str × Bool)
def Tst.of (t : Tst) : D → Option Bool
  | .non => some t.nn
  | .bl _ => some t.bb
  | .int _ => some t.ii
  | .str _ => some t.ss
  | .tup _ => some t.tt
  | .lst _ => some t.ll
  | .frl _ => some t.ll
  | .dk _ => some t.dd
  | .dt _ => some t.dd
  | .obj c _ => t.ob.lookup c
  | .exc _ _ _ _ => none
structure TstOk (K : PySem.W.Frag) (mg : Str → Option Value) (us : List Value) (t : Tst) : Prop where
  nn : PySem.W.kitAny K (.type "NoneType") us = some t.nn
  bb : PySem.W.kitAny K (.type "bool") us = some t.bb
  ii : PySem.W.kitAny K (.type "int") us = some t.ii
  ss : PySem.W.kitAny K (.type "str") us = some t.ss
  tt : PySem.W.kitAny K (.type "tuple") us = some t.tt
  ll : PySem.W.kitAny K (.type "list") us = some t.ll
  dd : PySem.W.kitAny K (.type "dict") us = some t.dd
  ob : ∀ c b C, t.ob.lookup c = some b → mg c = some (.ref C) → ObC K C ∧ PySem.W.kitAny K (.ref C) us = some b
section
variable {K : PySem.W.Frag} {mg : Str → Option Value} {W : WX} {F F' H H' : Hp} {G : Gh} {σ : St} {ρ : En}
theorem TstOk.at {us : List Value} {t : Tst} (T : TstOk K mg us t) (e : Same F H) {x : V} {d : D} {b : Bool} (r : RpI K mg F H x d) (h : t.of d = some b) : ∃ ty, TyX K H x ty ∧ PySem.W.kitAny K ty us = some b := by
  cases r with
  | fz r =>
    cases r with
    | non => cases h; exact ⟨_, .base .non, T.nn⟩
    | bl _ => cases h; exact ⟨_, .base (.bl _), T.bb⟩
    | int _ => cases h; exact ⟨_, .base (.int _), T.ii⟩
    | str _ => cases h; exact ⟨_, .base (.str _), T.ss⟩
    | tup h1 _ =>
      cases h
      obtain ⟨o, h2, _⟩ := h1
      exact ⟨_, .fTuple (e _ _ h2), T.tt⟩
    | lst h1 _ => cases h; exact ⟨_, .base (.lst (e _ _ h1)), T.ll⟩
    | frl h1 _ =>
      cases h
      rcases h1 with (h1 | ⟨o, h1⟩) | ⟨o, its, n, h1, h2, _⟩
      · exact ⟨_, .base (.lst (e _ _ h1)), T.ll⟩
      · exact ⟨_, .base (.frz (e _ _ h1)), T.ll⟩
      · exact ⟨_, .kList h1 h2, T.ll⟩
    | dk h1 _ => cases h; exact ⟨_, .base (.dK (e _ _ h1)), T.dd⟩
    | dt h1 _ => cases h; exact ⟨_, .base (.dT (e _ _ h1)), T.dd⟩
    | obj h1 h2 _ =>
      obtain ⟨C, k⟩ := T.ob _ _ _ h h1
      exact ⟨_, .base (.ins (e _ _ h2) C.cl C.ha C.hn C.ht C.hm), k⟩
    | exc _ _ _ => cases h
  | own o =>
    cases o with
    | lst h1 _ => cases h; exact ⟨_, .base (.lst h1), T.ll⟩
    | dk h1 _ => cases h; exact ⟨_, .base (.dK h1), T.dd⟩
    | dt h1 _ => cases h; exact ⟨_, .base (.dT h1), T.dd⟩
    | ins h1 h2 _ =>
      obtain ⟨C, k⟩ := T.ob _ _ _ h h1
      exact ⟨_, .base (.ins h2 C.cl C.ha C.hn C.ht C.hm), k⟩
end
def mIsi (t : Tst) (m : EM) : EM := fun ρ => (m ρ).bind fun v ρ => match v.fz.get ρ with
  | some d => (match t.of d with
    | some b => .ok (.d (.bl b)) ρ
    | none => .bad)
  | none => .bad
section
variable {X : Cx} {W : WX} {e ce : Expr} {ces : List Expr} {m : EM} {t : Tst} {p pos : Pos} {cv : V} {u : Value} {cvs : List V} {us : List Value}
/-- isinstance(e, C) -/
theorem me_isi (T : TstOk X.K X.mg [u] t) (hk : ClsV cv u) (he : ME X W e m) (hce : PE X ce (tC cv)) (hg : Gl X "isinstance") (hm : X.mg "isinstance" = none)
    (hs1 : starEach (ce :: []) X.env = (false, eval ce X.env) :: starEach [] X.env := by rfl) (hs : starEach (e :: ce :: []) X.env = (false, eval e X.env) :: starEach (ce :: []) X.env := by rfl) (hpl : (backTo pos (starEach [ce] X.env)).any (·.1) = false := by rfl) :
    ME X W (.Call (.Name "isinstance" p) [e, ce] [] pos) (mIsi t m) :=
  ME.weak (pe_callB call_isi hg hm (by first | boot_by_name | rfl | kernel_rfl) (pa_cons he (pa_cons hce pa_nil hs1) hs) (by decide) (by decide) hs hpl) fun {σ H Q G F ρ} S g => sub S (Gd.bind g fun v ρ1 F1 H1 x _ S1 e1 r1 k1 => by
    obtain ⟨F2, e2, S2, r2⟩ := S1.fz r1
    cases q : v.fz.get ρ1 with
    | none =>
      rw [q] at k1
      exact k1.elim
    | some d =>
      rw [q] at k1
      dsimp only at k1
      cases q2 : t.of d with
      | none =>
        rw [q2] at k1
        exact k1.elim
      | some b =>
        rw [q2] at k1
        obtain ⟨ty, h1, h2⟩ := T.at S2.fh (S2.get r2 q) q2
        exact ⟨x, cv, ty, u, b, rfl, hk, h1, kitAny_one h2, k1 F2 H1 _ S2 e2 (.d (.bl b))⟩)
/-- the values of written classes -/
def tVs : List V → TA
  | [] => tNil
  | v :: vs => tCons (tC v) (tVs vs)
theorem tVs_run {σ : St} {H : Hp} {Q : List V → Hp → Prop} : ∀ {vs : List V}, Q vs H → tVs vs σ H Q := fun {vs} h => by
  induction vs generalizing Q with
  | nil => exact h
  | cons v vs ih => exact ih (Q := fun xs H2 => Q (v :: xs) H2) h
/-- isinstance(e, (C, ..)) -/
theorem me_isiT {x1} {tpos : Pos} (T : TstOk X.K X.mg us t) (hk : Paired ClsV cvs us) (hl : cvs.length ≤ BIG) (he : ME X W e m) (hce : PA X ces (tVs cvs)) (hg : Gl X "isinstance") (hm : X.mg "isinstance" = none)
    (hs1 : starEach (.Tuple ces x1 tpos :: []) X.env = (false, eval (.Tuple ces x1 tpos) X.env) :: starEach [] X.env := by rfl) (hs : starEach (e :: .Tuple ces x1 tpos :: []) X.env = (false, eval e X.env) :: starEach (.Tuple ces x1 tpos :: []) X.env := by rfl)
    (hpl : (backTo pos (starEach [.Tuple ces x1 tpos] X.env)).any (·.1) = false := by rfl) :
    ME X W (.Call (.Name "isinstance" p) [e, .Tuple ces x1 tpos] [] pos) (mIsi t m) :=
  ME.weak (pe_callB call_isiT hg hm (by first | boot_by_name | rfl | kernel_rfl) (pa_cons he (pa_cons (pe_tup hce) pa_nil hs1) hs) (by decide) (by decide) hs hpl) fun {σ H Q G F ρ} S g => sub S (Gd.bind g fun v ρ1 F1 H1 x _ S1 e1 r1 k1 => by
    obtain ⟨F2, e2, S2, r2⟩ := S1.fz r1
    cases q : v.fz.get ρ1 with
    | none =>
      rw [q] at k1
      exact k1.elim
    | some d =>
      rw [q] at k1
      dsimp only at k1
      cases q2 : t.of d with
      | none =>
        rw [q2] at k1
        exact k1.elim
      | some b =>
        rw [q2] at k1
        refine tVs_run ⟨Nat.le_trans hl BIG_le, fun tp htp => ?_⟩
        have ex := Ext.new (u := HO.tup cvs) S2.fh htp
        have S3 := S2.ext ex
        obtain ⟨ty, h1, h2⟩ := T.at S3.fh (S3.get (r2.mono ex.ff) q) q2
        exact ⟨x, tp, cvs, ty, us, b, rfl, upd_same, hk, h1, h2, k1 _ _ _ S3 (e2.trans ex.ff) (.d (.bl b))⟩)
end

/-! ### isinstance(caught, ..) -/
def mIsE (tbl : List (Str × Bool)) (k : Ck) (m : EM) : EM := fun ρ => (m ρ).bind fun v ρ => match v.fz.get ρ with
  | some (.exc a d c fs) => if a = k.a ∧ d = k.d ∧ c = k.c then (match tbl.lookup c with
    | some b => .ok (.d (.bl b)) ρ
    | none => .bad) else .bad
  | _ => .bad
/-- what isinstance asks of an own error's class -/
structure ExC (K : PySem.W.Frag) (D : Addr) : Prop where
  hc : (PySem.W.clsIn K D).isSome = true
  hg : PySem.W.findIn K (.ref D) "__getattribute__" = some (some (.builtin "BaseException.__getattribute__"))
  hk : PySem.W.findIn K (.ref D) "__getattr__" = some none
  hs : PySem.W.subIn K (.ref D) (.type "BaseException") = some true
  ha : PySem.W.findIn K (.ref D) "__class__" = some (some (.builtin "object.__class__"))
  hn : PySem.W.specialIn K (.builtin "object.__class__") "__get__" = some (some (.builtin "getset_descriptor.__get__"))
  ht : PySem.W.takesIn K (.builtin "object.__class__") = some true
  hm : PySem.W.mroIn K D (.type "object") = some true
def rIsX (K : PySem.W.Frag) (D a d : Addr) : List V → Hp → VK → Prop := fun xs H Q => ∃ (fs : List (Str × V)) (b : Bool), H d = some (.xd fs) ∧
  ((∃ (c : V) (u : Value), xs = [.ref a, c] ∧ ClsV c u ∧ PySem.W.kitOne K (.ref D) u = some b) ∨ ∃ (tp : Addr) (cs : List V) (us : List Value), xs = [.ref a, .ref tp] ∧ H tp = some (.tup cs) ∧ Paired ClsV cs us ∧ PySem.W.kitAny K (.ref D) us = some b) ∧ Q (.bl b) H
theorem call_isX {X : Cx} {a D d : Addr} {oe : Obj} {pn : List (Addr × Obj)} (C : ExC X.K D) (hz : Zc (.ref D) (some d) oe) (hf : ∃ vs, oe.data = .fields vs) : CallR (X.suite a ((a, oe) :: pn)) (.builtin "isinstance") (rIsX X.K D a d) := by
  intro pins s σ H xs us Q I r h
  obtain ⟨fs, b, hd, h, q⟩ := h
  obtain ⟨hget, _⟩ := I.pin (a, oe) (List.mem_append.mpr (.inl List.mem_cons_self))
  obtain ⟨vs, hv⟩ := hf
  have hx : ObjOk X.prog X.w H s.heap d (.xd fs) := I.hok d _ hd
  obtain ⟨mA, hns, _⟩ := hx
  obtain ⟨od, ho, _⟩ := lookIn_ns hns
  have J : PySem.W.InstAt s.heap a oe D (some od) := ⟨hget, hz.1, by unfold PySem.W.notCls; rw [hv] <;> rfl, by rw [hz.2]; exact ho⟩
  rcases h with ⟨c, u, rfl, k, e⟩ | ⟨tp, cs, ws, rfl, hT, k, e⟩
  · obtain ⟨u1, u2, rfl, r1, r2⟩ := vals2 r
    have e2 := k.eq r2
    subst e2
    cases (show u1 = Value.ref a from r1)
    exact PySem.W.kia_one (PySem.W.kitx_exc C.hc C.hg C.hk C.hs C.ha C.hn C.ht C.hm) I.kIn J e (fun z => nomatch z) fun tk => ⟨.bl b, H, I.tok tk, rfl, q⟩
  · obtain ⟨u1, u2, rfl, r1, r2⟩ := vals2 r
    cases (show u2 = Value.ref tp from r2)
    cases (show u1 = Value.ref a from r1)
    obtain ⟨_, its, rv, o, h1, h2, n, h3⟩ := (show ObjOk X.prog X.w H s.heap tp (.tup cs) from I.hok tp _ hT)
    have e3 := ClsV.all k rv
    subst e3
    obtain ⟨oc, od', dt, sl⟩ := o
    simp only at h2 h3
    subst h2 h3
    exact PySem.W.kia_tup (PySem.W.kitx_exc C.hc C.hg C.hk C.hs C.ha C.hn C.ht C.hm) I.kIn J h1 e (fun z => nomatch z) fun tk => ⟨.bl b, H, I.tok tk, rfl, q⟩
section
variable {X : Cx} {W : WX} {e ce : Expr} {ces : List Expr} {m : EM} {p pos : Pos} {cv : V} {u : Value} {cvs : List V} {us : List Value} {k : Ck} {C : Addr} {oe : Obj} {pn : List (Addr × Obj)} {tbl : List (Str × Bool)}
/-- what the written part says of the classes that may be caught here -/
structure IsT (K : PySem.W.Frag) (mg : Str → Option Value) (tbl : List (Str × Bool)) (us : List Value) : Prop where
  ok : ∀ c b C, tbl.lookup c = some b → mg c = some (.ref C) → ExC K C ∧ PySem.W.kitAny K (.ref C) us = some b
theorem isE_fin {G : Gh} {F H : Hp} {σ : St} {ρ : En} {Q : VK} {Q' : V → Hp → Prop} (S : Sat X.K X.mg G F H σ ρ) (g : Gd X.K X.mg W (RpO X.K X.mg) G F σ (mIsE tbl k m ρ) Q)
    (kk : ∀ F1 H1 ρ1 b, tbl.lookup k.c = some b → Sat X.K X.mg G F1 H1 σ ρ1 → (∃ vs, H1 k.d = some (.xd vs)) → (∀ F2 H2, Ext F1 H1 F2 H2 → Q (.bl b) H2) → Q' (.ref k.a) H1) :
    Gd X.K X.mg W (RpO X.K X.mg) G F σ (m ρ) Q' := by
  have g' : Gd X.K X.mg W (RpO X.K X.mg) G F σ ((m ρ).bind fun v ρ => match v.fz.get ρ with
    | some (.exc a d c fs) => if a = k.a ∧ d = k.d ∧ c = k.c then (match tbl.lookup c with
      | some b => .ok (OV.d (.bl b)) ρ
      | none => .bad) else .bad
    | _ => .bad) Q := g
  refine Gd.bind g' fun v ρ1 F1 H1 x _ S1 e1 r1 k1 => ?_
  obtain ⟨F2, e2, S2, r2⟩ := S1.fz r1
  cases q : v.fz.get ρ1 with
  | none =>
    rw [q] at k1
    exact k1.elim
  | some y =>
    rw [q] at k1
    cases y with
    | exc a d c fs =>
      dsimp only at k1
      by_cases hc : a = k.a ∧ d = k.d ∧ c = k.c
      · rw [if_pos hc] at k1
        obtain ⟨rfl, rfl, rfl⟩ := hc
        cases q2 : tbl.lookup k.c with
        | none =>
          rw [q2] at k1
          exact k1.elim
        | some b =>
          rw [q2] at k1
          obtain ⟨C2, vs, rfl, h1, h2, h3⟩ := (S2.get r2 q).exc
          exact kk F2 H1 ρ1 b q2 S2 ⟨vs, S2.fh _ _ h2⟩ fun F3 H3 ex => k1 F3 H3 _ (S2.ext ex) (e2.trans ex.ff) (.d (.bl b))
      · rw [if_neg hc] at k1
        exact k1.elim
    | _ => exact k1.elim
theorem call_no {Y : Cx} {f : Value} : CallR Y f (fun _ _ _ => False) := fun _ _ _ _ _ _ _ _ _ h => h.elim
theorem me_isE (T : IsT X.K X.mg tbl [u]) (hm : X.mg k.c = some (.ref C)) (hz : Zc (.ref C) (some k.d) oe) (hf : ∃ vs, oe.data = .fields vs) (hk : ClsV cv u) (he : ME (X.suite k.a ((k.a, oe) :: pn)) W e m) (hce : PE (X.suite k.a ((k.a, oe) :: pn)) ce (tC cv))
    (hg : Gl X "isinstance") (hmi : X.mg "isinstance" = none)
    (hs1 : starEach (ce :: []) X.env = (false, eval ce X.env) :: starEach [] X.env := by rfl) (hs : starEach (e :: ce :: []) X.env = (false, eval e X.env) :: starEach (ce :: []) X.env := by rfl) (hpl : (backTo pos (starEach [ce] X.env)).any (·.1) = false := by rfl) :
    ME (X.suite k.a ((k.a, oe) :: pn)) W (.Call (.Name "isinstance" p) [e, ce] [] pos) (mIsE tbl k m) := by
  cases q0 : tbl.lookup k.c with
  | none =>
    refine ME.weak (pe_callB (X := X.suite k.a ((k.a, oe) :: pn)) call_no hg hmi (by first | boot_by_name | rfl | kernel_rfl) (pa_cons he (pa_cons hce pa_nil hs1) hs) (by decide) (by decide) hs hpl) fun {σ H Q G F ρ} S g => sub S (isE_fin (X := X) S g fun F1 H1 ρ1 b h => by rw [q0] at h; cases h)
  | some b0 =>
    obtain ⟨t1, t2⟩ := T.ok _ _ _ q0 hm
    refine ME.weak (pe_callB (X := X.suite k.a ((k.a, oe) :: pn)) (call_isX t1 hz hf) hg hmi (by first | boot_by_name | rfl | kernel_rfl) (pa_cons he (pa_cons hce pa_nil hs1) hs) (by decide) (by decide) hs hpl) fun {σ H Q G F ρ} S g => sub S (isE_fin (X := X) S g fun F1 H1 ρ1 b h S1 ⟨vs, hd⟩ kq => ?_)
    rw [q0] at h
    cases h
    exact ⟨vs, _, hd, .inl ⟨cv, u, rfl, hk, kitAny_one t2⟩, kq F1 H1 (Ext.refl S1.fh)⟩
theorem me_isET {x1} {tpos : Pos} (T : IsT X.K X.mg tbl us) (hm : X.mg k.c = some (.ref C)) (hz : Zc (.ref C) (some k.d) oe) (hf : ∃ vs, oe.data = .fields vs) (hk : Paired ClsV cvs us) (hl : cvs.length ≤ BIG) (he : ME (X.suite k.a ((k.a, oe) :: pn)) W e m)
    (hce : PA (X.suite k.a ((k.a, oe) :: pn)) ces (tVs cvs)) (hg : Gl X "isinstance") (hmi : X.mg "isinstance" = none)
    (hs1 : starEach (.Tuple ces x1 tpos :: []) X.env = (false, eval (.Tuple ces x1 tpos) X.env) :: starEach [] X.env := by rfl) (hs : starEach (e :: .Tuple ces x1 tpos :: []) X.env = (false, eval e X.env) :: starEach (.Tuple ces x1 tpos :: []) X.env := by rfl)
    (hpl : (backTo pos (starEach [.Tuple ces x1 tpos] X.env)).any (·.1) = false := by rfl) :
    ME (X.suite k.a ((k.a, oe) :: pn)) W (.Call (.Name "isinstance" p) [e, .Tuple ces x1 tpos] [] pos) (mIsE tbl k m) := by
  cases q0 : tbl.lookup k.c with
  | none =>
    refine ME.weak (pe_callB (X := X.suite k.a ((k.a, oe) :: pn)) call_no hg hmi (by first | boot_by_name | rfl | kernel_rfl) (pa_cons he (pa_cons (pe_tup hce) pa_nil hs1) hs) (by decide) (by decide) hs hpl) fun {σ H Q G F ρ} S g => sub S (isE_fin (X := X) S g fun F1 H1 ρ1 b h => by rw [q0] at h; cases h)
  | some b0 =>
    obtain ⟨t1, t2⟩ := T.ok _ _ _ q0 hm
    refine ME.weak (pe_callB (X := X.suite k.a ((k.a, oe) :: pn)) (call_isX t1 hz hf) hg hmi (by first | boot_by_name | rfl | kernel_rfl) (pa_cons he (pa_cons (pe_tup hce) pa_nil hs1) hs) (by decide) (by decide) hs hpl) fun {σ H Q G F ρ} S g => sub S (isE_fin (X := X) S g fun F1 H1 ρ1 b h S1 ⟨vs, hd⟩ kq => ?_)
    rw [q0] at h
    cases h
    refine tVs_run ⟨Nat.le_trans hl BIG_le, fun tp htp => ?_⟩
    have ex := Ext.new (u := HO.tup cvs) S1.fh htp
    exact ⟨vs, _, ex.hh _ _ hd, .inr ⟨tp, cvs, us, rfl, upd_same, hk, t2⟩, kq _ _ ex⟩
end
end Mi
set_option Elab.async false
set_option linter.all false
set_option maxRecDepth 100000
set_option maxHeartbeats 2000000
/-! Mi, part M: built-in functions, slices, chains, index. -/
namespace Mi
open PySem PySem.Spec PyProof.Rows L2 PySem.MiX
/-- the items of a sequence -/
def seqD : D → Option (List D)
  | .tup xs => some xs
  | .lst xs => some xs
  | .frl xs => some xs
  | _ => none
def intsD : List D → Option (List Int)
  | [] => some []
  | .int i :: r => (intsD r).map (i :: ·)
  | _ => none
def blsD : List D → Option (List Bool)
  | [] => some []
  | .bl i :: r => (blsD r).map (i :: ·)
  | _ => none
theorem intsD_eq : ∀ {ds : List D} {ns : List Int}, intsD ds = some ns → ds = ns.map D.int
  | [], _, h => by cases h; rfl
  | .int i :: r, ns, h => by
    unfold intsD at h
    obtain ⟨ms, h1, rfl⟩ := Option.map_eq_some_iff.mp h
    rw [intsD_eq h1]
    rfl
  | .non :: _, _, h => by cases h
  | .bl _ :: _, _, h => by cases h
  | .str _ :: _, _, h => by cases h
  | .tup _ :: _, _, h => by cases h
  | .lst _ :: _, _, h => by cases h
  | .frl _ :: _, _, h => by cases h
  | .dk _ :: _, _, h => by cases h
  | .dt _ :: _, _, h => by cases h
  | .obj _ _ :: _, _, h => by cases h
  | .exc _ _ _ _ :: _, _, h => by cases h
theorem blsD_eq : ∀ {ds : List D} {ns : List Bool}, blsD ds = some ns → ds = ns.map D.bl
  | [], _, h => by cases h; rfl
  | .bl i :: r, ns, h => by
    unfold blsD at h
    obtain ⟨ms, h1, rfl⟩ := Option.map_eq_some_iff.mp h
    rw [blsD_eq h1]
    rfl
  | .non :: _, _, h => by cases h
  | .int _ :: _, _, h => by cases h
  | .str _ :: _, _, h => by cases h
  | .tup _ :: _, _, h => by cases h
  | .lst _ :: _, _, h => by cases h
  | .frl _ :: _, _, h => by cases h
  | .dk _ :: _, _, h => by cases h
  | .dt _ :: _, _, h => by cases h
  | .obj _ _ :: _, _, h => by cases h
  | .exc _ _ _ _ :: _, _, h => by cases h
section
variable {K : PySem.W.Frag} {mg : Str → Option Value} {W : WX} {F F' H H' : Hp} {G : Gh} {σ : St} {ρ : En}
theorem RpI.seq {x : V} {d : D} {ds : List D} (e : Same F H) (h : RpI K mg F H x d) (hd : seqD d = some ds) : ∃ a vs, x = .ref a ∧ RpA K mg F vs ds ∧ ((SqL K H a vs ∧ ∀ xs, d ≠ .tup xs) ∨ (FT F a vs ∧ d = .tup ds)) := by
  cases h with
  | fz r =>
    cases r with
    | tup h1 r => cases hd; exact ⟨_, _, rfl, r, .inr ⟨h1, rfl⟩⟩
    | lst h1 r => cases hd; exact ⟨_, _, rfl, r, .inl ⟨.of (e _ _ h1), fun _ z => nomatch z⟩⟩
    | frl h1 r => cases hd; exact ⟨_, _, rfl, r, .inl ⟨e.seq h1, fun _ z => nomatch z⟩⟩
    | _ => cases hd
  | own o =>
    cases o with
    | lst h1 r => cases hd; exact ⟨_, _, rfl, r, .inl ⟨.of h1, fun _ z => nomatch z⟩⟩
    | _ => cases hd
theorem RpI.dk {x : V} {ds : List (Key × D)} (e : Same F H) (h : RpI K mg F H x (.dk ds)) : ∃ a vs, x = .ref a ∧ H a = some (.dK vs) ∧ RpK K mg F vs ds := by
  generalize hd : D.dk ds = d at h
  cases h with
  | fz r =>
    cases r with
    | dk h r =>
      cases hd
      exact ⟨_, _, rfl, e _ _ h, r⟩
    | _ => cases hd
  | own o =>
    cases o with
    | dk h r =>
      cases hd
      exact ⟨_, _, rfl, h, r⟩
    | _ => cases hd
theorem RpI.dt {x : V} {ds : List (List Key × D)} (e : Same F H) (h : RpI K mg F H x (.dt ds)) : ∃ a vs, x = .ref a ∧ H a = some (.dT vs) ∧ RpT K mg F vs ds := by
  generalize hd : D.dt ds = d at h
  cases h with
  | fz r =>
    cases r with
    | dt h r =>
      cases hd
      exact ⟨_, _, rfl, e _ _ h, r⟩
    | _ => cases hd
  | own o =>
    cases o with
    | dt h r =>
      cases hd
      exact ⟨_, _, rfl, h, r⟩
    | _ => cases hd
theorem RpIs.one {xs : List V} {ds : List D} {d : D} (h : RpIs K mg F H xs ds) (e : ds = [d]) : ∃ x, xs = [x] ∧ RpI K mg F H x d := by
  subst e
  cases h with
  | cons r t =>
    cases t
    exact ⟨_, rfl, r⟩
def g1 (f : D → Option D) : List D → Option D
  | [d] => f d
  | _ => none
def g1n (f : D → Option Ow) : List D → Option Ow
  | [d] => f d
  | _ => none
theorem g1_some {f : D → Option D} {ds : List D} {z : D} (h : g1 f ds = some z) : ∃ d, ds = [d] ∧ f d = some z := by
  match ds, h with
  | [d], h => exact ⟨d, rfl, h⟩
theorem g1n_some {f : D → Option Ow} {ds : List D} {z : Ow} (h : g1n f ds = some z) : ∃ d, ds = [d] ∧ f d = some z := by
  match ds, h with
  | [d], h => exact ⟨d, rfl, h⟩
/-- len -/
def dLen : D → Option D
  | .tup xs => some (.int xs.length)
  | .lst xs => some (.int xs.length)
  | .frl xs => some (.int xs.length)
  | .str x => if x.length ≤ BIG then some (.int x.length) else none
  | .dk kvs => some (.int kvs.length)
  | .dt kvs => some (.int kvs.length)
  | _ => none
abbrev rLenA (K : PySem.W.Frag) : List V → Hp → VK → Prop := fun xs H Q => (∃ x n, xs = [x] ∧ LenV K x H n ∧ Q (.int n) H) ∨ ((∃ a kvs, xs = [V.ref a] ∧ H a = some (.dK kvs) ∧ Q (.int kvs.length) H) ∨ rLenT xs H Q)
theorem call_lenA {X : Cx} : CallR X (.builtin "len") (rLenA X.K) := call_len.or (call_lenD.or call_len_dT)
theorem RpT.len : ∀ {vs : List (List Key × V)} {ds : List (List Key × D)}, RpT K mg F vs ds → vs.length = ds.length
  | _, _, .nil => rfl
  | _, _, .cons _ t => congrArg Nat.succ (RpT.len t)
theorem o_len : OpN K mg (rLenA K) (g1 dLen) := fun {F H xs ds z Q} hs r0 h q => by
  obtain ⟨d, e0, h⟩ := g1_some h
  obtain ⟨x, rfl, r⟩ := r0.one e0
  have sq : ∀ ys, seqD d = some ys → z = .int ys.length → rLenA K [x] H Q := fun ys h1 h2 => by
    obtain ⟨a, vs, rfl, ra, hq⟩ := r.seq hs h1
    subst h2
    refine .inl ⟨_, vs.length, rfl, ?_, by rw [ra.len]; exact q F H _ (.refl hs) (.int _)⟩
    rcases hq with ⟨hq, _⟩ | ⟨hq, _⟩
    · exact .inl ⟨vs, hq, rfl⟩
    · exact .inr ⟨vs, (hq.mono hs).seq, rfl⟩
  cases d with
  | tup ys => exact sq ys rfl (by cases h; rfl)
  | lst ys => exact sq ys rfl (by cases h; rfl)
  | frl ys => exact sq ys rfl (by cases h; rfl)
  | str y =>
    obtain ⟨c, rfl⟩ := if_some h
    rw [r.str]
    exact .inl ⟨_, y.length, rfl, ⟨Nat.le_trans c BIG_le, rfl⟩, q F H _ (.refl hs) (.int _)⟩
  | dk kvs =>
    cases h
    obtain ⟨a, vs, rfl, h1, h2⟩ := r.dk hs
    exact .inr (.inl ⟨_, _, rfl, h1, by rw [h2.len]; exact q F H _ (.refl hs) (.int _)⟩)
  | dt kvs =>
    cases h
    obtain ⟨a, vs, rfl, h1, h2⟩ := r.dt hs
    exact .inr (.inr ⟨_, _, rfl, h1, by rw [h2.len]; exact q F H _ (.refl hs) (.int _)⟩)
  | _ => cases h
/-- sum, all, any of lists (of ints; of bools) -/
def lsD : D → Option (List D)
  | .lst xs => some xs
  | .frl xs => some xs
  | _ => none
def dSum (d : D) : Option D := (lsD d).bind fun ds => (intsD ds).map fun ns => .int ns.sum
def dAll (d : D) : Option D := (lsD d).bind fun ds => (blsD ds).map fun bs => .bl (bs.all id)
def dAny (d : D) : Option D := (lsD d).bind fun ds => (blsD ds).map fun bs => .bl (bs.any id)
theorem RpI.ls {x : V} {d : D} {ds : List D} (e : Same F H) (h : RpI K mg F H x d) (hd : lsD d = some ds) : ∃ a vs, x = .ref a ∧ RpA K mg F vs ds ∧ SqL K H a vs := by
  have hd' : seqD d = some ds := by
    cases d <;> first | exact hd | cases hd
  obtain ⟨a, vs, e1, r, h1 | ⟨_, h2⟩⟩ := h.seq e hd'
  · exact ⟨a, vs, e1, r, h1.1⟩
  · subst h2
    cases hd
theorem o_sum : OpN K mg (rSum K) (g1 dSum) := fun {F H xs ds z Q} hs r0 h q => by
  obtain ⟨d, e0, h⟩ := g1_some h
  obtain ⟨x, rfl, r⟩ := r0.one e0
  obtain ⟨ys, h1, h2⟩ := Option.bind_eq_some_iff.mp h
  obtain ⟨ns, h3, rfl⟩ := Option.map_eq_some_iff.mp h2
  obtain ⟨a, vs, rfl, ra, hq⟩ := r.ls hs h1
  rw [intsD_eq h3] at ra
  rw [ra.to_ints] at hq
  exact ⟨a, ns, rfl, hq, q F H _ (.refl hs) (.int _)⟩
theorem o_all : OpN K mg (rAll K) (g1 dAll) := fun {F H xs ds z Q} hs r0 h q => by
  obtain ⟨d, e0, h⟩ := g1_some h
  obtain ⟨x, rfl, r⟩ := r0.one e0
  obtain ⟨ys, h1, h2⟩ := Option.bind_eq_some_iff.mp h
  obtain ⟨ns, h3, rfl⟩ := Option.map_eq_some_iff.mp h2
  obtain ⟨a, vs, rfl, ra, hq⟩ := r.ls hs h1
  rw [blsD_eq h3] at ra
  rw [ra.to_bls] at hq
  exact ⟨a, ns, rfl, hq, q F H _ (.refl hs) (.bl _)⟩
theorem o_any : OpN K mg (rAny K) (g1 dAny) := fun {F H xs ds z Q} hs r0 h q => by
  obtain ⟨d, e0, h⟩ := g1_some h
  obtain ⟨x, rfl, r⟩ := r0.one e0
  obtain ⟨ys, h1, h2⟩ := Option.bind_eq_some_iff.mp h
  obtain ⟨ns, h3, rfl⟩ := Option.map_eq_some_iff.mp h2
  obtain ⟨a, vs, rfl, ra, hq⟩ := r.ls hs h1
  rw [blsD_eq h3] at ra
  rw [ra.to_bls] at hq
  exact ⟨a, ns, rfl, hq, q F H _ (.refl hs) (.bl _)⟩
/-- int, abs, str -/
def dInt : D → Option D
  | .int i => some (.int i)
  | .bl b => some (.int (if b then 1 else 0))
  | _ => none
def dAbs : D → Option D
  | .int i => some (.int (if i < 0 then -i else i))
  | _ => none
def dStr : D → Option D
  | .int i => if i.natAbs.log2 < 1920 then some (.str (toString i)) else none
  | _ => none
theorem o_int : OpN K mg (fun xs H Q => (∃ i, xs = [.int i] ∧ Q (.int i) H) ∨ ∃ k, xs = [.bl k] ∧ Q (.int (if k then 1 else 0)) H) (g1 dInt) := fun {F H xs ds z Q} hs r0 h q => by
  obtain ⟨d, e0, h⟩ := g1_some h
  obtain ⟨x, rfl, r⟩ := r0.one e0
  cases d with
  | int i => cases h; rw [r.int]; exact .inl ⟨i, rfl, q F H _ (.refl hs) (.int _)⟩
  | bl b => cases h; rw [r.bl]; exact .inr ⟨b, rfl, q F H _ (.refl hs) (.int _)⟩
  | _ => cases h
theorem o_abs : OpN K mg (fun xs H Q => ∃ i, xs = [.int i] ∧ Q (.int (if i < 0 then -i else i)) H) (g1 dAbs) := fun {F H xs ds z Q} hs r0 h q => by
  obtain ⟨d, e0, h⟩ := g1_some h
  obtain ⟨x, rfl, r⟩ := r0.one e0
  cases d with
  | int i => cases h; rw [r.int]; exact ⟨i, rfl, q F H _ (.refl hs) (.int _)⟩
  | _ => cases h
theorem o_str : OpN K mg (fun xs H Q => ∃ i, xs = [.int i] ∧ i.natAbs.log2 < 1920 ∧ Q (.str (toString i)) H) (g1 dStr) := fun {F H xs ds z Q} hs r0 h q => by
  obtain ⟨d, e0, h⟩ := g1_some h
  obtain ⟨x, rfl, r⟩ := r0.one e0
  cases d with
  | int i =>
    obtain ⟨c, rfl⟩ := if_some h
    rw [r.int]
    exact ⟨i, rfl, c, q F H _ (.refl hs) (.str _)⟩
  | _ => cases h
/-- tuple(x): a tuple, or a list's items -/
def dTupOf : D → Option D
  | .tup xs => some (.tup xs)
  | .lst xs => some (.tup xs)
  | .frl xs => some (.tup xs)
  | _ => none
theorem o_tupOf : OpN K mg (rTupOf K) (g1 dTupOf) := fun {F H xs ds z Q} hs r0 h q => by
  obtain ⟨d, e0, h⟩ := g1_some h
  obtain ⟨x, rfl, r⟩ := r0.one e0
  obtain ⟨ys, hd, rfl⟩ : ∃ ys, seqD d = some ys ∧ z = .tup ys := by
    cases d <;> first | (cases h; exact ⟨_, rfl, rfl⟩) | cases h
  obtain ⟨a, vs, rfl, ra, hq⟩ := r.seq hs hd
  rcases hq with ⟨hq, _⟩ | ⟨hq, _⟩
  · refine ⟨a, vs, rfl, .inl ⟨hq, fun p o hp hd => ?_⟩⟩
    have e := Ext.new (u := HO.frz o (.tup vs)) hs hp
    exact q _ _ _ e (.tup ⟨o, upd_same, hd⟩ (ra.mono e.ff))
  · exact ⟨a, vs, rfl, .inr ⟨(hq.mono hs).seq, q F H _ (.refl hs) (.tup hq ra)⟩⟩
/-- list(x) -/
def dListOf (d : D) : Option Ow := (seqD d).map Ow.lst
theorem o_listOf : OpNn K mg (fun xs H Q => ∃ p ys, xs = [.ref p] ∧ (SqL K H p ys ∨ SqT K H p ys) ∧ ∀ l, H l = none → Q (.ref l) (upd H l (.lst ys))) (g1n dListOf) := fun {F H xs ds z Q} hs r0 h q => by
  obtain ⟨d, e0, h⟩ := g1n_some h
  obtain ⟨x, rfl, r⟩ := r0.one e0
  obtain ⟨ys, hd, rfl⟩ := Option.map_eq_some_iff.mp h
  obtain ⟨a, vs, rfl, ra, hq⟩ := r.seq hs hd
  refine ⟨a, vs, rfl, ?_, fun l hl => q l _ hl (.lst upd_same ra)⟩
  rcases hq with ⟨hq, _⟩ | ⟨hq, _⟩
  · exact .inl hq
  · exact .inr (hq.mono hs).seq
end
end Mi
set_option Elab.async false
set_option linter.all false
set_option maxRecDepth 100000
set_option maxHeartbeats 2000000
/-! Mi, part N: sorted of ints (a list, a tuple). -/
namespace MiS
open PySem PyProof.Rows Srt SrtO
section
variable {prog : Program} {w : World} {A : Around} {E : Value → Shared → Prop} {s : Shared}
theorem collect_tup {l : Addr} {vs : List Value} {o : Obj} {n : Nat} {Q : List Value → Shared → Prop} (ho : s.heap.get? l = some o) (hc : o.cls = .type "tuple") (hd : o.data = .seq vs.toArray n)
    (h : Q vs { s with heap := (s.heap.push (seqObj "list" #[] 0)).update s.heap.objs.size (Obj.mapSeq (· ++ vs.toArray)) }) (hsz : vs.length ≤ sizeLine) :
    wpAny (model prog w) A (collect (.ref l)) Q E s := by
  unfold collect
  refine wpAny_bind (wpAny_runValue (codeAny_builtin entry_proto_collect' ?_))
  show wpAny _ _ (do again (.builtin "list.__iadd__" ⟨[← newList [], .ref l], []⟩)) _ _ s
  refine wpAny_bind (wpAny_newList (wpAny_pure ⟨Code.quiet_builtin _ (by decide +kernel), codeAny_builtin entry_list_iadd' ?_⟩))
  show wpAny _ _ (Builtin.List.listExtendWith (.ref s.heap.objs.size) (.ref l) (.ref s.heap.objs.size)) _ _ { s with heap := s.heap.push (seqObj "list" #[] 0) }
  unfold Builtin.List.listExtendWith
  have ho' : (s.heap.push (seqObj "list" #[] 0)).get? l = some o := Heap.get?_push_of_some _ ho
  refine wpAny_bind (wpAny_typeOf (T := "tuple") ⟨o, ho', hc⟩ ?_)
  rw [if_pos (by rw [show (Value.type "tuple" == Value.type "tuple") = true from rfl]; simp)]
  refine wpAny_bind (listItems_at ho' hd ?_)
  refine wpAny_bind (listItems_at (xs := #[]) (n := 0) (Heap.get?_push_size _ rfl) rfl ?_)
  rw [if_neg (by simp)]
  refine wpAny_bind (listUpdate_at (xs := #[]) (n := 0) (Heap.get?_push_size _ rfl) rfl ?_ (Nat.zero_le _) (by show (#[] ++ vs.toArray).size ≤ sizeLine + 1; simp only [Array.size_append, List.size_toArray, List.length_nil]; omega))
  refine wpAny_pure ?_
  show wpAny (model prog w) A (do
      let o ← load s.heap.objs.size
      match o.data with
      | .seq xs _ => pure xs.toList
      | _ => unsupported "internal:collect") Q E { s with heap := (s.heap.push (seqObj "list" #[] 0)).update s.heap.objs.size (Obj.mapSeq (· ++ vs.toArray)) }
  refine wpAny_bind (wpAny_load (get?_update_seq (Heap.get?_push_size _ rfl) _) ?_)
  show wpAny _ _ (pure ((#[] : Array Value) ++ vs.toArray).toList) Q E _
  rw [show ((#[] : Array Value) ++ vs.toArray).toList = vs by simp]
  exact wpAny_pure h
theorem sorted_tup {l : Addr} {vs : List Value} {o : Obj} {n : Nat} {ltv : Value → Value → Bool} {Q : Value → Shared → Prop} (O : Swo ltv) (ho : s.heap.get? l = some o) (hc : o.cls = .type "tuple") (hd : o.data = .seq vs.toArray n) (hz : vs.length ≤ sizeLine)
    (hS : 2 ≤ vs.length → ∀ (h₁ : Heap) (a : Addr), h₁.get? a = some (seqObj "list" vs.toArray 0) → (∀ b o, s.heap.get? b = some o → b ≠ a ∧ h₁.get? b = some o) → SortableO prog w A.in1.in1 { s with heap := h₁ } a vs ltv)
    (h : ∀ out : List Value, Srtd ltv out → Stb ltv out vs → Q (.ref (s.heap.objs.size + 1)) { s with heap := sortedAll s.heap vs out.toArray }) :
    wpAny (model prog w) A (call (.builtin "sorted") [.ref l]) Q E s := by
  refine Calls.call_function_entry kind_sorted plain_sorted entry_sorted (args_sorted1 _) ?_
  unfold Builtin.«sorted»
  refine wpAny_bind (m := checkCount "sorted" 1 1 _) (wpAny_pure ?_)
  refine wpAny_bind (collect_tup ho hc hd ?_ hz)
  refine wpAny_bind (wpAny_newList ?_ hz)
  have e1 : ((s.heap.push (seqObj "list" #[] 0)).update s.heap.objs.size (Obj.mapSeq (· ++ vs.toArray))).objs.size = s.heap.objs.size + 1 := by
    rw [Heap.size_update, size_push']
  have e2 : (((s.heap.push (seqObj "list" #[] 0)).update s.heap.objs.size (Obj.mapSeq (· ++ vs.toArray))).push (seqObj "list" vs.toArray 0)).get? (s.heap.objs.size + 1) = some (seqObj "list" vs.toArray 0) := by
    rw [← e1]; exact Heap.get?_push_size _ rfl
  have old : ∀ b o, s.heap.get? b = some o → b ≠ s.heap.objs.size + 1 ∧ (((s.heap.push (seqObj "list" #[] 0)).update s.heap.objs.size (Obj.mapSeq (· ++ vs.toArray))).push (seqObj "list" vs.toArray 0)).get? b = some o := fun b o q => by
    have hlt : b < s.heap.objs.size := Heap.lt_size q
    refine ⟨Nat.ne_of_lt (Nat.lt_succ_of_lt hlt), Heap.get?_push_of_some _ ?_⟩
    rw [Heap.get?_update_ne _ _ _ _ (Nat.ne_of_lt hlt)]
    exact Heap.get?_push_of_some _ q
  show wpAny _ _ _ _ _ { s with heap := ((s.heap.push (seqObj "list" #[] 0)).update s.heap.objs.size (Obj.mapSeq (· ++ vs.toArray))).push (seqObj "list" vs.toArray 0) }
  rw [e1]
  refine wpAny_bind (wpAny_holding (wpAny_call_entry slot_list_sort ⟨_, e2, rfl⟩ entry_list_sort (list_sort_ord O e2 hz (fun h2 => hS h2 _ _ e2 old) fun out h1 h2 => ⟨_, rfl, ?_⟩) (args_list_sort _)))
  exact wpAny_pure ⟨_, rfl, h out h1 h2⟩
end
end MiS
namespace Mi
open PySem PySem.Spec PyProof.Rows L2 PySem.MiX
section
variable {X : Cx}
def rSortedT (K : PySem.W.Frag) : List V → Hp → VK → Prop := fun vs H Q => ∃ (a : Addr) (ns : List Int), vs = [V.ref a] ∧ SqT K H a (ns.map V.int) ∧
  ∀ (ns' : List Int) (p : Addr), ns'.Perm ns → ns'.Pairwise (· ≤ ·) → H p = none → Q (.ref p) (upd H p (.lst (ns'.map V.int)))
theorem cr_sortedT : CallR X (.builtin "sorted") (rSortedT X.K) := by
  intro pins s σ H vs us Q I r h
  obtain ⟨a, ns, rfl, hs, q⟩ := h
  obtain ⟨its, rv, hl, hz⟩ := I.tuple hs
  obtain ⟨o, ho, hc, n, hd⟩ := hl
  rw [Vals.ref1 r]
  have hi := rv.ints
  refine MiS.sorted_tup SrtO.swo_int ho hc hd (by rw [← rv.length]; exact hz) (fun h2 h₁ a' _ _ => SrtO.ints_sortable hi h2) fun out h1 h2 => ?_
  obtain ⟨k1, k2, k3⟩ := SrtO.ints_out hi h1 h2
  obtain ⟨ep, he'⟩ := PyProof.Rows.sortedAll_at s.heap its out.toArray
  have hlen : ((out.map SrtO.iv).map V.int).length ≤ sizeLine := by
    rw [List.length_map, k2.length_eq]
    rw [List.length_map] at hz
    exact hz
  exact ⟨.ref _, upd H (s.heap.objs.size + 1) (.lst ((out.map SrtO.iv).map V.int)), I.laid (t' := s.toks) (fun _ _ => PyProof.Rows.sortedAll_old) (Nat.le_succ _) ⟨hlen, out, ep, vals_of_ints k1, he'⟩, rfl, q _ _ k2 k3 (I.hok.fresh (Nat.le_succ _))⟩
end
/-- ints in order -/
def putI (i : Int) : List Int → List Int
  | [] => [i]
  | j :: r => if i ≤ j then i :: j :: r else j :: putI i r
def sortI : List Int → List Int
  | [] => []
  | i :: r => putI i (sortI r)
theorem putI_perm (i : Int) : ∀ l, (putI i l).Perm (i :: l)
  | [] => .refl _
  | j :: r => by
    unfold putI
    by_cases h : i ≤ j
    · rw [if_pos h]
    · rw [if_neg h]
      exact ((putI_perm i r).cons j).trans (.swap _ _ _)
theorem sortI_perm : ∀ l, (sortI l).Perm l
  | [] => .refl _
  | i :: r => (putI_perm i _).trans ((sortI_perm r).cons i)
theorem putI_mem {i x : Int} {l : List Int} (h : x ∈ putI i l) : x = i ∨ x ∈ l := by
  simpa using (putI_perm i l).mem_iff.mp h
theorem putI_sorted (i : Int) : ∀ {l : List Int}, l.Pairwise (· ≤ ·) → (putI i l).Pairwise (· ≤ ·)
  | [], _ => List.pairwise_singleton _ _
  | j :: r, h => by
    obtain ⟨h1, h2⟩ := List.pairwise_cons.mp h
    unfold putI
    by_cases c : i ≤ j
    · rw [if_pos c]
      refine List.pairwise_cons.mpr ⟨fun x hx => ?_, h⟩
      rcases List.mem_cons.mp hx with rfl | hx
      · exact c
      · exact Int.le_trans c (h1 x hx)
    · rw [if_neg c]
      refine List.pairwise_cons.mpr ⟨fun x hx => ?_, putI_sorted i h2⟩
      rcases putI_mem hx with rfl | hx
      · exact Int.le_of_lt (Int.not_le.mp c)
      · exact h1 x hx
theorem sortI_sorted : ∀ l, (sortI l).Pairwise (· ≤ ·)
  | [] => .nil
  | i :: r => putI_sorted i (sortI_sorted r)
theorem sorted_one : ∀ {l m : List Int}, l.Perm m → l.Pairwise (· ≤ ·) → m.Pairwise (· ≤ ·) → l = m
  | [], m, p, _, _ => (List.nil_perm.mp p).symm
  | a :: l, [], p, _, _ => absurd p.length_eq (by simp)
  | a :: l, b :: m, p, h1, h2 => by
    obtain ⟨a1, a2⟩ := List.pairwise_cons.mp h1
    obtain ⟨b1, b2⟩ := List.pairwise_cons.mp h2
    have e : a = b := by
      have ha : a ∈ b :: m := p.mem_iff.mp (List.mem_cons_self ..)
      have hb : b ∈ a :: l := p.mem_iff.mpr (List.mem_cons_self ..)
      have u : a ≤ b := by
        rcases List.mem_cons.mp hb with e | e
        · omega
        · exact a1 b e
      have v : b ≤ a := by
        rcases List.mem_cons.mp ha with e | e
        · omega
        · exact b1 a e
      omega
    subst e
    rw [sorted_one (List.Perm.cons_inv p) a2 b2]
def dSorted (d : D) : Option Ow := (seqD d).bind fun ds => (intsD ds).map fun ns => .lst ((sortI ns).map D.int)
section
variable {K : PySem.W.Frag} {mg : Str → Option Value}
theorem o_sorted : OpNn K mg (fun xs H Q => rSortedI K xs H Q ∨ rSortedT K xs H Q) (g1n dSorted) := fun {F H xs ds z Q} hs r0 h q => by
  obtain ⟨d, e0, h⟩ := g1n_some h
  obtain ⟨x, rfl, r⟩ := r0.one e0
  obtain ⟨ys, h1, h2⟩ := Option.bind_eq_some_iff.mp h
  obtain ⟨ns, h3, rfl⟩ := Option.map_eq_some_iff.mp h2
  obtain ⟨a, vs, rfl, ra, hq⟩ := r.seq hs h1
  rw [intsD_eq h3] at ra
  have ev := ra.to_ints
  subst ev
  have fin : ∀ (ns' : List Int) (p : Addr), ns'.Perm ns → ns'.Pairwise (· ≤ ·) → H p = none → Q (.ref p) (upd H p (.lst (ns'.map V.int))) := fun ns' p hp hsd hn => by
    have e := sorted_one (hp.trans (sortI_perm ns).symm) hsd (sortI_sorted ns)
    subst e
    exact q p _ hn (.lst upd_same (RpA.ints _))
  rcases hq with ⟨hq, _⟩ | ⟨hq, _⟩
  · exact .inl ⟨a, ns, rfl, hq, fin⟩
  · exact .inr ⟨a, ns, rfl, (hq.mono hs).seq, fin⟩
theorem call_sortedA {X : Cx} : CallR X (.builtin "sorted") (fun xs H Q => rSortedI X.K xs H Q ∨ rSortedT X.K xs H Q) := cr_sortedI.or cr_sortedT
end
end Mi
set_option Elab.async false
set_option linter.all false
set_option maxRecDepth 100000
set_option maxHeartbeats 2000000
/-! Mi, part O: ranges as values, slices, chains, index, either of two rules. -/
namespace Mi
open PySem PySem.Spec PyProof.Rows L2 PySem.MiX
/-! ### either of two rules -/
def mAlt (m1 m2 : EM) : EM := fun ρ => match m1 ρ with
  | .bad => m2 ρ
  | r => r
theorem me_alt {X : Cx} {W : WX} {e : Expr} {m1 m2 : EM} (h1 : ME X W e m1) (h2 : ME X W e m2) : ME X W e (mAlt m1 m2) :=
  ⟨fun pins s σ H Q I ⟨G, F, ρ, S, g⟩ => by
    unfold mAlt at g
    cases q : m1 ρ with
    | bad =>
      rw [q] at g
      exact h2.run pins s σ H Q I ⟨G, F, ρ, S, g⟩
    | ok v ρ1 =>
      rw [q] at g
      exact h1.run pins s σ H Q I ⟨G, F, ρ, S, by rw [q]; exact g⟩
    | ex x ρ1 =>
      rw [q] at g
      exact h1.run pins s σ H Q I ⟨G, F, ρ, S, by rw [q]; exact g⟩⟩

/-! ### range(a, b) as a list, as a tuple -/
def rgOk (a b : Int) : Bool := decide (-(2 ^ 62) ≤ a ∧ a < 2 ^ 62 ∧ -(2 ^ 62) ≤ b ∧ b < 2 ^ 62 ∧ (b - a).toNat ≤ 1000000)
def obI (v : OB) (ρ : En) : Option Int := match v.get ρ with
  | some (.int i) => some i
  | _ => none
def kRg (k : Int → Int → En → R OV) (a b : Option Int) (ρ : En) : R OV := match a with
  | some a => (match b with
    | some b => if rgOk a b then k a b ρ else .bad
    | none => .bad)
  | none => .bad
def mRg1 (m : EM) (k : Int → Int → En → R OV) : EM := fun ρ => (m ρ).bind fun v ρ => kRg k (some 0) (obI v.fz ρ) ρ
def mRg2 (ma mb : EM) (k : Int → Int → En → R OV) : EM := fun ρ => (ma ρ).bind fun v ρ => (mb ρ).bind fun u ρ => kRg k (obI v.fz ρ) (obI u.fz ρ) ρ
def rgTup (a b : Int) (ρ : En) : R OV := .ok (.d (.tup (rgD a b))) ρ
def rgLst (a b : Int) (ρ : En) : R OV := .ok (.n (.lst (rgD a b))) ρ
section
variable {K : PySem.W.Frag} {mg : Str → Option Value} {W : WX} {F F' H H' : Hp} {G : Gh} {σ : St} {ρ : En}
theorem rgOk_ok {a b : Int} (h : rgOk a b = true) : RgOk a b := by
  have h' := of_decide_eq_true h
  exact ⟨h'.1, h'.2.1, h'.2.2.1, h'.2.2.2.1, by have := h'.2.2.2.2; omega⟩
theorem rpa_map {f : Nat → V} {g : Nat → D} (h : ∀ i, Rp K mg F (f i) (g i)) : ∀ l : List Nat, RpA K mg F (l.map f) (l.map g)
  | [] => .nil
  | i :: r => .cons (h i) (rpa_map h r)
theorem rgD_rp {a b : Int} : RpA K mg F (rgV a b) (rgD a b) := rpa_map (fun i => .int _) _
theorem obI_ok {v : OB} {x : V} {i : Int} (S : Sat K mg G F H σ ρ) (r : RpB K mg F σ x v) (h : obI v ρ = some i) : x = .int i := by
  unfold obI at h
  cases q : v.get ρ with
  | none => rw [q] at h; cases h
  | some y =>
    rw [q] at h
    cases y with
    | int j => cases h; exact (S.get r q).int
    | _ => cases h
theorem kRg_ok {k : Int → Int → En → R OV} {a b : Option Int} {Q : VK} (g : Gd K mg W (RpO K mg) G F σ (kRg k a b ρ) Q) : ∃ i j, a = some i ∧ b = some j ∧ RgOk i j ∧ Gd K mg W (RpO K mg) G F σ (k i j ρ) Q := by
  unfold kRg at g
  cases a with
  | none => exact g.elim
  | some i =>
    cases b with
    | none => exact g.elim
    | some j =>
      dsimp only at g
      by_cases c : rgOk i j = true
      · rw [if_pos c] at g
        exact ⟨i, j, rfl, rfl, rgOk_ok c, g⟩
      · rw [if_neg c] at g
        exact g.elim
theorem rg1_ok {m : EM} {k : Int → Int → En → R OV} {Q : VK} {Q' : Int → Int → Hp → Prop} (S : Sat K mg G F H σ ρ) (g : Gd K mg W (RpO K mg) G F σ (mRg1 m k ρ) Q)
    (kk : ∀ F1 H1 ρ1 a b, Sat K mg G F1 H1 σ ρ1 → RgOk a b → Gd K mg W (RpO K mg) G F1 σ (k a b ρ1) Q → Q' a b H1) : tRg1 (tE K mg W m) σ H Q' :=
  sub S (Gd.opd (f := fun v ρ => kRg k (some 0) (obI v ρ) ρ) g fun v ρ1 F1 H1 x S1 e1 r1 k1 => by
    obtain ⟨i, j, ei, ej, ok, k2⟩ := kRg_ok k1
    cases ei
    exact ⟨j, obI_ok S1 r1 ej, kk F1 H1 ρ1 0 j S1 ok k2⟩)
theorem rg2_ok {ma mb : EM} {k : Int → Int → En → R OV} {Q : VK} {Q' : Int → Int → Hp → Prop} (S : Sat K mg G F H σ ρ) (g : Gd K mg W (RpO K mg) G F σ (mRg2 ma mb k ρ) Q)
    (kk : ∀ F1 H1 ρ1 a b, Sat K mg G F1 H1 σ ρ1 → RgOk a b → Gd K mg W (RpO K mg) G F1 σ (k a b ρ1) Q → Q' a b H1) : tRg2 (tE K mg W ma) (tE K mg W mb) σ H Q' :=
  sub S (Gd.opd (f := fun v ρ => (mb ρ).bind fun u ρ => kRg k (obI v ρ) (obI u.fz ρ) ρ) g fun v ρ1 F1 H1 x S1 e1 r1 k1 => sub S1 (Gd.opd (f := fun u ρ => kRg k (obI v ρ) (obI u ρ) ρ) k1 fun u ρ2 F2 H2 y S2 e2 r2 k2 => by
    obtain ⟨i, j, ei, ej, ok, k3⟩ := kRg_ok k2
    exact ⟨i, j, obI_ok S2 (r1.mono e2) ei, obI_ok S2 r2 ej, kk F2 H2 ρ2 i j S2 ok k3⟩))
theorem rgLst_ok {a b : Int} {Q : VK} (S : Sat K mg G F H σ ρ) (ok : RgOk a b) (g : Gd K mg W (RpO K mg) G F σ (rgLst a b ρ) Q) : RgOk a b ∧ ∀ q, H q = none → Q (.ref q) (upd H q (.lst (rgV a b))) :=
  ⟨ok, fun q hq => by
    obtain ⟨S3, r3⟩ := S.newOwn hq (OwOk.lst upd_same (rgD_rp (a := a) (b := b)))
    exact g _ _ _ S3 (Same.refl _) r3⟩
theorem rgTup_ok {a b : Int} {Q : VK} (S : Sat K mg G F H σ ρ) (ok : RgOk a b) (g : Gd K mg W (RpO K mg) G F σ (rgTup a b ρ) Q) : RgOk a b ∧ newT (rgV a b) H Q :=
  ⟨ok, fun p o hp hd => by
    have ex := Ext.new (u := HO.frz o (.tup (rgV a b))) S.fh hp
    exact g _ _ _ (S.ext ex) ex.ff (.d (.tup ⟨o, upd_same, hd⟩ rgD_rp))⟩
end
section
variable {X : Cx} {W : WX} {a b : Expr} {ma mb : EM} {p q pos pos2 : Pos}
theorem me_lstRg1 (hc : X.calm = true) (hg : Gl X "list") (hm : X.mg "list" = none) (hg2 : Gl X "range") (hm2 : X.mg "range" = none) (ha : ME X W a ma) (na : starEach [.Call (.Name "range" q) [a] [] pos2] X.env = (false, eval (.Call (.Name "range" q) [a] [] pos2) X.env) :: starEach [] X.env := by rfl)
    (nb : starEach [a] X.env = (false, eval a X.env) :: starEach [] X.env := by rfl) : ME X W (.Call (.Name "list" p) [.Call (.Name "range" q) [a] [] pos2] [] pos) (mRg1 ma rgLst) :=
  ME.weak (pe_listRg hc hg hm (prg_1 hg2 hm2 ha nb) na) fun S g => rg1_ok S g fun F1 H1 ρ1 a b S1 ok k => rgLst_ok S1 ok k
theorem me_tupRg1 (hc : X.calm = true) (hg : Gl X "tuple") (hm : X.mg "tuple" = none) (hg2 : Gl X "range") (hm2 : X.mg "range" = none) (ha : ME X W a ma) (na : starEach [.Call (.Name "range" q) [a] [] pos2] X.env = (false, eval (.Call (.Name "range" q) [a] [] pos2) X.env) :: starEach [] X.env := by rfl)
    (nb : starEach [a] X.env = (false, eval a X.env) :: starEach [] X.env := by rfl) : ME X W (.Call (.Name "tuple" p) [.Call (.Name "range" q) [a] [] pos2] [] pos) (mRg1 ma rgTup) :=
  ME.weak (pe_tupRgF hc hg hm (prg_1 hg2 hm2 ha nb) na) fun S g => rg1_ok S g fun F1 H1 ρ1 a b S1 ok k => rgTup_ok S1 ok k
theorem me_lstRg2 (hc : X.calm = true) (hg : Gl X "list") (hm : X.mg "list" = none) (hg2 : Gl X "range") (hm2 : X.mg "range" = none) (ha : ME X W a ma) (hb : ME X W b mb)
    (na : starEach [.Call (.Name "range" q) [a, b] [] pos2] X.env = (false, eval (.Call (.Name "range" q) [a, b] [] pos2) X.env) :: starEach [] X.env := by rfl) (n1 : starEach [a, b] X.env = (false, eval a X.env) :: starEach [b] X.env := by rfl)
    (n2 : starEach [b] X.env = (false, eval b X.env) :: starEach [] X.env := by rfl) (hp : (backTo pos2 (starEach [b] X.env)).any (·.1) = false := by rfl) : ME X W (.Call (.Name "list" p) [.Call (.Name "range" q) [a, b] [] pos2] [] pos) (mRg2 ma mb rgLst) :=
  ME.weak (pe_listRg hc hg hm (prg_2 hg2 hm2 ha hb n1 n2 hp) na) fun S g => rg2_ok S g fun F1 H1 ρ1 a b S1 ok k => rgLst_ok S1 ok k
theorem me_tupRg2 (hc : X.calm = true) (hg : Gl X "tuple") (hm : X.mg "tuple" = none) (hg2 : Gl X "range") (hm2 : X.mg "range" = none) (ha : ME X W a ma) (hb : ME X W b mb)
    (na : starEach [.Call (.Name "range" q) [a, b] [] pos2] X.env = (false, eval (.Call (.Name "range" q) [a, b] [] pos2) X.env) :: starEach [] X.env := by rfl) (n1 : starEach [a, b] X.env = (false, eval a X.env) :: starEach [b] X.env := by rfl)
    (n2 : starEach [b] X.env = (false, eval b X.env) :: starEach [] X.env := by rfl) (hp : (backTo pos2 (starEach [b] X.env)).any (·.1) = false := by rfl) : ME X W (.Call (.Name "tuple" p) [.Call (.Name "range" q) [a, b] [] pos2] [] pos) (mRg2 ma mb rgTup) :=
  ME.weak (pe_tupRgF hc hg hm (prg_2 hg2 hm2 ha hb n1 n2 hp) na) fun S g => rg2_ok S g fun F1 H1 ρ1 a b S1 ok k => rgTup_ok S1 ok k
end
/-! ### slices -/
abbrev PM := En → R (Option Int)
section
variable (K : PySem.W.Frag) (mg : Str → Option Value)
def tO (W : WX) (m : PM) : TO := fun σ H Q => ∃ G F ρ, Sat K mg G F H σ ρ ∧ Gd K mg W (fun _ _ _ _ _ x y => x = y) G F σ (m ρ) Q
end
abbrev MO (X : Cx) (W : WX) (e : Option Expr) (m : PM) : Prop := PO X e (tO X.K X.mg W m)
def mNoP : PM := fun ρ => .ok none ρ
def mPart (m : EM) : PM := fun ρ => (m ρ).bind fun v ρ => match obI v.fz ρ with
  | some i => .ok (some i) ρ
  | none => .bad
def cutL {α : Type} (xs : List α) (lo hi : Option Int) : List α := (xs.drop (HT.sIx xs.length 0 lo)).take (HT.sIx xs.length xs.length hi - HT.sIx xs.length 0 lo)
def apSl (v : OB) (lo hi : Option Int) (ρ : En) : R OV := match v.get ρ with
  | some (.tup xs) => .ok (.d (.tup (cutL xs lo hi))) ρ
  | some (.lst xs) => .ok (.n (.lst (cutL xs lo hi))) ρ
  | some (.frl xs) => .ok (.n (.lst (cutL xs lo hi))) ρ
  | _ => .bad
def mSl (m : EM) (ml mh : PM) : EM := fun ρ => (m ρ).bind fun v ρ => (ml ρ).bind fun l ρ => (mh ρ).bind fun u ρ => apSl v.fz l u ρ
section
variable {K : PySem.W.Frag} {mg : Str → Option Value} {W : WX} {F F' H H' : Hp} {G : Gh} {σ : St} {ρ : En}
theorem RpA.cut {vs : List V} {ds : List D} (r : RpA K mg F vs ds) (lo hi : Option Int) : RpA K mg F (cutV vs lo hi) (cutL ds lo hi) := by
  unfold cutV cutL
  rw [r.len]
  exact (r.drop _).take _
theorem subO {m : PM} {Q : Option Int → Hp → Prop} (S : Sat K mg G F H σ ρ) (g : Gd K mg W (fun _ _ _ _ _ x y => x = y) G F σ (m ρ) Q) : tO K mg W m σ H Q := ⟨G, F, ρ, S, g⟩
theorem cutL_all {α : Type} {xs : List α} {lo hi : Option Int} (h : HT.sIx xs.length 0 lo = 0 ∧ HT.sIx xs.length xs.length hi = xs.length) : cutL xs lo hi = xs := by
  unfold cutL
  rw [h.1, h.2]
  simp
theorem apSl_ok {v : OB} {x : V} {lo hi : Option Int} {Q : VK} (S : Sat K mg G F H σ ρ) (r : RpB K mg F σ x v) (g : Gd K mg W (RpO K mg) G F σ (apSl v lo hi ρ) Q) : rSlL K x lo hi H Q ∨ rSlF K x lo hi H Q := by
  unfold apSl at g
  cases q : v.get ρ with
  | none => rw [q] at g; exact g.elim
  | some d =>
    rw [q] at g
    have rI := S.get r q
    have lst : ∀ ds, lsD d = some ds → Gd K mg W (RpO K mg) G F σ (.ok (.n (.lst (cutL ds lo hi))) ρ) Q → rSlL K x lo hi H Q := fun ds hd k => by
      obtain ⟨a, vs, rfl, ra, hq⟩ := rI.ls S.fh hd
      refine ⟨a, vs, rfl, hq, fun p hp => ?_⟩
      obtain ⟨S3, r3⟩ := S.newOwn hp (OwOk.lst upd_same (ra.cut lo hi))
      exact k _ _ _ S3 (Same.refl _) r3
    cases d with
    | lst ds => exact .inl (lst ds rfl g)
    | frl ds => exact .inl (lst ds rfl g)
    | tup ds =>
      obtain ⟨a, vs, rfl, hT, ra⟩ := rI.tup S.fh
      refine .inr ⟨a, vs, rfl, (hT.mono S.fh).seq, fun hw => ?_, fun _ p o hp hd => ?_⟩
      · rw [ra.len] at hw
        have g' : Gd K mg W (RpO K mg) G F σ (.ok (.d (.tup (cutL ds lo hi))) ρ) Q := g
        rw [cutL_all hw] at g'
        exact g' F H _ S (Same.refl _) (.d (.tup hT ra))
      · have ex := Ext.new (u := HO.frz o (.tup (cutV vs lo hi))) S.fh hp
        exact g _ _ _ (S.ext ex) ex.ff (.d (.tup ⟨o, upd_same, hd⟩ ((ra.cut lo hi).mono ex.ff)))
    | _ => exact g.elim
end
section
variable {X : Cx} {W : WX} {e : Expr} {m : EM} {lo hi : Option Expr} {ml mh : PM} {pos p2 : Pos}
theorem mo_none : MO X W none mNoP := ⟨fun pins s σ H Q I ⟨G, F, ρ, S, g⟩ => po_none.run pins s σ H Q I (g F H none S (Same.refl _) rfl)⟩
theorem mo_some (h : ME X W e m) : MO X W (some e) (mPart m) := ⟨fun pins s σ H Q I ⟨G, F, ρ, S, g⟩ => (po_some h).run pins s σ H Q I
  (sub S (Gd.opd (f := fun v ρ => match obI v ρ with
    | some i => .ok (some i) ρ
    | none => .bad) g fun v ρ1 F1 H1 x S1 e1 r1 k1 => by
    cases q : obI v ρ1 with
    | none => rw [q] at k1; exact k1.elim
    | some i =>
      rw [q] at k1
      exact ⟨i, obI_ok S1 r1 q, k1 F1 H1 _ S1 (Same.refl _) rfl⟩))⟩
theorem me_slice (he : ME X W e m) (hl : MO X W lo ml) (hh : MO X W hi mh) : ME X W (.Subscript e (.Slice lo hi none p2) pos) (mSl m ml mh) :=
  ME.weak (pe_slice (SlR.or sl_list sl_tupF) he hl hh) fun S g => sub S (Gd.opd (f := fun v ρ => (ml ρ).bind fun l ρ => (mh ρ).bind fun u ρ => apSl v l u ρ) g fun v ρ1 F1 H1 x S1 e1 r1 k1 =>
    subO S1 (Gd.bind k1 fun l ρ2 F2 H2 y _ S2 e2 r2 k2 => by
      subst r2
      exact subO S2 (Gd.bind k2 fun u ρ3 F3 H3 z _ S3 e3 r3 k3 => by
        subst r3
        exact apSl_ok S3 ((r1.mono e2).mono e3) k3)))
end
end Mi
set_option Elab.async false
set_option linter.all false
set_option maxRecDepth 100000
set_option maxHeartbeats 2000000
/-! Mi, part P: a < b < c, t.index(x). -/
namespace Mi
open PySem PySem.Spec PyProof.Rows L2 PySem.MiX
def opD (g : D → D → Option D) (v u : OB) (ρ : En) : Option D := match v.get ρ with
  | some d => (match u.get ρ with
    | some e => g d e
    | none => none)
  | none => none
def mChain (g g' : D → D → Option D) (ma mb mc : EM) : EM := fun ρ => (ma ρ).bind fun v ρ => (mb ρ).bind fun u ρ => match opD g v.fz u.fz ρ with
  | some (.bl true) => (mc ρ).bind fun w ρ => ap2 g' u.fz w.fz ρ
  | some (.bl false) => .ok (.d (.bl false)) ρ
  | _ => .bad
section
variable {K : PySem.W.Frag} {mg : Str → Option Value} {W : WX} {F F' H H' : Hp} {G : Gh} {σ : St} {ρ : En}
theorem opD_some {g : D → D → Option D} {v u : OB} {z : D} (h : opD g v u ρ = some z) : ∃ d e, v.get ρ = some d ∧ u.get ρ = some e ∧ g d e = some z := by
  unfold opD at h
  cases q : v.get ρ with
  | none => rw [q] at h; cases h
  | some d =>
    rw [q] at h
    cases q2 : u.get ρ with
    | none => rw [q2] at h; cases h
    | some e => rw [q2] at h; exact ⟨d, e, rfl, rfl, h⟩
theorem bl_of {F : Hp} {v : V} {b : Bool} (r : Rp K mg F v (.bl b)) : v = .bl b := by
  cases r
  rfl
theorem chain_ok {r r' : R2} {g g' : D → D → Option D} {ma mb mc : EM} {Q : VK} (o : Op2 K mg r g) (o' : Op2 K mg r' g') (S : Sat K mg G F H σ ρ) (k : Gd K mg W (RpO K mg) G F σ (mChain g g' ma mb mc ρ) Q) : tChain r r' (tE K mg W ma) (tE K mg W mb) (tE K mg W mc) σ H Q :=
  sub S (Gd.opd (f := fun v ρ => (mb ρ).bind fun u ρ => match opD g v u.fz ρ with
    | some (.bl true) => (mc ρ).bind fun w ρ => ap2 g' u.fz w.fz ρ
    | some (.bl false) => .ok (.d (.bl false)) ρ
    | _ => .bad) k fun v ρ1 F1 H1 x S1 e1 r1 k1 => sub S1 (Gd.opd (f := fun u ρ => match opD g v u ρ with
    | some (.bl true) => (mc ρ).bind fun w ρ => ap2 g' u w.fz ρ
    | some (.bl false) => .ok (.d (.bl false)) ρ
    | _ => .bad) k1 fun u ρ2 F2 H2 y S2 e2 r2 k2 => by
    cases q : opD g v u ρ2 with
    | none => rw [q] at k2; exact k2.elim
    | some z =>
      rw [q] at k2
      obtain ⟨d, e, h1, h2, h3⟩ := opD_some q
      cases z with
      | bl b =>
        refine o S2.fh (S2.get (r1.mono e2) h1) (S2.get r2 h2) h3 fun F3 H3 w ex rw' => ?_
        have ew := bl_of rw'
        subst ew
        refine ⟨b, rfl, ?_⟩
        cases b with
        | false =>
          rw [if_neg Bool.false_ne_true]
          exact k2 F3 H3 _ (S2.ext ex) ex.ff (.d (.bl false))
        | true =>
          rw [if_pos rfl]
          exact sub (S2.ext ex) (Gd.opd (f := fun w ρ => ap2 g' u w ρ) (Gd.mono ex.ff k2) fun w ρ4 F4 H4 z S4 e4 r4 k4 => fin2 o' S4 ((r2.mono ex.ff).mono e4) r4 k4)
      | _ => exact k2.elim))
end
section
variable {X : Cx} {W : WX} {a b c : Expr} {op op' : CmpOp} {r r' : R2} {g g' : D → D → Option D} {ma mb mc : EM} {pos : Pos}
theorem me_chain (o : Op2 X.K X.mg r g) (o' : Op2 X.K X.mg r' g') (ho : OpR X (compareOp op) r) (ho' : OpR X (compareOp op') r') (ha : ME X W a ma) (hb : ME X W b mb) (hc : ME X W c mc)
    (hm : lastMarks [op, op'] [b, c] = false := by with_unfolding_all rfl) : ME X W (.Compare a [op, op'] [b, c] pos) (mChain g g' ma mb mc) :=
  ME.weak (pe_chain ho ho' ha hb hc hm) fun S k => chain_ok o o' S k
end
/-! ### index -/
def idxD (y : D) : List D → Option Nat
  | [] => none
  | z :: r => if z.eqf y then some 0 else (idxD y r).map (· + 1)
def dIndex (d y : D) : Option D := (seqD d).bind fun ds => if y.flat && ds.all D.flat then (idxD y ds).map fun (j : Nat) => .int (j : Nat) else none
def isTupB : Option D → Bool
  | some (.tup _) => true
  | _ => false
def isLstB : Option D → Bool
  | some (.lst _) => true
  | some (.frl _) => true
  | _ => false
/-- x.m(e) where x is a tuple; where it is a list -/
def mMT (g : D → D → Option D) (mo ma : EM) : EM := fun ρ => (mo ρ).bind fun v ρ => if isTupB (v.fz.get ρ) then (ma ρ).bind fun u ρ => if isTupB (v.fz.get ρ) then ap2 g v.fz u.fz ρ else .bad else .bad
def mML (g : D → D → Option D) (mo ma : EM) : EM := fun ρ => (mo ρ).bind fun v ρ => if isLstB (v.fz.get ρ) then (ma ρ).bind fun u ρ => if isLstB (v.fz.get ρ) then ap2 g v.fz u.fz ρ else .bad else .bad
section
variable {K : PySem.W.Frag} {mg : Str → Option Value} {W : WX} {F F' H H' : Hp} {G : Gh} {σ : St} {ρ : En}
theorem idxD_ok {y : D} : ∀ {ds : List D} {j : Nat}, idxD y ds = some j → ∃ z, ds[j]? = some z ∧ z.eqf y = true ∧ ∀ (m : Nat) (z' : D), m < j → ds[m]? = some z' → z'.eqf y = false
  | [], _, h => by cases h
  | z :: r, j, h => by
    unfold idxD at h
    by_cases c : z.eqf y = true
    · rw [if_pos c] at h
      cases h
      exact ⟨z, rfl, c, fun m z' hm => absurd hm (Nat.not_lt_zero _)⟩
    · rw [if_neg c] at h
      obtain ⟨i, h1, rfl⟩ := Option.map_eq_some_iff.mp h
      obtain ⟨z1, a1, a2, a3⟩ := idxD_ok h1
      refine ⟨z1, a1, a2, fun m z' hm hz => ?_⟩
      cases m with
      | zero =>
        cases hz
        simpa using c
      | succ m => exact a3 m z' (Nat.lt_of_succ_lt_succ hm) hz
/-- what both rules say of the place -/
theorem index_at {vs : List V} {ds : List D} {y : V} {d : D} {j : Nat} (r : RpA K mg F vs ds) (ry : Rp K mg F' y d) (fd : d.flat = true) (fs : ds.all D.flat = true) (h : idxD d ds = some j) :
    flatV y = true ∧ vs.all flatV = true ∧ ∃ z, vs[j]? = some z ∧ eqV z y = true ∧ ∀ (m : Nat) (z' : V), m < j → vs[m]? = some z' → eqV z' y = false := by
  obtain ⟨z, h1, h2, h3⟩ := idxD_ok h
  obtain ⟨v, h4, h5⟩ := r.get h1
  have fl : ∀ {i : Nat} {e : D}, ds[i]? = some e → e.flat = true := fun {i e} h => List.all_eq_true.mp fs e (List.mem_of_getElem? h)
  refine ⟨flat_V ry fd, flat_all r fs, v, h4, (flat_eq h5 ry (fl h1) fd).trans h2, fun m z' hm hz => ?_⟩
  obtain ⟨e, h6, h7⟩ := r.getV hz
  exact (flat_eq h7 ry (fl h6) fd).trans (h3 m e hm h6)
theorem index_some {d y z : D} (h : dIndex d y = some z) : ∃ ds j, seqD d = some ds ∧ y.flat = true ∧ ds.all D.flat = true ∧ idxD y ds = some j ∧ z = .int (j : Nat) := by
  obtain ⟨ds, h1, h2⟩ := Option.bind_eq_some_iff.mp h
  by_cases c : (y.flat && ds.all D.flat) = true
  · rw [if_pos c] at h2
    obtain ⟨j, h3, rfl⟩ := Option.map_eq_some_iff.mp h2
    obtain ⟨c1, c2⟩ := Bool.and_eq_true_iff.mp c
    exact ⟨ds, j, h1, c1, c2, h3, rfl⟩
  · rw [if_neg c] at h2
    cases h2
theorem isTup_at {x : V} {d : D} (r : RpI K mg F H x d) (e : Same F H) (h : isTupB (some d) = true) : ∃ ds a vs, d = .tup ds ∧ x = .ref a ∧ FT F a vs ∧ RpA K mg F vs ds := by
  cases d with
  | tup ds =>
    obtain ⟨a, vs, h1, h2, h3⟩ := r.tup e
    exact ⟨ds, a, vs, rfl, h1, h2, h3⟩
  | _ => cases h
theorem isLst_at {x : V} {d : D} (r : RpI K mg F H x d) (e : Same F H) (h : isLstB (some d) = true) : ∃ ds a vs, lsD d = some ds ∧ seqD d = some ds ∧ x = .ref a ∧ SqL K H a vs ∧ RpA K mg F vs ds := by
  have hd : ∃ ds, lsD d = some ds ∧ seqD d = some ds := by
    cases d <;> first | exact ⟨_, rfl, rfl⟩ | cases h
  obtain ⟨ds, h1, h2⟩ := hd
  obtain ⟨a, vs, e1, e2, e3⟩ := r.ls e h1
  exact ⟨ds, a, vs, h1, h2, e1, e3, e2⟩
end
section
variable {X : Cx} {W : WX} {o e : Expr} {mo ma : EM} {apos cpos : Pos}
theorem me_tindex (ho : ME X W o mo) (ha : ME X W e ma) (hbase : attributeBase o "index" X.env (eval o X.env) = eval o X.env := by rfl)
    (hfew : ((backTo cpos (starEach (e :: []) X.env)).all (fun x => !x.1) && (backToKw cpos (keywordEach [] X.env)).all (fun x => x.1.isSome)
      && decide ((e :: []).length + ([] : List Keyword).length + (if ([] : List Keyword).isEmpty then 0 else 1) < 30)) = true := by rfl)
    (hline : (apos.endLine == cpos.line) = true := by rfl) (hs : starEach (e :: []) X.env = (false, eval e X.env) :: starEach [] X.env := by rfl) (hplain : (backTo cpos (starEach [] X.env)).any (·.1) = false := by rfl) :
    ME X W (.Call (.Attribute o "index" apos) [e] [] cpos) (mMT dIndex mo ma) :=
  ME.weak (pe_bmT PySem.F.plainAttrs_tuple PySem.F.slot_tuple_index PySem.F.type_tuple_index mt_tindex ho (pa_cons ha pa_nil hs) hbase hfew hline hs hplain) fun {σ H Q G F ρ} S g =>
    sub S (Gd.opd (f := fun v ρ => if isTupB (v.get ρ) then (ma ρ).bind fun u ρ => if isTupB (v.get ρ) then ap2 dIndex v u.fz ρ else .bad else .bad) g fun v ρ1 F1 H1 x S1 e1 r1 k1 => by
      by_cases c : isTupB (v.get ρ1) = true
      · rw [if_pos c] at k1
        cases q : v.get ρ1 with
        | none => rw [q] at c; cases c
        | some d =>
          rw [q] at c
          obtain ⟨ds, a, vs, rfl, rfl, hT, ra⟩ := isTup_at (S1.get r1 q) S1.fh c
          refine ⟨⟨a, vs, rfl, hT.mono S1.fh⟩, sub S1 (Gd.opd (f := fun u ρ => if isTupB (v.get ρ) then ap2 dIndex v u ρ else .bad) k1 fun u ρ2 F2 H2 y S2 e2 r2 k2 => ?_)⟩
          by_cases c2 : isTupB (v.get ρ2) = true
          · rw [if_pos c2] at k2
            unfold ap2 at k2
            cases q2 : v.get ρ2 with
            | none => rw [q2] at c2; cases c2
            | some d2 =>
              rw [q2] at k2 c2
              obtain ⟨ds2, a2, vs2, rfl, ea, hT2, ra2⟩ := isTup_at (S2.get (r1.mono e2) q2) S2.fh c2
              cases ea
              cases q3 : u.get ρ2 with
              | none => rw [q3] at k2; exact k2.elim
              | some dy =>
                rw [q3] at k2
                obtain ⟨z, hz, kz⟩ := fin_rz S2 k2
                obtain ⟨ds3, j, h1, h2, h3, h4, rfl⟩ := index_some hz
                cases h1
                have ry := (S2.get r2 q3).rp S2.fh
                obtain ⟨f1, f2, zz, f3, f4, f5⟩ := index_at ra2 ry h2 h3 h4
                exact ⟨a, vs2, y, j, zz, rfl, rfl, (hT2.mono S2.fh).seq, f1, f2, f3, f4, f5, kz F2 H2 _ (.refl S2.fh) (.int _)⟩
          · rw [if_neg c2] at k2
            exact k2.elim
      · rw [if_neg c] at k1
        exact k1.elim)
theorem me_lindex (ho : ME X W o mo) (ha : ME X W e ma) (hbase : attributeBase o "index" X.env (eval o X.env) = eval o X.env := by rfl)
    (hfew : ((backTo cpos (starEach (e :: []) X.env)).all (fun x => !x.1) && (backToKw cpos (keywordEach [] X.env)).all (fun x => x.1.isSome)
      && decide ((e :: []).length + ([] : List Keyword).length + (if ([] : List Keyword).isEmpty then 0 else 1) < 30)) = true := by rfl)
    (hline : (apos.endLine == cpos.line) = true := by rfl) (hs : starEach (e :: []) X.env = (false, eval e X.env) :: starEach [] X.env := by rfl) (hplain : (backTo cpos (starEach [] X.env)).any (·.1) = false := by rfl) :
    ME X W (.Call (.Attribute o "index" apos) [e] [] cpos) (mML dIndex mo ma) :=
  ME.weak (pe_bm (T := "list") PySem.F.plainAttrs_list PySem.F.slot_list_index PySem.F.type_list_index mt_index ho (pa_cons ha pa_nil hs) hbase hfew hline hs hplain) fun {σ H Q G F ρ} S g =>
    sub S (Gd.opd (f := fun v ρ => if isLstB (v.get ρ) then (ma ρ).bind fun u ρ => if isLstB (v.get ρ) then ap2 dIndex v u.fz ρ else .bad else .bad) g fun v ρ1 F1 H1 x S1 e1 r1 k1 => by
      by_cases c : isLstB (v.get ρ1) = true
      · rw [if_pos c] at k1
        cases q : v.get ρ1 with
        | none => rw [q] at c; cases c
        | some d =>
          rw [q] at c
          obtain ⟨ds, a, vs, _, _, rfl, hT, ra⟩ := isLst_at (S1.get r1 q) S1.fh c
          refine ⟨.inl ⟨rfl, vs, hT⟩, sub S1 (Gd.opd (f := fun u ρ => if isLstB (v.get ρ) then ap2 dIndex v u ρ else .bad) k1 fun u ρ2 F2 H2 y S2 e2 r2 k2 => ?_)⟩
          by_cases c2 : isLstB (v.get ρ2) = true
          · rw [if_pos c2] at k2
            unfold ap2 at k2
            cases q2 : v.get ρ2 with
            | none => rw [q2] at c2; cases c2
            | some d2 =>
              rw [q2] at k2 c2
              obtain ⟨ds2, a2, vs2, _, hd2, ea, hT2, ra2⟩ := isLst_at (S2.get (r1.mono e2) q2) S2.fh c2
              cases ea
              cases q3 : u.get ρ2 with
              | none => rw [q3] at k2; exact k2.elim
              | some dy =>
                rw [q3] at k2
                obtain ⟨z, hz, kz⟩ := fin_rz S2 k2
                obtain ⟨ds3, j, h1, h2, h3, h4, rfl⟩ := index_some hz
                rw [hd2] at h1
                cases h1
                have ry := (S2.get r2 q3).rp S2.fh
                obtain ⟨f1, f2, zz, f3, f4, f5⟩ := index_at ra2 ry h2 h3 h4
                exact ⟨a, vs2, y, j, zz, rfl, rfl, hT2, f1, f2, f3, f4, f5, kz F2 H2 _ (.refl S2.fh) (.int _)⟩
          · rw [if_neg c2] at k2
            exact k2.elim
      · rw [if_neg c] at k1
        exact k1.elim)
/-- x.index(e), x a tuple or a list -/
def mIndex (mo ma : EM) : EM := mAlt (mMT dIndex mo ma) (mML dIndex mo ma)
theorem me_index (ho : ME X W o mo) (ha : ME X W e ma) (hbase : attributeBase o "index" X.env (eval o X.env) = eval o X.env := by rfl)
    (hfew : ((backTo cpos (starEach (e :: []) X.env)).all (fun x => !x.1) && (backToKw cpos (keywordEach [] X.env)).all (fun x => x.1.isSome)
      && decide ((e :: []).length + ([] : List Keyword).length + (if ([] : List Keyword).isEmpty then 0 else 1) < 30)) = true := by rfl)
    (hline : (apos.endLine == cpos.line) = true := by rfl) (hs : starEach (e :: []) X.env = (false, eval e X.env) :: starEach [] X.env := by rfl) (hplain : (backTo cpos (starEach [] X.env)).any (·.1) = false := by rfl) :
    ME X W (.Call (.Attribute o "index" apos) [e] [] cpos) (mIndex mo ma) := me_alt (me_tindex ho ha hbase hfew hline hs hplain) (me_lindex ho ha hbase hfew hline hs hplain)
end
end Mi
set_option Elab.async false
set_option linter.all false
set_option maxRecDepth 100000
set_option maxHeartbeats 2000000
/-! Mi, part Q: enumerate over tuples and lists, zip. -/
namespace PySem
namespace MiE
open Sem (wp)
theorem meets_enum1 {v : Value} {o : Obj} {H : Heap → Prop} (B : Begins v o H) :
    Meets (Builtin.«enumerate.__new__» ⟨[.type "enumerate", v], []⟩) (fun _ R s => H s.heap ∧
      R (.ok (.ret (.ref (s.heap.push o).objs.size))) { s with heap := (s.heap.push o).push { cls := .type "enumerate", data := .fields #[.none, .bool false, .ref s.heap.objs.size, rawInt 0, .none, .none] } }) :=
  .of_wp fun prog w A R s h => by
    obtain ⟨hp, g, d, tk, os⟩ := s; obtain ⟨h1, h⟩ := h
    have hsub := sub_enumerate
    have q1 : ∀ {A' : Around} {E : Value → Shared → Prop} {Q : Value → Shared → Prop}, Q (.ref hp.objs.size) ⟨hp.push o, g, d, tk, os⟩ → wpAny (model prog w) A' (pyIter v) Q E ⟨hp, g, d, tk, os⟩ :=
      fun q => B.iter prog w _ _ ⟨hp, g, d, tk, os⟩ _ h1 q
    wp_walk using q1
    refine wpAny_stack_any fun st => wpAny_pure ?_
    split
    · rename_i c _ _ _ _ _
      cases (c == Value.type "enumerate")
      · wp_walk using q1
        exact ⟨_, rfl, h⟩
      · wp_walk using q1
        exact ⟨_, rfl, h⟩
    · wp_walk using q1
      exact ⟨_, rfl, h⟩
section
variable {prog : Program} {w : World} {A : Around} {E : Value → Shared → Prop} {s : Shared}
theorem enum1 {v : Value} {o : Obj} {H : Heap → Prop} {Q : Value → Shared → Prop} (B : Begins v o H) (h1 : H s.heap)
    (h : ∀ h', IsEnum h' (s.heap.objs.size + 1) s.heap.objs.size 0 .none → h'.get? s.heap.objs.size = some o → h'.objs.size = s.heap.objs.size + 2 →
      (∀ b o, s.heap.get? b = some o → h'.get? b = some o) → Q (.ref (s.heap.objs.size + 1)) { s with heap := h' }) :
    wpAny (model prog w) A (call (.type "enumerate") [v]) Q E s := by
  refine callType_new F.called_enumerate (by decide) (F.typeCall_enumerate_1 _) (F.newCall_enumerate_1 _) (fun obj => F.args_object_init_2 obj _) F.entry_enumerate_new (meets_enum1 B) ⟨h1, ?_⟩
  have hz : (s.heap.push o).objs.size = s.heap.objs.size + 1 := Heap.size_push ..
  show _ ∧ _
  rw [hz]
  have he : IsEnum ((s.heap.push o).push { cls := .type "enumerate", data := .fields #[.none, .bool false, .ref s.heap.objs.size, rawInt 0, .none, .none] }) (s.heap.objs.size + 1) s.heap.objs.size 0 .none := by
    have := Heap.get?_push_size (s.heap.push o) (o := { cls := .type "enumerate", data := .fields #[.none, .bool false, .ref s.heap.objs.size, rawInt 0, .none, .none] }) rfl
    rw [hz] at this; exact this
  exact ⟨⟨_, he, rfl⟩, h _ he (Heap.get?_push_of_some _ (Heap.get?_push_size _ B.free)) (by rw [Heap.size_push, hz]) fun b o x => Heap.get?_push_of_some _ (Heap.get?_push_of_some _ x)⟩
theorem enum_endT {e it a : Addr} {i : Nat} {items : Array Value} {old : Value} {Q : Option Value → Shared → Prop} (hh : A.handled = none) (he : IsEnum s.heap e it (i : Int) old) (hit : s.heap.IsTupleIter it a i) (ha : s.heap.IsTuple a items) (hx : items[i]? = none)
    (hQ : ∀ h', Heap.ExtBut it s.heap h' → Q none { s with heap := h' }) : wpAny (model prog w) A (pyNext (.ref e)) Q E s := by
  have hT : s.TypeIs (.ref e) "enumerate" := ⟨_, he, rfl⟩
  unfold pyNext
  refine wpAny_bind (wpAny_attempt (wpAny_callSpecial?_slot (name := Str.ofString "__next__") hT F.slot_enumerate_next
    (wpAny_call_entry F.slot_enumerate_next hT F.entry_enumerate_next ?_ (F.args_enumerate_next_1 _))))
  show wpAny _ _ (field (.ref e) 2 >>= _) _ _ _
  refine wpAny_bind (wpAny_field he rfl (x := .ref it) rfl ?_)
  refine wpAny_bind (RZ.nextOf_tuple_end (show A.in1.handled = none from hh) hit ha hx fun h' x he' hx' => ?_)
  obtain ⟨o, ho, hc⟩ := hx'
  refine wpAny_bind (wpAny_isInstance (T := "StopIteration") (b := true) ⟨o, ho, hc⟩ isSubtype_stop ?_)
  exact wpAny_pure (hQ _ he')
end
end MiE
end PySem
namespace Mi
open PySem PySem.Spec PyProof.Rows L2 PySem.MiX
/-- the tuple at a as it stands at each turn, each item in a new pair -/
def IteT (K : PySem.W.Frag) (a : Addr) : It :=
  ⟨fun i H => ∃ (xs : List V) (x : V), SqT K H a xs ∧ xs[i]? = some x, fun i H v H' => ∃ T x, v = .ref T ∧ H T = none ∧ H' = upd H T (.tup [.int (i : Nat), x]) ∧ ∀ xs, SqT K H a xs → xs[i]? = some x, fun i H => ∃ xs : List V, SqT K H a xs ∧ xs.length ≤ i⟩
theorem turn_enumT {P : Program} {w : World} {K : PySem.W.Frag} {elts : List Expr} {kk : Nat} {tpos : Pos} (a e it : Addr) :
    Turn P w K (.Tuple elts kk tpos) (IteT K a) [e, it] e (fun i h => (∃ old, IsEnum h e it ((i : Nat) : Int) old) ∧ h.IsTupleIter it a i ∧ e ≠ it ∧ a ≠ it ∧ e ≠ a) where
  mem := by simp
  obj := fun i h st b hb => by
    obtain ⟨⟨old, he⟩, ⟨o, ho, hc, hd⟩, _⟩ := st
    have e' : b = e ∨ b = it := by simpa using hb
    rcases e' with z | z
    · rw [z]; exact ⟨_, he, fun v q => nomatch q⟩
    · rw [z]; exact ⟨o, ho, fun v q => by rw [hd] at q; cases q⟩
  keep := fun i h h' st k => let ⟨⟨old, he⟩, hi, hne⟩ := st; ⟨⟨old, k e (by simp) _ he⟩, hi.at fun o q => k it (by simp) o q, hne⟩
  item := by
    intro X hP hw hK hc i pins s σ H E I hf st hg
    subst hP hw hK
    obtain ⟨⟨old, he⟩, hit, hne, hai, hea⟩ := st
    obtain ⟨xs, x, hq, hx⟩ := hg
    obtain ⟨its, rv, p, hz⟩ := I.tuple hq
    obtain ⟨u, hu, ru⟩ := rv.get hx
    have hel : e < s.heap.objs.size := Heap.lt_size he
    have hil : it < s.heap.objs.size := by obtain ⟨_, q, _⟩ := hit; exact Heap.lt_size q
    have hlt : i < its.toArray.size := by
      rw [List.size_toArray]
      exact (List.getElem?_eq_some_iff.mp hu).1
    refine wpAny_pyNext_enum_itemD (Draws.tuple (show X.A.in1.handled = none from I.ok.hd hc) it a hai its.toArray) he ⟨hit, p⟩ hlt hne (by simp [hne, hea]) fun y h' tk hy ho hit' hT hsz hk => ?_
    have ey : y = u := by
      have hy' : its.toArray[i]? = some y := hy
      rw [List.getElem?_toArray, hu] at hy'
      exact (Option.some.inj hy').symm
    subst ey
    refine ⟨_, rfl, wpAny_letOwnedTupleGo_enum (s := { s with heap := h', toks := tk + 1 }) ho fun h'' he' sb => ?_⟩
    have hT2 : h''.get? s.heap.objs.size = some { cls := .type "tuple", data := .seq #[.int i tk, y] } := (sb.2 _ (Nat.ne_of_gt hel)).trans hT
    have new : ObjOk X.prog X.w (upd H s.heap.objs.size (.tup [.int (i : Nat), x])) h'' s.heap.objs.size (.tup [.int (i : Nat), x]) :=
      ⟨by show 2 ≤ sizeLine; decide, [.int i tk, y], .cons ⟨_, rfl⟩ (.cons ru .nil), ⟨_, hT2, rfl, _, rfl⟩⟩
    have I1 : Inv X pins σ (upd H s.heap.objs.size (.tup [.int (i : Nat), x])) { s with heap := h'', toks := tk + 1 } :=
      I.turnedNew (ch := [e, it]) (fun b ob hb q => (sb.2 b (fun z => hb (by simp [z]))).trans (hk b ob (fun z => hb (by simp [z])) (fun z => hb (by simp [z])) q)) hf (Nat.le_refl _) new
    refine ⟨.ref s.heap.objs.size, _, I1, rfl, ⟨_, x, rfl, I.hok.fresh (Nat.le_refl _), rfl, fun ys hy => by rw [I.tuple_inj hy hq]; exact hx⟩, ⟨⟨y, ?_⟩, hit'.1.at fun o q => (sb.2 it (Ne.symm hne)).trans q, hne, hai, hea⟩, fun b hb => ?_⟩
    · have e1 : ((i + 1 : Nat) : Int) = (i : Int) + 1 := by omega
      rw [e1]; exact he'
    · have hb' : b < s.heap.objs.size := by
        have e' : b = e ∨ b = it := by simpa using hb
        rcases e' with z | z
        · rw [z]; exact hel
        · rw [z]; exact hil
      rw [upd_ne (Nat.ne_of_lt hb')]
      exact (hf b hb).1
  done := by
    intro X hP hw hK hc i pins s σ H E I hf st hg
    subst hP hw hK
    obtain ⟨⟨old, he⟩, hit, hne, hai, hea⟩ := st
    obtain ⟨xs, hq, hx⟩ := hg
    obtain ⟨its, rv, p, hz⟩ := I.tuple hq
    obtain ⟨f0, f1, f2, f3, f4, f5⟩ := hf it (by simp)
    have hl := rv.length
    have hi2 : its.toArray[i]? = none := by
      rw [List.getElem?_toArray, List.getElem?_eq_none]
      omega
    exact PySem.MiE.enum_endT (I.ok.hd hc) he hit p hi2 fun h' eb => ⟨rfl, I.turned (t' := s.toks) (fun b o hb q => eb b o hb q) f0 f1 f3 f4 f5⟩
  self := fun A i s Q E st h => let ⟨⟨_, he⟩, _⟩ := st; wpAny_pyIter_enum he h
def iEnumT (K : PySem.W.Frag) (ta : TA) : TI := fun σ H R => ta σ H fun vs H1 => ∃ a xs, vs = [.ref a] ∧ SqT K H1 a xs ∧ R (IteT K a) H1
theorem pi_enumT {X : Cx} {e : Expr} {ta : TA} {p pos tpos : Pos} {elts : List Expr} {kk : Nat} (hg : Gl X "enumerate") (hm : X.mg "enumerate" = none) (ha : PA X [e] ta) (hs : starEach [e] X.env = [(false, eval e X.env)] := by rfl) :
    PI X (.Tuple elts kk tpos) (.Call (.Name "enumerate" p) [e] [] pos) (iEnumT X.K ta) := by
  refine ⟨fun pins s σ H R I h => ?_⟩
  refine Call_ (ld_blt I hg hm boot_enumerate (PyProof.Rows.callWith_type1 (thn (ha.run pos pins s σ H _ I h) fun us s1 ⟨vs, H1, I1, r1, q1⟩ => ?_) hs rfl))
  obtain ⟨a, xs, ex, hq, q⟩ := q1
  subst ex
  cases r1 with
  | cons r rr =>
    cases rr
    cases r
    obtain ⟨its, rv, p', hz⟩ := I1.tuple hq
    have hal : a < s1.heap.objs.size := by obtain ⟨_, e1, _⟩ := p'; exact Heap.lt_size e1
    refine PySem.MiE.enum1 (begins_tuple a its.toArray) p' fun h' he hit hsz hk => wpAny_pyIter_enum he ?_
    have I2 : Inv X pins σ H1 { s1 with heap := h' } := I1.kept (t' := s1.toks) hk
    refine ⟨s1.heap.objs.size + 1, [s1.heap.objs.size + 1, s1.heap.objs.size], _, _, H1, rfl, I2, turn_enumT a (s1.heap.objs.size + 1) s1.heap.objs.size, ⟨⟨.none, he⟩, ⟨_, hit, rfl, rfl⟩, Nat.succ_ne_self _, Nat.ne_of_lt hal, Nat.ne_of_gt (Nat.lt_succ_of_lt hal)⟩, fun b hb => ?_, q⟩
    have e' : b = s1.heap.objs.size + 1 ∨ b = s1.heap.objs.size := by simpa using hb
    have hle : s1.heap.objs.size ≤ b := by
      rcases e' with z | z
      · rw [z]; exact Nat.le_succ _
      · rw [z]; exact Nat.le_refl _
    exact I1.fpOk hle (I1.hok.fresh hle)
/-! ### their mirrors -/
def enumL : Nat → List D → List IV
  | _, [] => []
  | i, d :: r => .pair (.int (i : Nat)) d :: enumL (i + 1) r
def zipL : List D → List D → List IV
  | d :: r, e :: s => .pair d e :: zipL r s
  | _, _ => []
section
variable {K : PySem.W.Frag} {mg : Str → Option Value} {W : WX} {F F' H H' : Hp} {G : Gh} {σ : St} {ρ : En}
theorem enumL_get : ∀ {ds : List D} {k i : Nat} {iv : IV}, (enumL k ds)[i]? = some iv → ∃ d, ds[i]? = some d ∧ iv = .pair (.int ((k + i : Nat))) d
  | [], _, _, _, h => by simp [enumL] at h
  | d :: r, k, 0, iv, h => by
    cases h
    exact ⟨d, rfl, rfl⟩
  | d :: r, k, i + 1, iv, h => by
    obtain ⟨e, h1, h2⟩ := enumL_get (ds := r) (k := k + 1) (i := i) (iv := iv) h
    refine ⟨e, h1, ?_⟩
    rw [h2, show k + 1 + i = k + (i + 1) by omega]
theorem enumL_len : ∀ {ds : List D} {k : Nat}, (enumL k ds).length = ds.length
  | [], _ => rfl
  | _ :: r, k => congrArg Nat.succ (enumL_len (ds := r) (k := k + 1))
theorem zipL_get : ∀ {ds es : List D} {i : Nat} {iv : IV}, (zipL ds es)[i]? = some iv → ∃ d e, ds[i]? = some d ∧ es[i]? = some e ∧ iv = .pair d e
  | [], _, _, _, h => by simp [zipL] at h
  | _ :: _, [], _, _, h => by simp [zipL] at h
  | d :: r, e :: s, 0, iv, h => by
    cases h
    exact ⟨d, e, rfl, rfl, rfl⟩
  | d :: r, e :: s, i + 1, iv, h => zipL_get (ds := r) (es := s) (i := i) h
theorem zipL_len : ∀ {ds es : List D}, (zipL ds es).length = min ds.length es.length
  | [], _ => by simp [zipL]
  | _ :: _, [] => by simp [zipL]
  | _ :: r, _ :: s => by
    show (zipL r s).length + 1 = _
    rw [zipL_len (ds := r) (es := s), List.length_cons, List.length_cons]
    omega
theorem jok_enumT {a : Addr} {vs : List V} {ds : List D} (h : FT F a vs) (r : RpA K mg F vs ds) : JOk K mg F (IteT K a) (enumL 0 ds) := by
  refine ⟨fun F2 H2 i e1 e2 hi => ⟨vs, (h.mono (e1.trans e2)).seq, by rw [r.len]; rw [enumL_len] at hi; exact hi⟩, fun F2 H2 i iv e1 e2 hi => ?_, fun F2 H2 i iv x H' e1 e2 hi hy => ?_⟩
  · obtain ⟨d, hd, rfl⟩ := enumL_get hi
    obtain ⟨v, hv, _⟩ := r.get hd
    exact ⟨vs, v, (h.mono (e1.trans e2)).seq, hv⟩
  · obtain ⟨d, hd, rfl⟩ := enumL_get hi
    obtain ⟨v, hv, rv⟩ := r.get hd
    obtain ⟨T, y, rfl, hT, rfl, k⟩ := hy
    have e := k vs (h.mono (e1.trans e2)).seq
    rw [hv] at e
    cases e
    refine ⟨F2, ⟨Same.refl _, same_upd hT, e2.trans (same_upd hT), fun _ _ h => .inl h⟩, .pair (.inl (.inl upd_same)) ?_ (rv.mono e1)⟩
    rw [Nat.zero_add]
    exact .int _
theorem jok_enumL {a : Addr} {vs : List V} {ds : List D} (h : SqL K F a vs) (r : RpA K mg F vs ds) : JOk K mg F (Ite K a) (enumL 0 ds) := by
  refine ⟨fun F2 H2 i e1 e2 hi => ⟨vs, (e1.trans e2).seq h, by rw [r.len]; rw [enumL_len] at hi; exact hi⟩, fun F2 H2 i iv e1 e2 hi => ?_, fun F2 H2 i iv x H' e1 e2 hi hy => ?_⟩
  · obtain ⟨d, hd, rfl⟩ := enumL_get hi
    obtain ⟨v, hv, _⟩ := r.get hd
    exact ⟨vs, v, (e1.trans e2).seq h, hv⟩
  · obtain ⟨d, hd, rfl⟩ := enumL_get hi
    obtain ⟨v, hv, rv⟩ := r.get hd
    obtain ⟨T, y, rfl, hT, rfl, k⟩ := hy
    have e := k vs ((e1.trans e2).seq h)
    rw [hv] at e
    cases e
    refine ⟨F2, ⟨Same.refl _, same_upd hT, e2.trans (same_upd hT), fun _ _ h => .inl h⟩, .pair (.inl (.inl upd_same)) ?_ (rv.mono e1)⟩
    rw [Nat.zero_add]
    exact .int _
theorem jok_zipT {a b : Addr} {vs ws : List V} {ds es : List D} (h : FT F a vs) (r : RpA K mg F vs ds) (h' : FT F b ws) (r' : RpA K mg F ws es) : JOk K mg F (RZ.ItzT K a b) (zipL ds es) := by
  refine ⟨fun F2 H2 i e1 e2 hi => ⟨vs, ws, (h.mono (e1.trans e2)).seq, (h'.mono (e1.trans e2)).seq, by rw [r.len, r'.len]; rw [zipL_len] at hi; omega⟩, fun F2 H2 i iv e1 e2 hi => ?_, fun F2 H2 i iv x H' e1 e2 hi hy => ?_⟩
  · obtain ⟨d, e, hd, he, rfl⟩ := zipL_get hi
    obtain ⟨v, hv, _⟩ := r.get hd
    obtain ⟨w, hw, _⟩ := r'.get he
    exact ⟨vs, ws, v, w, (h.mono (e1.trans e2)).seq, (h'.mono (e1.trans e2)).seq, hv, hw⟩
  · obtain ⟨d, e, hd, he, rfl⟩ := zipL_get hi
    obtain ⟨v, hv, rv⟩ := r.get hd
    obtain ⟨w, hw, rw'⟩ := r'.get he
    obtain ⟨T, y, z, rfl, hT, rfl, k, k'⟩ := hy
    have q := k vs (h.mono (e1.trans e2)).seq
    have q' := k' ws (h'.mono (e1.trans e2)).seq
    rw [hv] at q
    rw [hw] at q'
    cases q
    cases q'
    exact ⟨F2, ⟨Same.refl _, same_upd hT, e2.trans (same_upd hT), fun _ _ h => .inl h⟩, .pair (.inl (.inl upd_same)) (rv.mono e1) (rw'.mono e1)⟩
theorem jok_zipL {a b : Addr} {vs ws : List V} {ds es : List D} (h : SqL K F a vs) (r : RpA K mg F vs ds) (h' : SqL K F b ws) (r' : RpA K mg F ws es) : JOk K mg F (Itz K a b) (zipL ds es) := by
  refine ⟨fun F2 H2 i e1 e2 hi => ⟨vs, ws, (e1.trans e2).seq h, (e1.trans e2).seq h', by rw [r.len, r'.len]; rw [zipL_len] at hi; omega⟩, fun F2 H2 i iv e1 e2 hi => ?_, fun F2 H2 i iv x H' e1 e2 hi hy => ?_⟩
  · obtain ⟨d, e, hd, he, rfl⟩ := zipL_get hi
    obtain ⟨v, hv, _⟩ := r.get hd
    obtain ⟨w, hw, _⟩ := r'.get he
    exact ⟨vs, ws, v, w, (e1.trans e2).seq h, (e1.trans e2).seq h', hv, hw⟩
  · obtain ⟨d, e, hd, he, rfl⟩ := zipL_get hi
    obtain ⟨v, hv, rv⟩ := r.get hd
    obtain ⟨w, hw, rw'⟩ := r'.get he
    obtain ⟨T, y, z, rfl, hT, rfl, k, k'⟩ := hy
    have q := k vs ((e1.trans e2).seq h)
    have q' := k' ws ((e1.trans e2).seq h')
    rw [hv] at q
    rw [hw] at q'
    cases q
    cases q'
    exact ⟨F2, ⟨Same.refl _, same_upd hT, e2.trans (same_upd hT), fun _ _ h => .inl h⟩, .pair (.inl (.inl upd_same)) (rv.mono e1) (rw'.mono e1)⟩
end
/-- for i, x in enumerate(e); for x, y in zip(a, b): what is walked is data (an own list is frozen) -/
def mEnum (m : EM) : IM := fun ρ => (m ρ).bind fun v ρ => match esc v.fz ρ with
  | some (d, ρ) => (match seqD d with
    | some ds => .ok (enumL 0 ds) ρ
    | none => .bad)
  | none => .bad
def sameKind : D → D → Bool
  | .tup _, .tup _ => true
  | .lst _, .lst _ => true
  | .frl _, .frl _ => true
  | .lst _, .frl _ => true
  | .frl _, .lst _ => true
  | _, _ => false
def mZip (ma mb : EM) : IM := fun ρ => (mArg ma (mArg mb mNil) ρ).bind fun vs ρ => match vs with
  | [.d d, .d e] => if sameKind d e then (match seqD d with
    | some ds => (match seqD e with
      | some es => .ok (zipL ds es) ρ
      | none => .bad)
    | none => .bad) else .bad
  | _ => .bad
section
variable {K : PySem.W.Frag} {mg : Str → Option Value} {F H : Hp}
theorem Rp.seqs {x : V} {d : D} {ds : List D} (h : Rp K mg F x d) (hd : seqD d = some ds) : ∃ a vs, x = .ref a ∧ RpA K mg F vs ds ∧ ((SqL K F a vs ∧ ∀ xs, d ≠ .tup xs) ∨ (FT F a vs ∧ d = .tup ds)) := RpI.seq (Same.refl F) (.fz h) hd
end
section
variable {X : Cx} {W : WX} {e e2 : Expr} {m m2 : EM} {p pos tpos : Pos} {elts : List Expr} {kk : Nat}
theorem mi_enum (hg : Gl X "enumerate") (hm : X.mg "enumerate" = none) (he : ME X W e m) (hs : starEach [e] X.env = [(false, eval e X.env)] := by rfl) (hs1 : starEach [e] X.env = (false, eval e X.env) :: starEach [] X.env := by rfl) :
    MI X W (.Tuple elts kk tpos) (.Call (.Name "enumerate" p) [e] [] pos) (mEnum m) :=
  MI.weak (PI.or (pi_enum hg hm (pa_cons he pa_nil hs1) hs) (pi_enumT hg hm (pa_cons he pa_nil hs1) hs)) fun {σ H Q G F ρ} S k => by
    unfold mEnum at k
    cases q : m ρ with
    | bad =>
      rw [q] at k
      exact k.elim
    | ex x ρ1 =>
      rw [q] at k
      exact .inl (sub S (by rw [q]; exact k))
    | ok v ρ1 =>
      rw [q] at k
      dsimp only [R.bind] at k
      cases q1 : esc v.fz ρ1 with
      | none =>
        rw [q1] at k
        exact k.elim
      | some p =>
        obtain ⟨d, ρ2⟩ := p
        rw [q1] at k
        dsimp only at k
        cases q2 : seqD d with
        | none =>
          rw [q2] at k
          exact k.elim
        | some ds =>
          rw [q2] at k
          have core : ∀ F1 H1 x, Sat X.K X.mg G F1 H1 σ ρ1 → Same F F1 → RpO X.K X.mg G F1 H1 σ ρ1 x v → ∃ F3, Same F F3 ∧ Sat X.K X.mg G F3 H1 σ ρ2 ∧ Rp X.K X.mg F3 x d := fun F1 H1 x S1 e1 r1 => by
            obtain ⟨F2, e2, S2, r2⟩ := S1.fz r1
            obtain ⟨F3, e3, S3, r3⟩ := S2.esc r2 q1
            exact ⟨F3, (e1.trans e2).trans e3, S3, r3⟩
          by_cases ht : ∃ xs, d = .tup xs
          · refine .inr (sub S ?_)
            rw [q]
            intro F1 H1 x S1 e1 r1
            obtain ⟨F3, e3, S3, r3⟩ := core F1 H1 x S1 e1 r1
            obtain ⟨a, vs, rfl, ra, h | h⟩ := r3.seqs q2
            · obtain ⟨xs, rfl⟩ := ht
              exact absurd rfl (h.2 xs)
            · exact ⟨a, vs, rfl, (h.1.mono S3.fh).seq, k F3 H1 _ S3 e3 (jok_enumT h.1 ra)⟩
          · refine .inl (sub S ?_)
            rw [q]
            intro F1 H1 x S1 e1 r1
            obtain ⟨F3, e3, S3, r3⟩ := core F1 H1 x S1 e1 r1
            obtain ⟨a, vs, rfl, ra, h | h⟩ := r3.seqs q2
            · exact ⟨a, vs, rfl, S3.fh.seq h.1, k F3 H1 _ S3 e3 (jok_enumL h.1 ra)⟩
            · exact absurd ⟨_, h.2⟩ ht
theorem mi_zip (hg : Gl X "zip") (hm : X.mg "zip" = none) (ha : ME X W e m) (hb : ME X W e2 m2) (hs : starEach [e, e2] X.env = (false, eval e X.env) :: starEach [e2] X.env := by rfl) (hs2 : starEach [e2] X.env = (false, eval e2 X.env) :: starEach [] X.env := by rfl)
    (hpl : (backTo pos (starEach [e2] X.env)).any (·.1) = false := by rfl) : MI X W (.Tuple elts kk tpos) (.Call (.Name "zip" p) [e, e2] [] pos) (mZip m m2) :=
  MI.weak (RZ.pi_zipA hg hm (ma_arg ha (ma_arg hb ma_nil hs2) hs) hs hpl) fun {σ H Q G F ρ} S k => subA S (Gd.bind k fun vs ρ1 F1 H1 xs hq0 S1 e1 r1 k1 => by
    cases r1 with
    | nil => exact k1.elim
    | cons r1 rr =>
      cases rr with
      | nil => cases r1 <;> exact k1.elim
      | cons r2 rr =>
        cases rr with
        | cons r3 r4 => cases r1 <;> first | exact k1.elim | (cases r2 <;> exact k1.elim)
        | nil =>
          cases r1 with
          | o h => exact k1.elim
          | d r1 =>
            cases r2 with
            | o h => exact k1.elim
            | d r2 =>
              rename_i x y d e
              dsimp only at k1
              by_cases hk : sameKind d e = true
              · rw [if_pos hk] at k1
                cases q1 : seqD d with
                | none => rw [q1] at k1; exact k1.elim
                | some ds =>
                  rw [q1] at k1
                  cases q2 : seqD e with
                  | none => rw [q2] at k1; exact k1.elim
                  | some es =>
                    rw [q2] at k1
                    obtain ⟨a, vs, rfl, ra, h⟩ := r1.seqs q1
                    obtain ⟨b, ws, rfl, rb, h'⟩ := r2.seqs q2
                    refine ⟨a, b, vs, ws, rfl, ?_⟩
                    rcases h with ⟨h, hn⟩ | ⟨h, hd⟩
                    · rcases h' with ⟨h', hn'⟩ | ⟨h', hd'⟩
                      · exact .inl ⟨S1.fh.seq h, S1.fh.seq h', k1 F1 H1 _ S1 (Same.refl _) (jok_zipL h ra h' rb)⟩
                      · subst hd'
                        cases d <;> first | (cases hk; done) | (exact absurd rfl (hn _))
                    · rcases h' with ⟨h', hn'⟩ | ⟨h', hd'⟩
                      · subst hd
                        cases e <;> first | (cases hk; done) | (exact absurd rfl (hn' _))
                      · exact .inr ⟨(h.mono S1.fh).seq, (h'.mono S1.fh).seq, k1 F1 H1 _ S1 (Same.refl _) (jok_zipT h ra h' rb)⟩
              · rw [if_neg hk] at k1
                exact k1.elim)
end
end Mi
set_option Elab.async false
set_option linter.all false
set_option maxRecDepth 100000
set_option maxHeartbeats 2000000
/-! Mi, part R: comprehensions of two fors. -/
namespace Mi
open PySem PySem.Spec PyProof.Rows L2 PySem.MiX
/-- one turn of a comprehension -/
def turnL (vs : List Nat) (gm : GM) (tt : TM) (te : EM) (iv : IV) (acc : List D) (ρ : En) : R (List D) := match gm iv ρ with
  | some ρ => (match tt ρ with
    | .ok true ρ => (match te ρ with
      | .ok v ρ => (match esc v.fz ρ with
        | some (d, ρ) => if acc.length < BIG then (if vs.all (canSet ρ) then .ok (acc ++ [d]) (wipeE ρ vs) else .bad) else .bad
        | none => .bad)
      | _ => .bad)
    | .ok false ρ => if vs.all (canSet ρ) then .ok acc (wipeE ρ vs) else .bad
    | _ => .bad)
  | none => .bad
def foldT (f : IV → List D → En → R (List D)) : List IV → List D → En → R (List D)
  | [], acc, ρ => .ok acc ρ
  | iv :: r, acc, ρ => match f iv acc ρ with
    | .ok acc ρ => foldT f r acc ρ
    | _ => .bad
/-- the names of the new list's turns: where it stands, what it holds -/
structure LSt (K : PySem.W.Frag) (mg : Str → Option Value) (G : Gh) (F H : Hp) (σ : St) (ρ : En) (L : Addr) (acc : List D) : Prop where
  sat : Sat K mg G F H σ ρ
  lst : ∃ xs, H L = some (.lst xs) ∧ RpA K mg F xs acc
  nF : F L = none
  nL : ∀ j : Nat, isOw ρ[j]? = true → σ[j]? = some (some (V.ref L)) → False
section
variable {K : PySem.W.Frag} {mg : Str → Option Value} {W : WX} {F F' H H' : Hp} {G : Gh} {σ : St} {ρ : En} {L : Addr} {acc : List D}
theorem LSt.ext (S : LSt K mg G F H σ ρ L acc) (ex : Ext F H F' H') : LSt K mg G F' H' σ ρ L acc := by
  obtain ⟨xs, hL, rA⟩ := S.lst
  refine ⟨S.sat.ext ex, ⟨xs, ex.hh _ _ hL, rA.mono ex.ff⟩, ?_, S.nL⟩
  cases q : F' L with
  | none => rfl
  | some z =>
    rcases ex.nw L z q with q | q
    · rw [S.nF] at q; cases q
    · rw [hL] at q; cases q
/-- within a block that was entered at S (slots σ, ρ): the list stands still -/
theorem LSt.still (S : LSt K mg G F H σ ρ L acc) {F5 H5 : Hp} {σ3 : St} {ρ5 : En} (S5 : Sat K mg (G.blk F H σ ρ) F5 H5 σ3 ρ5) : LSt K mg G F5 H5 σ3 ρ5 L acc := by
  obtain ⟨xs, hL, rA⟩ := S.lst
  have nO : ¬ (G.blk F H σ ρ).O L := fun ⟨j, h1, h2⟩ => S.nL j h1 h2
  refine ⟨S.sat.unblock S5, ⟨xs, S5.h0 L _ hL nO, rA.mono S5.f0⟩, ?_, fun j hj hs => ?_⟩
  · cases q5 : F5 L with
    | none => rfl
    | some z =>
      rcases S5.fn L z q5 with q6 | q6 | q6
      · have q6' : F L = some z := q6
        rw [S.nF] at q6'
        cases q6'
      · have q6' : H L = none := q6
        rw [hL] at q6'
        cases q6'
      · exact absurd q6 nO
  · obtain ⟨a, io, w, q7, h1, h2, h3⟩ := S5.owAt hj
    rw [hs] at h1
    cases h1
    obtain ⟨c, c1, _, _, c4⟩ := S5.own j io w q7
    rw [hs] at c1
    cases c1
    rcases c4 with c4 | c4
    · exact nO c4
    · have c5 : H L = none := c4
      rw [hL] at c5
      cases c5
theorem LSt.wipe (S : LSt K mg G F H σ ρ L acc) {vs : List Nat} (hc : vs.all (canSet ρ) = true) : LSt K mg G F H (L2.wipe σ vs) (wipeE ρ vs) L acc := by
  refine ⟨S.sat.wipe hc, S.lst, S.nF, fun j hj hs => ?_⟩
  by_cases hv : j ∈ vs
  · rw [wipe_in hv] at hs
    split at hs <;> cases hs
  · rw [wipeE_out hv] at hj
    rw [wipe_out hv] at hs
    exact S.nL j hj hs
theorem LSt.add (S : LSt K mg G F H σ ρ L acc) (gL : G.O L ∨ G.H0 L = none) {y : V} {d : D} (r : Rp K mg F y d) : ∃ xs, H L = some (.lst xs) ∧ xs.length = acc.length ∧ LSt K mg G F (L2.upd H L (.lst (xs ++ [y]))) σ ρ L (acc ++ [d]) := by
  obtain ⟨xs, hL, rA⟩ := S.lst
  exact ⟨xs, hL, rA.len, S.sat.grow S.nF S.nL gL, ⟨_, upd_same, rA.app (.one r)⟩, S.nF, S.nL⟩
/-- a turn, as its mirror says -/
theorem turn_ok {vs is : List Nat} {g : TG} {gm : GM} {tt : TM} {te : EM} {iv : IV} {x : V} {acc' : List D} {ρ' : En} {Nx : Hp → Prop} (hgm : TgOk K mg is g gm) (his : ∀ i ∈ is, i ∈ vs) (gL : G.O L ∨ G.H0 L = none) (S : LSt K mg G F H (L2.wipe σ vs) ρ L acc)
    (rv : RpV K mg F H x iv) (k : turnL vs gm tt te iv acc ρ = .ok acc' ρ') (hN : ∀ F' H', Same F F' → LSt K mg G F' H' (L2.wipe σ vs) ρ' L acc' → Nx H') :
    g x (L2.wipe σ vs) H fun σ2 H2 => L2.wipe σ2 vs = L2.wipe σ vs ∧ tT K mg W0 tt σ2 H2 fun b H3 =>
      if b = true then tE K mg W0 te σ2 H3 fun y H4 => ∃ acc, H4 L = some (.lst acc) ∧ acc.length < sizeLine ∧ Nx (L2.upd H4 L (.lst (acc ++ [y]))) else Nx H3 := by
  unfold turnL at k
  cases q : gm iv ρ with
  | none =>
    rw [q] at k
    cases k
  | some ρ3 =>
    rw [q] at k
    dsimp only at k
    refine hgm S.sat.block rv q fun σ3 S4 same3 len3 => ?_
    have hw : L2.wipe σ3 vs = L2.wipe σ vs := by
      rw [← wipe_wipe (σ := σ)]
      exact wipe_same len3 fun j hj => same3 j fun z => hj (his j z)
    refine ⟨hw, subT S4 ?_⟩
    cases qt : tt ρ3 with
    | bad => rw [qt] at k; cases k
    | ex x ρ4 => rw [qt] at k; cases k
    | ok t ρ4 =>
      rw [qt] at k
      intro F4 H4 b S5 e5 eb
      subst eb
      cases b with
      | false =>
        dsimp only at k
        rw [if_neg Bool.false_ne_true]
        by_cases hc : vs.all (canSet ρ4) = true
        · rw [if_pos hc] at k
          cases k
          have S6 := (S.still S5).wipe hc
          rw [hw] at S6
          exact hN F4 H4 e5 S6
        · rw [if_neg hc] at k
          cases k
      | true =>
        dsimp only at k
        rw [if_pos rfl]
        refine sub S5 ?_
        cases qe : te ρ4 with
        | bad => rw [qe] at k; cases k
        | ex x ρ5 => rw [qe] at k; cases k
        | ok v ρ5 =>
          rw [qe] at k
          dsimp only at k
          intro F5 H5 y S6 e6 r6
          obtain ⟨F6, e7, S7, r7⟩ := S6.fz r6
          cases q8 : esc v.fz ρ5 with
          | none => rw [q8] at k; cases k
          | some p =>
            obtain ⟨d, ρ6⟩ := p
            rw [q8] at k
            dsimp only at k
            obtain ⟨F7, e8, S8, r8⟩ := S7.esc r7 q8
            by_cases hz : acc.length < BIG
            · rw [if_pos hz] at k
              by_cases hc : vs.all (canSet ρ6) = true
              · rw [if_pos hc] at k
                cases k
                have S9 := (S.still S8).wipe hc
                rw [hw] at S9
                obtain ⟨xs, h1, h2, h3⟩ := S9.add gL r8
                exact ⟨xs, h1, by rw [h2]; exact Nat.lt_of_lt_of_le hz BIG_le, hN F7 _ (((e5.trans e6).trans e7).trans e8) h3⟩
              · rw [if_neg hc] at k
                cases k
            · rw [if_neg hz] at k
              cases k
end
/-! ### two fors -/
def turn2 (vs : List Nat) (gm : GM) (tt : TM) (im1 : IM) (vs1 : List Nat) (gm1 : GM) (tt1 : TM) (te : EM) (iv : IV) (acc : List D) (ρ : En) : R (List D) := match gm iv ρ with
  | some ρ => (match tt ρ with
    | .ok true ρ => (match im1 ρ with
      | .ok ivs ρ => if vs1.all (canSet ρ) then (match foldT (turnL vs1 gm1 tt1 te) ivs acc (wipeE ρ vs1) with
        | .ok acc ρ => if vs.all (canSet ρ) then .ok acc (wipeE ρ vs) else .bad
        | _ => .bad) else .bad
      | _ => .bad)
    | .ok false ρ => if vs.all (canSet ρ) then .ok acc (wipeE ρ vs) else .bad
    | _ => .bad)
  | none => .bad
def mComp2 (vs : List Nat) (im : IM) (gm : GM) (tt : TM) (im1 : IM) (vs1 : List Nat) (gm1 : GM) (tt1 : TM) (te : EM) : EM := fun ρ => (im ρ).bind fun ivs ρ1 => if vs.all (noOw ρ1) then (match foldT (turn2 vs gm tt im1 vs1 gm1 tt1 te) ivs [] (wipeE ρ1 vs) with
  | .ok acc ρ2 => .ok (.n (.lst acc)) (restE ρ1 ρ2 vs)
  | _ => .bad) else .bad
section
variable {K : PySem.W.Frag} {mg : Str → Option Value} {W : WX} {F F' H H' : Hp} {G : Gh} {σ : St} {ρ : En} {L : Addr} {acc : List D}
variable {vs is vs1 is1 : List Nat} {g g1 : TG} {gm gm1 : GM} {im im1 : IM} {tt tt1 : TM} {te : EM}
theorem comp2_ok {Q : VK} (hgm : TgOk K mg is g gm) (his : ∀ i ∈ is, i ∈ vs) (hgm1 : TgOk K mg is1 g1 gm1) (his1 : ∀ i ∈ is1, i ∈ vs1) (hv : ∀ i ∈ vs1, i ∈ vs) (S : Sat K mg G F H σ ρ) (k : Gd K mg W (RpO K mg) G F σ (mComp2 vs im gm tt im1 vs1 gm1 tt1 te ρ) Q) :
    tLc2 (tI K mg W im) g (tT K mg W0 tt) (tI K mg W0 im1) g1 (tT K mg W0 tt1) (tE K mg W0 te) vs vs1 σ H Q := by
  refine ⟨G, F, ρ, S, Gd.bind k fun ivs ρ1 F1 H1 J _ S1 e1 jok k1 => ?_⟩
  intro L hL
  by_cases hn : vs.all (noOw ρ1) = true
  · rw [if_pos hn] at k1
    have gL : G.O L ∨ G.H0 L = none := (S1.fresh0 hL).symm
    have SL : Sat K mg G F1 (L2.upd H1 L (.lst [])) σ ρ1 := (S1.newOwn hL (OwOk.lst upd_same .nil)).1
    have L0 : LSt K mg G F1 (L2.upd H1 L (.lst [])) σ ρ1 L [] := ⟨SL, ⟨[], upd_same, .nil⟩, S1.fh.free hL, fun j hj hs => by
      obtain ⟨a, _, _, _, ha, _, ok⟩ := S1.owAt hj
      rw [hs] at ha
      cases ha
      obtain ⟨z, hz⟩ := ok.at
      rw [hL] at hz
      cases hz⟩
    -- what stands at turn i
    refine ⟨fun i m H => i + m = ivs.length ∧ ∃ F ρ acc, LSt K mg G F H (L2.wipe σ vs) ρ L acc ∧ Same F1 F ∧
      Gd K mg W (RpO K mg) G F σ (match foldT (turn2 vs gm tt im1 vs1 gm1 tt1 te) (ivs.drop i) acc ρ with
        | .ok acc ρ2 => .ok (.n (.lst acc)) (restE ρ1 ρ2 vs)
        | _ => .bad) Q, ⟨ivs.length, by omega, F1, wipeE ρ1 vs, [], L0.wipe (noOw_can hn), Same.refl _, k1⟩, ?_⟩
    rintro i m H2 ⟨him, F2, ρ2, acc, S2, e2, k2⟩
    by_cases hi : i < ivs.length
    · have hiv : ivs[i]? = some ivs[i] := List.getElem?_eq_getElem hi
      rw [List.drop_eq_getElem_cons hi] at k2
      unfold foldT at k2
      refine .inr ⟨jok.go F2 H2 i _ e2 S2.sat.fh hiv, fun H => ∃ F ρ acc, LSt K mg G F H (L2.wipe σ vs) ρ L acc ∧ Same F1 F ∧
        Gd K mg W (RpO K mg) G F σ (match foldT (turn2 vs gm tt im1 vs1 gm1 tt1 te) (ivs.drop (i + 1)) acc ρ with
          | .ok acc ρ2 => .ok (.n (.lst acc)) (restE ρ1 ρ2 vs)
          | _ => .bad) Q, fun H' hN => ⟨m - 1, by omega, by omega, hN⟩, fun x H' hy => ?_⟩
      obtain ⟨F3, ex, rv⟩ := jok.yld F2 H2 i _ x H' e2 S2.sat.fh hiv hy
      have S3 := S2.ext ex
      cases qq : turn2 vs gm tt im1 vs1 gm1 tt1 te ivs[i] acc ρ2 with
      | bad => rw [qq] at k2; exact k2.elim
      | ex _ _ => rw [qq] at k2; exact k2.elim
      | ok acc' ρ' =>
        rw [qq] at k2
        dsimp only at k2
        have fin : ∀ F' H', Same F3 F' → LSt K mg G F' H' (L2.wipe σ vs) ρ' L acc' → ∃ F ρ acc, LSt K mg G F H' (L2.wipe σ vs) ρ L acc ∧ Same F1 F ∧
            Gd K mg W (RpO K mg) G F σ (match foldT (turn2 vs gm tt im1 vs1 gm1 tt1 te) (ivs.drop (i + 1)) acc ρ with
              | .ok acc ρ2 => .ok (.n (.lst acc)) (restE ρ1 ρ2 vs)
              | _ => .bad) Q := fun F' H' e h => ⟨F', ρ', acc', h, (e2.trans ex.ff).trans e, Gd.mono (ex.ff.trans e) k2⟩
        unfold turn2 at qq
        cases q : gm ivs[i] ρ2 with
        | none => rw [q] at qq; cases qq
        | some ρ3 =>
          rw [q] at qq
          dsimp only at qq
          refine hgm S3.sat.block rv q fun σ3 S4 same3 len3 => ?_
          have hw : L2.wipe σ3 vs = L2.wipe σ vs := by
            rw [← wipe_wipe (σ := σ)]
            exact wipe_same len3 fun j hj => same3 j fun z => hj (his j z)
          refine ⟨hw, subT S4 ?_⟩
          cases qt : tt ρ3 with
          | bad => rw [qt] at qq; cases qq
          | ex _ _ => rw [qt] at qq; cases qq
          | ok t ρ4 =>
            rw [qt] at qq
            intro F4 H4 b S5 e5 eb
            subst eb
            cases b with
            | false =>
              dsimp only at qq
              rw [if_neg Bool.false_ne_true]
              by_cases hc : vs.all (canSet ρ4) = true
              · rw [if_pos hc] at qq
                cases qq
                have S6 := (S3.still S5).wipe hc
                rw [hw] at S6
                exact fin F4 H4 e5 S6
              · rw [if_neg hc] at qq
                cases qq
            | true =>
              dsimp only at qq
              rw [if_pos rfl]
              refine ⟨_, F4, ρ4, S5, ?_⟩
              cases qi : im1 ρ4 with
              | bad => rw [qi] at qq; cases qq
              | ex _ _ => rw [qi] at qq; cases qq
              | ok ivs1 ρ5 =>
                rw [qi] at qq
                dsimp only at qq
                intro F5 H5 J1 S6 e6 jok1
                by_cases hc1 : vs1.all (canSet ρ5) = true
                · rw [if_pos hc1] at qq
                  have S7 := (S3.still S6).wipe hc1
                  refine ⟨fun j n H => j + n = ivs1.length ∧ ∃ F ρ acc, LSt K mg G F H (L2.wipe σ3 vs1) ρ L acc ∧ Same F5 F ∧
                    (match foldT (turnL vs1 gm1 tt1 te) (ivs1.drop j) acc ρ with
                      | .ok acc ρ => if vs.all (canSet ρ) then .ok acc (wipeE ρ vs) else .bad
                      | _ => .bad) = R.ok acc' ρ', ⟨ivs1.length, by omega, F5, wipeE ρ5 vs1, acc, S7, Same.refl _, qq⟩, ?_⟩
                  rintro j n H8 ⟨hjn, F8, ρ8, acc8, S8, e8, q8⟩
                  by_cases hj : j < ivs1.length
                  · have hjv : ivs1[j]? = some ivs1[j] := List.getElem?_eq_getElem hj
                    rw [List.drop_eq_getElem_cons hj] at q8
                    unfold foldT at q8
                    refine .inr ⟨jok1.go F8 H8 j _ e8 S8.sat.fh hjv, fun H => ∃ F ρ acc, LSt K mg G F H (L2.wipe σ3 vs1) ρ L acc ∧ Same F5 F ∧
                      (match foldT (turnL vs1 gm1 tt1 te) (ivs1.drop (j + 1)) acc ρ with
                        | .ok acc ρ => if vs.all (canSet ρ) then .ok acc (wipeE ρ vs) else .bad
                        | _ => .bad) = R.ok acc' ρ', fun H' hN => ⟨n - 1, by omega, by omega, hN⟩, fun y H9 hy1 => ?_⟩
                    obtain ⟨F9, ex9, rv9⟩ := jok1.yld F8 H8 j _ y H9 e8 S8.sat.fh hjv hy1
                    cases q9 : turnL vs1 gm1 tt1 te ivs1[j] acc8 ρ8 with
                    | bad => rw [q9] at q8; cases q8
                    | ex _ _ => rw [q9] at q8; cases q8
                    | ok acc9 ρ9 =>
                      rw [q9] at q8
                      exact turn_ok hgm1 his1 gL (S8.ext ex9) rv9 q9 fun F' H' e h => ⟨F', ρ9, acc9, h, (e8.trans ex9.ff).trans e, q8⟩
                  · have hd : ivs1.drop j = [] := List.drop_eq_nil_of_le (by omega)
                    rw [hd] at q8
                    unfold foldT at q8
                    dsimp only at q8
                    refine .inl ⟨jok1.stop F8 H8 j e8 S8.sat.fh (by omega), ?_⟩
                    by_cases hc : vs.all (canSet ρ8) = true
                    · rw [if_pos hc] at q8
                      cases q8
                      have S10 := S8.wipe hc
                      have hw2 : L2.wipe (L2.wipe σ3 vs1) vs = L2.wipe σ vs := by
                        rw [← hw]
                        exact wipe_same (wipe_length σ3 vs1) fun j hj => wipe_out fun z => hj (hv j z)
                      rw [hw2] at S10
                      exact fin F8 H8 ((e5.trans e6).trans e8) S10
                    · rw [if_neg hc] at q8
                      cases q8
                · rw [if_neg hc1] at qq
                  cases qq
    · have hd : ivs.drop i = [] := List.drop_eq_nil_of_le (by omega)
      rw [hd] at k2
      unfold foldT at k2
      refine .inl ⟨jok.stop F2 H2 i e2 S2.sat.fh (by omega), ?_⟩
      obtain ⟨xs, hL2, rA⟩ := S2.lst
      have S5 := Sat.unwipe SL hn e2 S2.sat
      refine k2 F2 H2 _ S5 (Same.refl _) (.n S2.nF (.lst hL2 rA) gL fun j hj hs => ?_)
      by_cases hvj : j ∈ vs
      · cases q : (restE ρ1 ρ2 vs)[j]? with
        | none =>
          rw [q] at hj
          cases hj
        | some t =>
          have e9 := restE_in hvj q
          have e10 := List.all_eq_true.mp hn j hvj
          unfold noOw at e10
          rw [q, e9, List.getD_eq_getElem?_getD] at hj
          cases q2 : ρ1[j]? with
          | none =>
            rw [q2] at hj
            cases hj
          | some t2 =>
            rw [q2] at hj e10
            cases t2 with
            | own _ _ => cases e10
            | _ => cases hj
      · rw [restE_out hvj] at hj
        exact S2.nL j hj (by rw [wipe_out hvj]; exact hs)
  · rw [if_neg hn] at k1
    exact k1.elim
end
section
variable {X : Cx} {W : WX} {tg iter tg1 iter1 elt : Expr} {ifs ifs1 : List Expr} {scope : Scope} {pos : Pos} {is is1 vs1 : List Nat} {g g1 : TG} {gm gm1 : GM} {im im1 : IM} {tt tt1 : TM} {te : EM}
theorem me_comp2 {own : List (Str × Nat)} (hc : X.calm = true) (hN : X.N.Nodup) (hi : MI X W tg iter im) (ok : BlkOk X.N X.env.scope scope own) (hv : ∀ i ∈ vs1, i ∈ own.map (·.2))
    (hg : ∀ (s : Shared) (H : Hp) (C : Addr) (cl : List (Str × Addr)) (fp : List Addr), PG (X.blk s H scope (compEnvC scope cl C X.env) fp) tg g)
    (ht : ∀ (s : Shared) (H : Hp) (C : Addr) (cl : List (Str × Addr)) (fp : List Addr), MTs (X.blk s H scope (compEnvC scope cl C X.env) fp) W0 ifs tt)
    (hi1 : ∀ (s : Shared) (H : Hp) (C : Addr) (cl : List (Str × Addr)) (fp : List Addr), MI (X.blk s H scope (compEnvC scope cl C X.env) fp) W0 tg1 iter1 im1)
    (hg1 : ∀ (s : Shared) (H : Hp) (C : Addr) (cl : List (Str × Addr)) (fp : List Addr), PG (X.blk s H scope (compEnvC scope cl C X.env) fp) tg1 g1)
    (ht1 : ∀ (s : Shared) (H : Hp) (C : Addr) (cl : List (Str × Addr)) (fp : List Addr), MTs (X.blk s H scope (compEnvC scope cl C X.env) fp) W0 ifs1 tt1)
    (he : ∀ (s : Shared) (H : Hp) (C : Addr) (cl : List (Str × Addr)) (fp : List Addr), ME (X.blk s H scope (compEnvC scope cl C X.env) fp) W0 elt te) (hgm : TgOk X.K X.mg is g gm) (his : ∀ i ∈ is, i ∈ own.map (·.2)) (hgm1 : TgOk X.K X.mg is1 g1 gm1) (his1 : ∀ i ∈ is1, i ∈ vs1)
    (hs : ∀ x, foldedSetIterable iter X.env x = pure x := by intro _; rfl) (hs1 : ∀ env x, foldedSetIterable iter1 env x = pure x := by intro _ _; rfl) :
    ME X W (.ListComp elt [⟨tg, iter, ifs, 0⟩, ⟨tg1, iter1, ifs1, 0⟩] scope pos) (mComp2 (own.map (·.2)) im gm tt im1 vs1 gm1 tt1 te) :=
  ME.weak (pe_lc2 hc hN hi ok hv hg ht hi1 hg1 ht1 he hs hs1) fun S k => comp2_ok hgm his hgm1 his1 hv S k
theorem ms_setComp2 {own : List (Str × Nat)} {i : Nat} {y : Str} {py spos : Pos} (hc : X.calm = true) (hN : X.N.Nodup) (hy : X.N[i]? = some y) (hyl : X.env.scope.names.lookup y = some .local)
    (hsw : swapsWith (.ListComp elt [⟨tg, iter, ifs, 0⟩, ⟨tg1, iter1, ifs1, 0⟩] scope pos) (some (.Name y py)) spos.line X.env = pure true) (hi : MI X W tg iter im) (ok : BlkOk X.N X.env.scope scope own) (hv : ∀ i ∈ vs1, i ∈ own.map (·.2))
    (hg : ∀ (s : Shared) (H : Hp) (C : Addr) (cl : List (Str × Addr)) (fp : List Addr), PG (X.blk s H scope (compEnvC scope cl C X.env) fp) tg g)
    (ht : ∀ (s : Shared) (H : Hp) (C : Addr) (cl : List (Str × Addr)) (fp : List Addr), MTs (X.blk s H scope (compEnvC scope cl C X.env) fp) W0 ifs tt)
    (hi1 : ∀ (s : Shared) (H : Hp) (C : Addr) (cl : List (Str × Addr)) (fp : List Addr), MI (X.blk s H scope (compEnvC scope cl C X.env) fp) W0 tg1 iter1 im1)
    (hg1 : ∀ (s : Shared) (H : Hp) (C : Addr) (cl : List (Str × Addr)) (fp : List Addr), PG (X.blk s H scope (compEnvC scope cl C X.env) fp) tg1 g1)
    (ht1 : ∀ (s : Shared) (H : Hp) (C : Addr) (cl : List (Str × Addr)) (fp : List Addr), MTs (X.blk s H scope (compEnvC scope cl C X.env) fp) W0 ifs1 tt1)
    (he : ∀ (s : Shared) (H : Hp) (C : Addr) (cl : List (Str × Addr)) (fp : List Addr), ME (X.blk s H scope (compEnvC scope cl C X.env) fp) W0 elt te) (hgm : TgOk X.K X.mg is g gm) (his : ∀ i ∈ is, i ∈ own.map (·.2)) (hgm1 : TgOk X.K X.mg is1 g1 gm1) (his1 : ∀ i ∈ is1, i ∈ vs1)
    (hs : ∀ x, foldedSetIterable iter X.env x = pure x := by intro _; rfl) (hs1 : ∀ env x, foldedSetIterable iter1 env x = pure x := by intro _ _; rfl) :
    MS X W (.Assign [.Name y py] (.ListComp elt [⟨tg, iter, ifs, 0⟩, ⟨tg1, iter1, ifs1, 0⟩] scope pos) spos) (mSet i (mComp2 (own.map (·.2)) im gm tt im1 vs1 gm1 tt1 te)) :=
  MS.weak (ps_setLc2 hc hN hy hyl hsw hi ok hv hg ht hi1 hg1 ht1 he hs hs1) fun {σ H D G F ρ} S k => comp2_ok (W := W) (Q := fun x H1 => D.nx (σ.set i (some x)) H1) hgm his hgm1 his1 hv S (Gd.st k fun v ρ1 F1 H1 x S1 e1 r1 k1 => set_fin S1 r1 k1)
end
end Mi
set_option Elab.async false
set_option linter.all false
set_option maxRecDepth 100000
set_option maxHeartbeats 2000000
/-! Mi, part U: dicts with int and text keys: {}, in, not in; module constants. -/
namespace Mi
open PySem PySem.Spec PyProof.Rows L2 PySem.MiX
def mDkNew : EM := fun ρ => .ok (.n (.dk [])) ρ
theorem me_dkNew {X : Cx} {W : WX} {pos : Pos} : ME X W (.Dict [] [] pos) mDkNew :=
  ME.weak pe_dnewK fun {σ H Q G F ρ} S g p hp => by
    obtain ⟨S3, r3⟩ := S.newOwn hp (OwOk.dk (upd_same (H := H) (a := p) (o := HO.dK [])) .nil)
    exact g _ _ _ S3 (Same.refl _) r3
abbrev rDkIn (K : PySem.W.Frag) (n : Bool) : R2 := fun x y H Q => ∃ a o, y = .ref a ∧ DGet H a x o ∧ Q (.bl (if n then !o.isSome else o.isSome)) H
section
variable {X : Cx}
theorem op_dkIn (hu : X.A.units + 1 < cLine) : OpR X (compareOp .In) (rDkIn X.K false) := by
  intro pins s σ H x y v u Q I rx ry h
  obtain ⟨a, o, rfl, g, q⟩ := h
  cases ry
  exact d_in hu I g rx fun s3 I3 => ⟨.bl o.isSome, H, I3, rfl, q⟩
theorem op_dkNotIn (hu : X.A.units + 1 < cLine) : OpR X (compareOp .NotIn) (rDkIn X.K true) := by
  intro pins s σ H x y v u Q I rx ry h
  obtain ⟨a, o, rfl, g, q⟩ := h
  cases ry
  exact d_notIn hu I g rx fun s3 I3 => ⟨.bl (!o.isSome), H, I3, rfl, q⟩
end
def dDkIn (n : Bool) (x y : D) : Option D := match y with
  | .dk kvs => (keyD x).map fun k => .bl (if n then !(lookK kvs k).isSome else (lookK kvs k).isSome)
  | _ => none
section
variable {K : PySem.W.Frag} {mg : Str → Option Value}
theorem o_dkIn (n : Bool) : Op2 K mg (rDkIn K n) (dDkIn n) := fun {F H x y d e z Q} hs rx ry h q => by
  cases e with
  | dk kvs =>
    obtain ⟨k, h1, rfl⟩ := Option.map_eq_some_iff.mp h
    obtain ⟨a, vs, rfl, ha, rk⟩ := ry.dk hs
    have ek := keyD_V (rx.rp hs) h1
    subst ek
    rcases rk.look k with ⟨l1, l2⟩ | ⟨v, dd, l1, l2, _⟩
    · refine ⟨a, none, rfl, .inl ⟨vs, k, .inl ha, rfl, l2.symm⟩, ?_⟩
      rw [l1] at q
      exact q F H _ (.refl hs) (.bl _)
    · refine ⟨a, some v, rfl, .inl ⟨vs, k, .inl ha, rfl, l2.symm⟩, ?_⟩
      rw [l1] at q
      exact q F H _ (.refl hs) (.bl _)
  | _ => cases h
/-- either of two operators -/
def dOr (g g' : D → D → Option D) : D → D → Option D := fun x y => match g x y with
  | some z => some z
  | none => g' x y
theorem o_or {r r' : R2} {g g' : D → D → Option D} (o : Op2 K mg r g) (o' : Op2 K mg r' g') : Op2 K mg (fun x y H Q => r x y H Q ∨ r' x y H Q) (dOr g g') := fun {F H x y d e z Q} hs rx ry h q => by
  unfold dOr at h
  cases q1 : g d e with
  | some w =>
    rw [q1] at h
    cases h
    exact .inl (o hs rx ry q1 q)
  | none =>
    rw [q1] at h
    exact .inr (o' hs rx ry h q)
end
/-- a module's constant -/
theorem me_gl {X : Cx} {W : WX} {x : Str} {v : V} {d : D} {u : Value} {pos : Pos} (hg : Gl X x) (hm : X.mg x = some u) (r : RelV v u) (rd : ∀ F, Rp X.K X.mg F v d) (hd : (x == ("__debug__" : Str)) = false := by decide) : ME X W (.Name x pos) (mC d) := me_c (pe_glob hg hm r hd) rd
end Mi
set_option Elab.async false
set_option linter.all false
set_option maxRecDepth 100000
set_option maxHeartbeats 2000000
/-! Mi, part V: a def as its callers know it; bad promises; shorthands for the derivations. -/
namespace Mi
open PySem PySem.Spec PyProof.Rows L2 PySem.MiX
/-- the def named x keeps its mirror's promise, at level k -/
structure CalM (P : Program) (w : World) (K : PySem.W.Frag) (mg : Str → Option Value) (base : Heap) (k : Nat) (x : Str) (n : Nat) (ios : List Nat) (m : List Sl → DR) : Prop where
  ex : ∃ f fd ps, FnOk P w K mg base (L2.CX P w) k f fd ps (spM K mg n ios m) ∧ mg x = some (.ref f) ∧ PySem.W.keepIn K (.ref f) = true ∧ Binds K fd ps []
theorem me_callM {X : Cx} {W : WX} {ios : List Nat} {f : List Sl → DR} {ms : AM} {k j n : Nat} {x : Str} {p pos : Pos} {e : Expr} {es : List Expr} (c : CalM X.prog X.w X.K X.mg X.base k x n ios f) (hr : Room j X.A) (hk : k ≤ j) (tk : Takes X W) (hg : Gl X x)
    (ha : MA X W (e :: es) ms) (hml : ∀ ρ vs ρ', ms ρ = .ok vs ρ' → vs.length = (e :: es).length) (hn : (e :: es).length = n := by rfl)
    (hdb : (x == ("__debug__" : Str)) = false := by decide) (he : starEach (e :: es) X.env = (false, eval e X.env) :: starEach es X.env := by rfl) (hpl : (backTo pos (starEach es X.env)).any (·.1) = false := by rfl) :
    ME X W (.Call (.Name x p) (e :: es) [] pos) (mCall ios f [] ms) := by
  obtain ⟨fa, fd, ps, FO, hm, hkp, hb⟩ := c.ex
  exact me_call (dv := []) (dvs := []) (ds := []) FO (hr.mono hk) tk hg hm hkp hb .nil (fun _ => .nil) (by simpa using hn) ha hml hdb he hpl
theorem calM_of {P : Program} {w : World} {K : PySem.W.Frag} {mg : Str → Option Value} {base : Heap} {k : Nat} {x : Str} {n : Nat} {ios : List Nat} {m : List Sl → DR} {f : Addr} {fd : FuncData} {ps : List Str}
    (FO : FnOk P w K mg base (L2.CX P w) k f fd ps (spM K mg n ios m)) (hm : mg x = some (.ref f)) (hk : PySem.W.keepIn K (.ref f) = true) (hb : Binds K fd ps []) : CalM P w K mg base k x n ios m := ⟨f, fd, ps, FO, hm, hk, hb⟩
/-- nothing is promised -/
theorem fnok_bad {P : Program} {w : World} {K : PySem.W.Frag} {mg : Str → Option Value} {base : Heap} {k : Nat} {n : Nat} {ios : List Nat} {f : Addr} {fd : FuncData} {ps : List Str} : FnOk P w K mg base (L2.CX P w) k f fd ps (spM K mg n ios (fun _ => .bad)) where
  len := fun vs H Q E h => by
    obtain ⟨_, _, _, _, _, h⟩ := h
    exact h.elim
  run := fun A outer s H args us vs Q E hr he hb hv h => by
    obtain ⟨_, _, _, _, _, h⟩ := h
    exact h.elim
theorem takes_W0 {X : Cx} : Takes X W0 := takes_none5
end Mi
namespace Mi
open PySem PySem.Spec PyProof.Rows L2 PySem.MiX
/-! ### is, is not: True, False, None on the right -/
theorem relV_plain {x : V} {v : Value} (r : RelV x v) : (∀ b, plainIs v (.bool b) = true) ∧ plainIs v .none = true ∧ (∀ b, (v == Value.bool b) = decide (x = .bl b)) := by
  cases x with
  | non => cases (show v = Value.none from r); exact ⟨fun _ => rfl, rfl, fun _ => rfl⟩
  | bl a =>
    cases (show v = Value.bool a from r)
    refine ⟨fun _ => rfl, rfl, fun b => ?_⟩
    by_cases e : a = b
    · subst e; simp
    · have e1 : (Value.bool a == Value.bool b) = false := by simp [e]
      rw [e1]
      simp [e]
  | int i => obtain ⟨t, q⟩ := (show ∃ t, v = Value.int i t from r); cases q; exact ⟨fun _ => rfl, rfl, fun _ => rfl⟩
  | str x => obtain ⟨t, q⟩ := (show ∃ t, v = Value.str x t from r); cases q; exact ⟨fun _ => rfl, rfl, fun _ => rfl⟩
  | byt x => obtain ⟨t, q⟩ := (show ∃ t, v = Value.bytes x t from r); cases q; exact ⟨fun _ => rfl, rfl, fun _ => rfl⟩
  | flt x => obtain ⟨t, q⟩ := (show ∃ t, v = Value.float x t from r); cases q; exact ⟨fun _ => rfl, rfl, fun _ => rfl⟩
  | ref a => cases (show v = Value.ref a from r); exact ⟨fun _ => rfl, rfl, fun _ => rfl⟩
  | ty n => cases (show v = Value.type n from r); exact ⟨fun _ => rfl, rfl, fun _ => rfl⟩
def rIsA (n : Bool) : R2 := fun x y H Q => (∃ b : Bool, y = .bl b ∧ Q (.bl (if n then !decide (x = .bl b) else decide (x = .bl b))) H) ∨ (y = .non ∧ Q (.bl (if n then !decide (x = .non) else decide (x = .non))) H)
section
variable {X : Cx}
theorem op_isA : OpR X (compareOp .Is) (rIsA false) := by
  intro pins s σ H x y v u Q I rx ry h
  rcases h with ⟨b, rfl, q⟩ | ⟨rfl, q⟩
  · cases (show u = Value.bool b from ry)
    obtain ⟨p1, _, p3⟩ := relV_plain rx
    exact wpAny_is_plain (p1 b) ⟨.bl (decide (x = .bl b)), H, I, by rw [p3 b]; rfl, q⟩
  · exact op_isN pins s σ H x .non v u Q I rx ry ⟨rfl, q⟩
theorem op_notA : OpR X (compareOp .IsNot) (rIsA true) := by
  intro pins s σ H x y v u Q I rx ry h
  rcases h with ⟨b, rfl, q⟩ | ⟨rfl, q⟩
  · cases (show u = Value.bool b from ry)
    obtain ⟨p1, _, p3⟩ := relV_plain rx
    exact wpAny_isNot_plain (p1 b) ⟨.bl (!decide (x = .bl b)), H, I, by rw [p3 b]; rfl, q⟩
  · exact op_notN pins s σ H x .non v u Q I rx ry ⟨rfl, q⟩
end
def isBlD (b : Bool) : D → Bool
  | .bl a => a == b
  | _ => false
def isNonD : D → Bool
  | .non => true
  | _ => false
def dIsA (n : Bool) (x y : D) : Option D := match y with
  | .bl b => some (.bl (if n then !isBlD b x else isBlD b x))
  | .non => some (.bl (if n then !isNonD x else isNonD x))
  | _ => none
section
variable {K : PySem.W.Frag} {mg : Str → Option Value} {F H : Hp}
theorem isBl_V {v : V} {d : D} (r : RpI K mg F H v d) (b : Bool) : decide (v = .bl b) = isBlD b d := by
  cases r with
  | fz r =>
    cases r with
    | bl a =>
      by_cases e : a = b
      · subst e; simp [isBlD]
      · simp [isBlD, e]
    | _ => simp [isBlD]
  | own o => cases o <;> simp [isBlD, Ow.d]
theorem isNon_V {v : V} {d : D} (r : RpI K mg F H v d) : decide (v = .non) = isNonD d := by
  cases r with
  | fz r => cases r <;> simp [isNonD]
  | own o => cases o <;> simp [isNonD, Ow.d]
theorem o_isA (n : Bool) : Op2 K mg (rIsA n) (dIsA n) := fun {F H x y d e z Q} hs rx ry h q => by
  cases e with
  | bl b =>
    cases h
    refine .inl ⟨b, ry.bl, ?_⟩
    rw [isBl_V rx b]
    exact q F H _ (.refl hs) (.bl _)
  | non =>
    cases h
    refine .inr ⟨?_, ?_⟩
    · have hy := isNon_V ry
      simpa [isNonD] using hy
    · rw [isNon_V rx]
      exact q F H _ (.refl hs) (.bl _)
  | _ => cases h
end
end Mi
namespace Mi
open PySem PySem.Spec PyProof.Rows L2 PySem.MiX
/-! ### an own object handed over to be read -/
mutual
def D.noL : D → Bool
  | .non => true
  | .bl _ => true
  | .int _ => true
  | .str _ => true
  | .tup xs => D.noLs xs
  | _ => false
def D.noLs : List D → Bool
  | [] => true
  | x :: r => x.noL && D.noLs r
end
def Ow.noL : Ow → Bool
  | .lst xs => D.noLs xs
  | _ => false
def fsNoL : List (Str × D) → Bool
  | [] => true
  | (_, d) :: r => d.noL && fsNoL r
def delF (F : Hp) (a : Addr) : Hp := fun b => if b = a then none else F b
section
variable {K : PySem.W.Frag} {mg : Str → Option Value} {F F' H H' : Hp} {a : Addr}
theorem delF_ne {b : Addr} (h : b ≠ a) : delF F a b = F b := if_neg h
theorem delF_same : delF F a a = none := if_pos rfl
mutual
theorem Rp.del (na : ∀ o u, F a ≠ some (.frz o u)) : ∀ {v : V} {d : D}, d.noL = true → Rp K mg F v d → Rp K mg (delF F a) v d
  | _, _, _, .non => .non
  | _, _, _, .bl b => .bl b
  | _, _, _, .int i => .int i
  | _, _, _, .str x => .str x
  | _, _, h, .tup h1 r => .tup (by
      obtain ⟨o, e, q⟩ := h1
      exact ⟨o, by rw [delF_ne (fun z => by rw [z] at e; exact na _ _ e)]; exact e, q⟩) (RpA.del na (by simpa [D.noL] using h) r)
  | _, _, h, .lst _ _ => by simp [D.noL] at h
  | _, _, h, .frl _ _ => by simp [D.noL] at h
  | _, _, h, .dk _ _ => by simp [D.noL] at h
  | _, _, h, .dt _ _ => by simp [D.noL] at h
  | _, _, h, .obj _ _ _ => by simp [D.noL] at h
  | _, _, h, .exc _ _ _ => by simp [D.noL] at h
theorem RpA.del (na : ∀ o u, F a ≠ some (.frz o u)) : ∀ {v : List V} {d : List D}, D.noLs d = true → RpA K mg F v d → RpA K mg (delF F a) v d
  | _, _, _, .nil => .nil
  | _, _, h, .cons r t => by
    have h' := Bool.and_eq_true_iff.mp (by simpa [D.noLs] using h : (D.noL _ && D.noLs _) = true)
    exact .cons (Rp.del na h'.1 r) (RpA.del na h'.2 t)
end
theorem RpF.del (na : ∀ o u, F a ≠ some (.frz o u)) : ∀ {v : List (Str × V)} {d : List (Str × D)}, fsNoL d = true → RpF K mg F v d → RpF K mg (delF F a) v d
  | _, _, _, .nil => .nil
  | _, _, h, .cons r t => by
    have h' := Bool.and_eq_true_iff.mp (by simpa [fsNoL] using h : (D.noL _ && fsNoL _) = true)
    exact .cons (Rp.del na h'.1 r) (RpF.del na h'.2 t)
def loanF (k : Nat) (f : List Sl → DR) : List Sl → DR := fun as => match as[k]? with
  | some (.own true o) => (match f (as.set k (.val o.d)) with
    | .ok (.v d) os => if d.noL && os.isEmpty then .ok (.v d) [o] else .bad
    | .ok (.w w) os => if w.noL && os.isEmpty then .ok (.w w) [o] else .bad
    | .ex x os => if fsNoL x.fs && os.isEmpty then .ex x [o] else .bad
    | .bad => .bad)
  | _ => .bad
theorem OwOk.nofrz {o : Ow} (h : OwOk K mg F H a o) : ∀ q u, H a ≠ some (.frz q u) := fun q u z => by
  cases h with
  | lst h _ => rw [z] at h; cases h
  | dk h _ => rw [z] at h; cases h
  | dt h _ => rw [z] at h; cases h
  | ins _ h _ => rw [z] at h; cases h
theorem spM_loan {n k : Nat} {f : List Sl → DR} {vs : List V} {Q : VK} {E : XK} (h : spM K mg n [k] (loanF k f) vs H Q E) : spM K mg n [] f vs H Q E := by
  obtain ⟨hn, F, as, fh, A, g⟩ := h
  refine ⟨hn, ?_⟩
  obtain ⟨o, ho⟩ := A.io k (List.mem_singleton.mpr rfl)
  obtain ⟨_, a, hv, fa, ok⟩ := A.own k true o ho
  obtain ⟨u, hu⟩ := ok.at
  have sm : Same F (upd F a u) := same_upd fa
  have fh1 : Same (upd F a u) H := fun b q e => by
    by_cases hb : b = a
    · subst hb
      rw [upd_same] at e
      cases e
      exact hu
    · rw [upd_ne hb] at e
      exact fh b q e
  have hk : k < as.length := (List.getElem?_eq_some_iff.mp ho).1
  have rep : Rp K mg (upd F a u) (.ref a) o.d := by
    have hua : (upd F a u) a = some u := upd_same
    cases ok with
    | lst h r => rw [h] at hu; cases hu; exact .lst hua (r.mono sm)
    | dk h r => rw [h] at hu; cases hu; exact .dk hua (r.mono sm)
    | dt h r => rw [h] at hu; cases hu; exact .dt hua (r.mono sm)
    | ins g h r => rw [h] at hu; cases hu; exact .obj g hua (r.mono sm)
  have A1 : ArgOk K mg (upd F a u) H [] vs (as.set k (.val o.d)) := by
    refine ⟨by rw [List.length_set]; exact A.len, fun i d e => ?_, fun i io w e => ?_, fun j hj => (by cases hj), fun i j b hij h1 => (by cases h1)⟩
    · by_cases hi : i = k
      · subst hi
        rw [List.getElem?_set_self hk] at e
        cases e
        exact ⟨_, hv, rep⟩
      · rw [List.getElem?_set_ne (Ne.symm hi)] at e
        obtain ⟨v, e1, e2⟩ := A.val i d e
        exact ⟨v, e1, e2.mono sm⟩
    · exfalso
      by_cases hi : i = k
      · subst hi
        rw [List.getElem?_set_self hk] at e
        cases e
      · rw [List.getElem?_set_ne (Ne.symm hi)] at e
        obtain ⟨e1, _⟩ := A.own i io w e
        exact hi (List.mem_singleton.mp e1)
  refine ⟨upd F a u, as.set k (.val o.d), fh1, A1, ?_⟩
  -- behind the call: the object is one's own again
  have aft : ∀ {F' H' : Hp} {os : List Ow}, Aft K mg (upd F a u) H F' H' vs [] os → Aft K mg F H (delF F' a) H' vs [k] [o] ∧ ∀ q u, F' a ≠ some (.frz q u) := fun {F' H' os} B => by
    have ha : H' a = some u := B.hh a u hu fun j hj => (by cases hj)
    have fa' : F' a = some u := B.ff a u upd_same
    refine ⟨⟨fun b q e => ?_, fun b q e => ?_, fun b q e hnk => B.hh b q e fun j hj => (by cases hj), fun b q e => ?_, rfl, fun m j b w e1 e2 e3 => ?_⟩, fun q w e => ok.nofrz q w (by rw [hu, ← fa', e])⟩
    · have hb : b ≠ a := fun z => by rw [z, fa] at e; cases e
      rw [delF_ne hb]
      exact B.ff b q (by rw [upd_ne hb]; exact e)
    · by_cases hb : b = a
      · rw [hb, delF_same] at e; cases e
      · rw [delF_ne hb] at e
        exact B.fh b q e
    · by_cases hb : b = a
      · rw [hb, delF_same] at e; cases e
      · rw [delF_ne hb] at e
        rcases B.nw b q e with z | z
        · rw [upd_ne hb] at z
          exact .inl z
        · exact .inr z
    · cases m with
      | zero =>
        cases e1
        cases e2
        rw [hv] at e3
        cases e3
        refine ⟨delF_same, ok.mono (fun b q e => ?_) (ha.trans hu.symm)⟩
        have hb : b ≠ a := fun z => by rw [z, fa] at e; cases e
        rw [delF_ne hb]
        exact B.ff b q (by rw [upd_ne hb]; exact e)
      | succ m => simp at e1
  unfold loanF at g
  rw [ho] at g
  dsimp only at g
  cases q : f (as.set k (.val o.d)) with
  | bad =>
    rw [q] at g
    exact g.elim
  | ex x os =>
    rw [q] at g
    dsimp only at g
    by_cases c : (fsNoL x.fs && os.isEmpty) = true
    · rw [if_pos c] at g
      obtain ⟨c1, c2⟩ := Bool.and_eq_true_iff.mp c
      intro F' H' C d fs hC B hd rf
      obtain ⟨B2, nf⟩ := aft B
      have hda : d ≠ a := fun z => by
        have fa' : F' a = some u := B.ff a u upd_same
        rw [z, fa'] at hd
        cases hd
        have no : False := by
          cases ok with
          | lst h _ => rw [h] at hu; cases hu
          | dk h _ => rw [h] at hu; cases hu
          | dt h _ => rw [h] at hu; cases hu
          | ins _ h _ => rw [h] at hu; cases hu
        exact no
      exact g _ H' C d fs hC B2 (by rw [delF_ne hda]; exact hd) (rf.del nf c1)
    · rw [if_neg c] at g
      exact g.elim
  | ok r os =>
    rw [q] at g
    cases r with
    | v d =>
      dsimp only at g
      by_cases c : (d.noL && os.isEmpty) = true
      · rw [if_pos c] at g
        obtain ⟨c1, c2⟩ := Bool.and_eq_true_iff.mp c
        intro F' H' x B rr
        obtain ⟨B2, nf⟩ := aft B
        cases rr with
        | v r => exact g _ H' x B2 (.v (r.del nf c1))
      · rw [if_neg c] at g
        exact g.elim
    | w w =>
      dsimp only at g
      by_cases c : (w.noL && os.isEmpty) = true
      · rw [if_pos c] at g
        obtain ⟨c1, c2⟩ := Bool.and_eq_true_iff.mp c
        intro F' H' x B rr
        obtain ⟨B2, nf⟩ := aft B
        cases rr with
        | w h1 h2 h3 =>
          rename_i b
          have hba : b ≠ a := fun z => by rw [z, hu] at h3; cases h3
          refine g _ H' _ B2 (.w (by rw [delF_ne hba]; exact h1) ?_ h3)
          cases w with
          | lst xs =>
            cases h2 with
            | lst h r => exact .lst h (r.del nf c1)
          | _ => cases c1
      · rw [if_neg c] at g
        exact g.elim
end
theorem calM_loan {P : Program} {w : World} {K : PySem.W.Frag} {mg : Str → Option Value} {base : Heap} {j : Nat} {x : Str} {n : Nat} {m : List Sl → DR} (k : Nat) (c : CalM P w K mg base j x n [] m) : CalM P w K mg base j x n [k] (loanF k m) := by
  obtain ⟨f, fd, ps, FO, h1, h2, h3⟩ := c.ex
  exact ⟨f, fd, ps, FO.imp fun vs H Q E h => spM_loan h, h1, h2, h3⟩
end Mi
set_option Elab.async false
set_option linter.all false
set_option maxRecDepth 100000
set_option maxHeartbeats 2000000
/-! Mi, part W: shorthands for derivations that are written by a tool. -/
namespace Mi
open PySem PySem.Spec PyProof.Rows L2 PySem.MiX
theorem u1 {k : Nat} {A : Around} (h : Room k A) : A.units + 1 < cLine := by
  have := h.un
  omega
theorem u64 {k : Nat} {A : Around} (h : Room k A) : A.units + 64 < cLine := by
  have := h.un
  omega
section
variable {X : Cx} {W : WX} {s : Nat} {x : Str} {px apos cpos : Pos} {e : Expr} {m : EM}
theorem x_append (hx : PE X (.Name x px) (tVar s)) (ha : ME X W e m) (hbase : attributeBase (.Name x px) "append" X.env (eval (.Name x px) X.env) = eval (.Name x px) X.env := by rfl)
    (hfew : ((backTo cpos (starEach (e :: []) X.env)).all (fun x => !x.1) && (backToKw cpos (keywordEach [] X.env)).all (fun x => x.1.isSome)
      && decide ((e :: []).length + ([] : List Keyword).length + (if ([] : List Keyword).isEmpty then 0 else 1) < 30)) = true := by rfl)
    (hline : (apos.endLine == cpos.line) = true := by rfl) (hs : starEach (e :: []) X.env = (false, eval e X.env) :: starEach [] X.env := by rfl) (hplain : (backTo cpos (starEach [] X.env)).any (·.1) = false := by rfl) :
    ME X W (.Call (.Attribute (.Name x px) "append" apos) [e] [] cpos) (mAppend s m) :=
  me_append hx ha (pe_bm (T := "list") PySem.F.plainAttrs_list PySem.F.slot_list_append PySem.F.type_list_append mt_append hx (pa_cons ha pa_nil hs) hbase hfew hline hs hplain)
theorem x_extend (hx : PE X (.Name x px) (tVar s)) (ha : ME X W e m) (hbase : attributeBase (.Name x px) "extend" X.env (eval (.Name x px) X.env) = eval (.Name x px) X.env := by rfl)
    (hfew : ((backTo cpos (starEach (e :: []) X.env)).all (fun x => !x.1) && (backToKw cpos (keywordEach [] X.env)).all (fun x => x.1.isSome)
      && decide ((e :: []).length + ([] : List Keyword).length + (if ([] : List Keyword).isEmpty then 0 else 1) < 30)) = true := by rfl)
    (hline : (apos.endLine == cpos.line) = true := by rfl) (hs : starEach (e :: []) X.env = (false, eval e X.env) :: starEach [] X.env := by rfl) (hplain : (backTo cpos (starEach [] X.env)).any (·.1) = false := by rfl) :
    ME X W (.Call (.Attribute (.Name x px) "extend" apos) [e] [] cpos) (mExtend s m) :=
  me_extend ha (pe_bm (T := "list") PySem.F.plainAttrs_list PySem.F.slot_list_extend PySem.F.type_list_extend mt_extend hx (pa_cons ha pa_nil hs) hbase hfew hline hs hplain)
theorem x_popAt (hx : PE X (.Name x px) (tVar s)) (ha : ME X W e m) (hbase : attributeBase (.Name x px) "pop" X.env (eval (.Name x px) X.env) = eval (.Name x px) X.env := by rfl)
    (hfew : ((backTo cpos (starEach (e :: []) X.env)).all (fun x => !x.1) && (backToKw cpos (keywordEach [] X.env)).all (fun x => x.1.isSome)
      && decide ((e :: []).length + ([] : List Keyword).length + (if ([] : List Keyword).isEmpty then 0 else 1) < 30)) = true := by rfl)
    (hline : (apos.endLine == cpos.line) = true := by rfl) (hs : starEach (e :: []) X.env = (false, eval e X.env) :: starEach [] X.env := by rfl) (hplain : (backTo cpos (starEach [] X.env)).any (·.1) = false := by rfl) :
    ME X W (.Call (.Attribute (.Name x px) "pop" apos) [e] [] cpos) (mPopAt s m) :=
  me_popAt ha (pe_bm (T := "list") PySem.F.plainAttrs_list PySem.F.slot_list_pop PySem.F.type_list_pop mt_popAt hx (pa_cons ha pa_nil hs) hbase hfew hline hs hplain)
theorem x_rng1 {tg a : Expr} {p pos : Pos} (hg : Gl X "range") (hm : X.mg "range" = none) (ha : ME X W a m) (hs : starEach [a] X.env = [(false, eval a X.env)] := by rfl) (hs1 : starEach (a :: []) X.env = (false, eval a X.env) :: starEach [] X.env := by rfl) :
    MI X W tg (.Call (.Name "range" p) [a] [] pos) (mRng1 m) := mi_rng1 (p := p) (pos := pos) (t := iRng1 (tCons (tE X.K X.mg W m) tNil)) (pi_range1 hg hm (pa_cons ha pa_nil hs1) hs)
theorem x_rng2 {tg a b : Expr} {ma mb : EM} {p pos : Pos} (hg : Gl X "range") (hm : X.mg "range" = none) (ha : ME X W a ma) (hb : ME X W b mb) (hs : starEach [a, b] X.env = [(false, eval a X.env), (false, eval b X.env)] := by rfl) (hs2 : starEach [b] X.env = [(false, eval b X.env)] := by rfl)
    (h1 : starEach (a :: b :: []) X.env = (false, eval a X.env) :: starEach (b :: []) X.env := by rfl) (h2 : starEach (b :: []) X.env = (false, eval b X.env) :: starEach [] X.env := by rfl) :
    MI X W tg (.Call (.Name "range" p) [a, b] [] pos) (mRng2 ma mb) := mi_rng2 (pi_range2 hg hm (pa_cons ha (pa_cons hb pa_nil h2) h1) hs hs2)
theorem x_setIx {i : Expr} {mi : EM} {pos' pos : Pos} (hx : PE X (.Name x px) (tVar s)) (hi : ME X W i mi) (he : ME X W e m)
    (hs : swapsWithSole [.Subscript (.Name x px) i pos'] e pos.line X.env = pure false := by rfl) (hw : swappedStores [.Subscript (.Name x px) i pos'] e X.env = pure none := by rfl) (hpg : PG X (.Subscript (.Name x px) i pos') (gSub (tVar s) (tE X.K X.mg W mi) rSetL)) :
    MS X W (.Assign [.Subscript (.Name x px) i pos'] e pos) (mSetIx s mi m) := ms_setIx hi he hpg hs hw
theorem x_glob {v : V} {d : D} {pos : Pos} (h : ∃ u, X.mg x = some u ∧ RelV v u) (hg : Gl X x) (rd : ∀ F, Rp X.K X.mg F v d) (hd : (x == ("__debug__" : Str)) = false := by decide) : ME X W (.Name x pos) (mC d) := by
  obtain ⟨u, h1, h2⟩ := h
  exact me_gl hg h1 h2 rd hd
end
section
variable {X : Cx}
theorem pe_clsTy {x : Str} {n : String} {pos : Pos} (hg : Gl X x) (hm : X.mg x = none) (hv : bootBuiltins x = some (.type n)) (hn : x ≠ "__name__" := by decide) (hd : (x == ("__debug__" : Str)) = false := by decide) : PE X (.Name x pos) (tC (.ty n)) := pe_bltn hg hm hv rfl hn hd
theorem pe_clsOwn {x : Str} {C : Addr} {pos : Pos} (hg : Gl X x) (hm : X.mg x = some (.ref C)) (hd : (x == ("__debug__" : Str)) = false := by decide) : PE X (.Name x pos) (tC (.ref C)) := pe_glob hg hm rfl hd
end
end Mi
namespace Mi
open PySem PySem.Spec PyProof.Rows L2 PySem.MiX
/-! ### what the written part says of the own errors' classes -/
structure ClsT (P : Program) (K : PySem.W.Frag) (mg : Str → Option Value) (AA : Str → Addr) (exs : List (Str × Str)) (root : Str) (sub : Str → Str → Bool) : Prop where
  x : ∀ c f, (c, f) ∈ exs → ∃ fI, ExT P K mg c f (AA c) fI
  r : mg root = some (.ref (AA root))
  ec : ∀ c f, (c, f) ∈ exs → ExC K (AA c)
  kit : ∀ c f d g, (c, f) ∈ exs → (d, g) ∈ exs → PySem.W.kitOne K (.ref (AA c)) (.ref (AA d)) = some (sub c d)
  exm : ∀ c f, (c, f) ∈ exs → PySem.W.exmOne K (.ref (AA c)) (.ref (AA root)) = some true
def tblOf (exs : List (Str × Str)) (sub : Str → Str → Bool) (ds : List Str) : List (Str × Bool) := exs.map fun p => (p.1, ds.any (sub p.1))
def catOf (exs : List (Str × Str)) : List (Str × Bool) := exs.map fun p => (p.1, true)
theorem tblOf_mem {exs : List (Str × Str)} {sub : Str → Str → Bool} {ds : List Str} {c : Str} {b : Bool} : (tblOf exs sub ds).lookup c = some b → ∃ f, (c, f) ∈ exs ∧ b = ds.any (sub c) := by
  unfold tblOf
  induction exs with
  | nil => intro h; cases h
  | cons p r ih =>
    intro h
    rw [List.map_cons, List.lookup_cons] at h
    by_cases e : c = p.1
    · subst e
      rw [beq_self_eq_true] at h
      cases h
      exact ⟨p.2, List.mem_cons_self .., rfl⟩
    · rw [show (c == p.1) = false by simpa using e] at h
      obtain ⟨f, h1, h2⟩ := ih h
      exact ⟨f, List.mem_cons_of_mem _ h1, h2⟩
theorem catOf_mem {exs : List (Str × Str)} {c : Str} {b : Bool} : (catOf exs).lookup c = some b → ∃ f, (c, f) ∈ exs ∧ b = true := by
  unfold catOf
  induction exs with
  | nil => intro h; cases h
  | cons p r ih =>
    intro h
    rw [List.map_cons, List.lookup_cons] at h
    by_cases e : c = p.1
    · subst e
      rw [beq_self_eq_true] at h
      cases h
      exact ⟨p.2, List.mem_cons_self .., rfl⟩
    · rw [show (c == p.1) = false by simpa using e] at h
      obtain ⟨f, h1, h2⟩ := ih h
      exact ⟨f, List.mem_cons_of_mem _ h1, h2⟩
section
variable {P : Program} {K : PySem.W.Frag} {mg : Str → Option Value} {AA : Str → Addr} {exs : List (Str × Str)} {root : Str} {sub : Str → Str → Bool}
theorem ClsT.cls (T : ClsT P K mg AA exs root sub) {c f : Str} (h : (c, f) ∈ exs) {C : Addr} (e : mg c = some (.ref C)) : C = AA c := by
  obtain ⟨fI, X⟩ := T.x c f h
  have := X.gC
  rw [e] at this
  cases this
  rfl
theorem kitAny_map {K : PySem.W.Frag} {t : Value} {f : Str → Bool} {AA : Str → Addr} : ∀ {ds : List Str}, (∀ d ∈ ds, PySem.W.kitOne K t (.ref (AA d)) = some (f d)) → PySem.W.kitAny K t (ds.map fun d => .ref (AA d)) = some (ds.any f)
  | [], _ => rfl
  | d :: r, h => by
    rw [List.map_cons, List.any_cons]
    refine kitAny_cons (h d (List.mem_cons_self ..)) (fun e => ?_) (fun e => ?_)
    · rw [e, Bool.false_or]
      exact kitAny_map fun d hd => h d (List.mem_cons_of_mem _ hd)
    · rw [e, Bool.true_or]
theorem ClsT.isT (T : ClsT P K mg AA exs root sub) (ds : List Str) (hd : (ds.all fun d => (exs.map (·.1)).contains d) = true) : IsT K mg (tblOf exs sub ds) (ds.map fun d => .ref (AA d)) := ⟨fun c b C h e => by
  obtain ⟨f, h1, rfl⟩ := tblOf_mem h
  have eC := T.cls h1 e
  subst eC
  exact ⟨T.ec c f h1, kitAny_map fun d hd' => by
    have h3 := List.all_eq_true.mp hd d hd'
    obtain ⟨⟨d2, g⟩, h4, h5⟩ := List.mem_map.mp (by simpa using h3 : d ∈ exs.map (·.1))
    have h6 : d2 = d := h5
    subst h6
    exact T.kit c f _ g h1 h4⟩⟩
theorem ClsT.xf (T : ClsT P K mg AA exs root sub) : XfT K mg exs := ⟨fun c f C h e => by
  have h1 : (c, f) ∈ exs := by simpa using h
  have eC := T.cls h1 e
  subst eC
  obtain ⟨fI, X⟩ := T.x c f h1
  exact ⟨⟨X.ga, X.gg, X.exC, X.hdC⟩, X.noN⟩⟩
theorem ClsT.cat (T : ClsT P K mg AA exs root sub) : ∀ c b C, (catOf exs).lookup c = some b → mg c = some (.ref C) → PySem.W.exmOne K (.ref C) (.ref (AA root)) = some b := fun c b C h e => by
  obtain ⟨f, h1, rfl⟩ := catOf_mem h
  have eC := T.cls h1 e
  subst eC
  exact T.exm c f h1
end
theorem x_raise {X : Cx} {W : WX} {c f : Str} {C : Addr} {a : Expr} {ms : AM} {p pos pos2 : Pos} {k : Nat} (T : ∃ fI, ExT X.prog X.K X.mg c f C fI) (Fl : Fld f) (hc : X.calm = true) (tk : Takes X W) (hr : Room k X.A) (ha : MA X W [a] ms) (hg : Gl X c)
    (hdb : (c == ("__debug__" : Str)) = false := by decide) (he : starEach (a :: []) X.env = (false, eval a X.env) :: starEach [] X.env := by rfl) (hpl : (backTo pos (starEach [] X.env)).any (·.1) = false := by rfl) :
    MS X W (.Raise (some (.Call (.Name c p) [a] [] pos)) none pos2) (mRaise c f ms) := by
  obtain ⟨fI, T⟩ := T
  exact ms_raise T Fl hc tk hr ha hg hdb he hpl
end Mi
namespace Mi
open PySem PySem.Spec PyProof.Rows L2 PySem.MiX
def dAddI : D → D → Option D
  | .int a, .int b => some (.int (a + b))
  | _, _ => none
def dSubI : D → D → Option D
  | .int a, .int b => some (.int (a - b))
  | _, _ => none
theorem o_addX {K : PySem.W.Frag} {mg : Str → Option Value} : Op2 K mg (ipI fun i j => i + j) dAddI := fun {F H x y d e z Q} hs rx ry h q => by
  cases d <;> cases e <;> first | (cases h; done) | (cases h; exact ⟨_, _, rx.int, ry.int, q F H _ (.refl hs) (.int _)⟩)
theorem o_subX {K : PySem.W.Frag} {mg : Str → Option Value} : Op2 K mg (ipI fun i j => i - j) dSubI := fun {F H x y d e z Q} hs rx ry h q => by
  cases d <;> cases e <;> first | (cases h; done) | (cases h; exact ⟨_, _, rx.int, ry.int, q F H _ (.refl hs) (.int _)⟩)
end Mi
set_option Elab.async false
set_option linter.all false
set_option maxRecDepth 100000
set_option maxHeartbeats 2000000
/-! Mi, part Y: the head: what the top has written, read by a Hook; the own errors' classes among it. -/
namespace Mi
open PySem PySem.Spec PyProof.Rows L2 PySem.MiX He PySem.W
abbrev InW : Type := Option (Str × Str × Arguments × FuncBody × Scope × Addr × List Str × Addr)
def inW (K : Frag) (c : Str) : InW := match K.lookup (ma K (ga K c) "__init__") with
  | some ⟨_, _, .func fd, _⟩ => some (fd.name, fd.qualname, fd.params, fd.body, fd.scope, fd.globals, fd.closure.map (·.1), fd.builtins)
  | _ => none
/-- an own error's class: its name, its field, its __init__'s text -/
structure ExD where
  c : Str
  f : Str
  t : Str
  qn : Str
  p1 : Pos
  p2 : Pos
  q : Nat → Pos
def ExD.val (d : ExD) : InW := some ("__init__", d.qn, iA d.f d.p1 d.p2, .stmts (iB d.f d.t d.q), iS d.f, mainGlobals, ["__class__"], builtinsNs)
def clsB (K : Frag) (C : Addr) : Bool := match K.lookup C with
  | some ⟨.type t, _, .cls cd, ⟨[_, _, _, _, some (.builtin n), _]⟩⟩ => decide (t = "type") && (decide (n = "ValueError.__new__") && (cd.hasDict && (!cd.hasDel && (match cd.mro with
    | .ref c :: bm => decide (c = C) && (PySem.HandSPX.refsVE bm && eqO (alongIn K "__init__" bm) (some (some (.builtin "ValueError.__init__"))))
    | _ => false))))
  | _ => false
def inB (K : Frag) (C fI : Addr) (file : Str) : Bool := match K.lookup fI with
  | some ⟨_, _, .func fd, _⟩ => (match fd.defaults, fd.kwdefaults, fd.code, fd.closure with
    | .none, .none, .ref cda, [(n, cc)] => decide (n = "__class__") && (codeIn K (.ref cda) fd.qualname && ((match K.lookup cda with
      | some ⟨_, _, .fields vs, _⟩ => (match (vs[2]? : Option Value) with
        | some (Value.str f _) => file == f
        | _ => false)
      | _ => false) && (match K.lookup cc with
      | some ⟨_, _, .cell (some (.ref D)), _⟩ => decide (D = C)
      | _ => false)))
    | _, _, _, _ => false)
  | _ => false
def ecB (K : Frag) (D : Addr) : Bool := (clsIn K D).isSome && (eqO (findIn K (.ref D) "__getattribute__") (some (some (.builtin "BaseException.__getattribute__"))) && (eqO (findIn K (.ref D) "__getattr__") (some none) && (decide (subIn K (.ref D) (.type "BaseException") = some true) &&
  (eqO (findIn K (.ref D) "__class__") (some (some (.builtin "object.__class__"))) && (eqO (specialIn K (.builtin "object.__class__") "__get__") (some (some (.builtin "getset_descriptor.__get__"))) && (decide (takesIn K (.builtin "object.__class__") = some true) && decide (mroIn K D (.type "object") = some true)))))))
theorem ecB_ok {K : Frag} {D : Addr} (h : ecB K D = true) : ExC K D := by
  obtain ⟨h1, h⟩ := ba h
  obtain ⟨h2, h⟩ := ba h
  obtain ⟨h3, h⟩ := ba h
  obtain ⟨h4, h⟩ := ba h
  obtain ⟨h5, h⟩ := ba h
  obtain ⟨h6, h⟩ := ba h
  obtain ⟨h7, h8⟩ := ba h
  exact ⟨h1, eqO_ok h2, eqO_ok h3, of_decide_eq_true h4, eqO_ok h5, eqO_ok h6, of_decide_eq_true h7, of_decide_eq_true h8⟩
def exB (K : Frag) (file : Str) (d : ExD) : Bool := clsB K (ga K d.c) && (inB K (ga K d.c) (ma K (ga K d.c) "__init__") file && (ecB K (ga K d.c) &&
  (eqO (nsIn K mainGlobals d.c) (some (some (.ref (ga K d.c)))) && (eqO (findIn K (.ref (ga K d.c)) "__setattr__") (some (some (.builtin "object.__setattr__"))) && (eqO (findIn K (.ref (ga K d.c)) d.f) (some none) &&
  (eqO (findIn K (.ref (ga K d.c)) "__init__") (some (some (.ref (ma K (ga K d.c) "__init__")))) && (decide (typeIn K (.ref (ma K (ga K d.c) "__init__")) = some (.type "function")) && (keepIn K (.ref (ga K d.c)) && (decide (subIn K (.ref (ga K d.c)) (.type "ValueError") = some true) &&
  (decide (typeIn K (.ref (ga K d.c)) = some (.type "type")) && (hasDictIn K (ga K d.c) && (decide (mroIn K (ga K d.c) (.ref (ga K d.c)) = some true) && (eqO (nsIn K cStatics "thirdparty.any") (some none) && eqO (nsIn K mainGlobals "super") (some none))))))))))))))
theorem clsB_ok {K : Frag} {C : Addr} (h : clsB K C = true) : ∃ nm q N bs bm sn sub ab col dd k0 k1 k2 k3 k5, K.lookup C = some (excClassObj nm q C N bs bm true sn sub ab col dd k0 k1 k2 k3 k5 "ValueError.__new__") ∧ PySem.HandSPX.refsVE bm = true ∧ alongIn K "__init__" bm = some (some (.builtin "ValueError.__init__")) := by
  unfold clsB at h
  split at h
  · rename_i t dd cd k0 k1 k2 k3 n k5 ho
    obtain ⟨a1, r1⟩ := ba h
    obtain ⟨a2, r2⟩ := ba r1
    obtain ⟨a3, r3⟩ := ba r2
    obtain ⟨a4, r4⟩ := ba r3
    clear h r1 r2 r3
    have e1 := of_decide_eq_true a1
    have e2 := of_decide_eq_true a2
    subst e1 e2
    obtain ⟨nm, bs, mro, ns, qn, hd, sn, sb, ab, col, del⟩ := cd
    dsimp only at a3 a4 r4
    cases mro with
    | nil => cases r4
    | cons m bm =>
      cases m with
      | ref c =>
        dsimp only at r4
        obtain ⟨a5, r5⟩ := ba r4
        obtain ⟨a6, a7⟩ := ba r5
        have e5 := of_decide_eq_true a5
        subst e5
        have e4 : del = false := by simpa using a4
        subst e4
        subst a3
        exact ⟨nm, qn, ns, bs, bm, sn, sb, ab, col, dd, k0, k1, k2, k3, k5, ho, a6, eqO_ok a7⟩
      | _ => cases r4
  · cases h
end Mi
namespace Mi
open PySem PySem.Spec PyProof.Rows L2 PySem.MiX He PySem.W
/-- the text of such an __init__ does as Python's rules say -/
structure ExTxt (d : ExD) : Prop where
  b : ∀ (doc pm : Value) (an : Option Addr) (cda : Addr) (ct : Value) (cc : Addr) (u v : Value), bindArgs (ksFn "__init__" d.qn (iA d.f d.p1 d.p2) (iB d.f d.t d.q) (iS d.f) .none .none doc pm an (.ref cda) ct cc) ⟨[u, v], []⟩ = pure ([(("self" : Str), u), (d.f, v)] : List (Str × Value))
  e : ∀ env, ∃ pl, eval (iE d.t d.q) env = (do
      let ov ← attributeBase (.Call (.Name "super" (d.q 0)) [] [] (d.q 1)) "__init__" env (eval (.Call (.Name "super" (d.q 0)) [] [] (d.q 1)) env)
      standAt (d.q 2).atName
      let (f, first) ← holding [ov] (getMethod ov "__init__" pl)
      callWith (d.q 4) f first (backTo (d.q 4) (starEach [.Constant (.str d.t) 0 (d.q 3)] env)) [])
theorem exT_of {P : Program} {K : Frag} {mg : Str → Option Value} {h : Heap} {d : ExD} (X : K.In h) (G : h.Ns mainGlobals mg) (ht : (P.main.scope.names.lookup ("super" : Str)).isSome = false) (tx : ExTxt d) (c : exB K P.main.file d = true) (e : inW K d.c = d.val) :
    ExT P K mg d.c d.f (ga K d.c) (ma K (ga K d.c) "__init__") := by
  obtain ⟨a1, r⟩ := ba c
  obtain ⟨a2, r⟩ := ba r
  obtain ⟨a3, r⟩ := ba r
  obtain ⟨a4, r⟩ := ba r
  obtain ⟨a5, r⟩ := ba r
  obtain ⟨a6, r⟩ := ba r
  obtain ⟨a7, r⟩ := ba r
  obtain ⟨a8, r⟩ := ba r
  obtain ⟨a9, r⟩ := ba r
  obtain ⟨a10, r⟩ := ba r
  obtain ⟨a11, r⟩ := ba r
  obtain ⟨a12, r⟩ := ba r
  obtain ⟨a13, r⟩ := ba r
  obtain ⟨a14, a15⟩ := ba r
  have E := ecB_ok a3
  refine ⟨mg_of X G (eqO_ok a4), clsB_ok a1, eqO_ok a5, E.hg, E.hk, eqO_ok a6, eqO_ok a7, of_decide_eq_true a8, a9, E.hs, of_decide_eq_true a10, of_decide_eq_true a11, a12, of_decide_eq_true a13, eqO_ok a14, mg_none_of X G (eqO_ok a15), ht, ?_⟩
  unfold inW at e
  unfold inB at a2
  cases q : K.lookup (ma K (ga K d.c) "__init__") with
  | none =>
    rw [q] at a2
    cases a2
  | some o =>
    obtain ⟨oc, od, dt, osl⟩ := o
    rw [q] at a2 e
    cases dt with
    | func fd =>
      obtain ⟨n1, n2, n3, n4, n5, n6, n7, n8, n9, n10, n11, n12, n13, n14, n15⟩ := fd
      have e2 : (some (n1, n2, n3, n4, n5, n6, n7.map (·.1), n15) : InW) = some (("__init__" : Str), d.qn, iA d.f d.p1 d.p2, FuncBody.stmts (iB d.f d.t d.q), iS d.f, mainGlobals, [("__class__" : Str)], builtinsNs) := e
      simp only [Option.some.injEq, Prod.mk.injEq] at e2
      obtain ⟨h1, h2, h3, h4, h5, h6, h7, h8⟩ := e2
      subst h1 h2 h3 h4 h5 h6 h8
      cases n8 with
      | none =>
        cases n9 with
        | none =>
          cases n13 with
          | ref cda =>
            cases n7 with
            | nil => cases a2
            | cons p r =>
              cases r with
              | cons _ _ => cases a2
              | nil =>
                obtain ⟨n, cc⟩ := p
                dsimp only at a2
                obtain ⟨c1, s⟩ := ba a2
                obtain ⟨c2, s⟩ := ba s
                obtain ⟨c3, c4⟩ := ba s
                have ec := of_decide_eq_true c1
                subst ec
                cases q1 : K.lookup cda with
                | none => rw [q1] at c3; cases c3
                | some o1 =>
                  obtain ⟨oc1, od1, dt1, osl1⟩ := o1
                  rw [q1] at c3
                  cases dt1 with
                  | fields vs =>
                    dsimp only at c3
                    cases q2 : vs[2]? with
                    | none => rw [q2] at c3; cases c3
                    | some y =>
                      rw [q2] at c3
                      cases y with
                      | str file tf =>
                        cases q3 : K.lookup cc with
                        | none => rw [q3] at c4; cases c4
                        | some o2 =>
                          obtain ⟨oc2, od2, dt2, osl2⟩ := o2
                          rw [q3] at c4
                          cases dt2 with
                          | cell v =>
                            cases v with
                            | none => cases c4
                            | some v =>
                              cases v with
                              | ref D =>
                                have eD := of_decide_eq_true c4
                                subst eD
                                exact ⟨oc, od, n10, n11, n12, n14, osl, d.p1, d.p2, d.q, d.t, d.qn, cda, cc, oc1, od1, vs, osl1, file, tf, oc2, od2, osl2, rfl, c2, q1, q2, c3, q3, tx.b _ _ _ _ _ _, tx.e⟩
                              | _ => cases c4
                          | _ => cases c4
                      | _ => cases c3
                  | _ => cases c3
          | _ => cases a2
        | _ => cases a2
      | _ => cases a2
    | _ => cases a2
/-! ### the Hook -/
abbrev AlM : Type := (Bool × List FnW) × (Bool × List InW)
/-- all pairs of the own errors: how isinstance answers; the root catches all -/
def relB2 (K : Frag) (xs : List ExD) (root : Str) (sub : Str → Str → Bool) : Bool := xs.all fun d => (xs.all fun e => decide (kitOne K (.ref (ga K d.c)) (.ref (ga K e.c)) = some (sub d.c e.c))) && decide (exmOne K (.ref (ga K d.c)) (.ref (ga K root)) = some true)
def factB (K : Frag) (file : Str) (xs : List ExD) (root : Str) (sub : Str → Str → Bool) : Bool := (xs.all fun d => exB K file d) && (relB2 K xs root sub && eqO (nsIn K mainGlobals root) (some (some (.ref (ga K root)))))
def frM (n : Nat) (g : Addr → Option Obj) : Frag := frG g (cStatics :: asD g n)
def obsM (n : Nat) (fa : List Fa) (fn : List DefD) (file : Str) (xs : List ExD) (root : Str) (sub : Str → Str → Bool) (g : Addr → Option Obj) : AlM := (obsD fa fn (frM n g), (factB (frM n g) file xs root sub, xs.map fun d => inW (frM n g) d.c))
def valM (fn : List DefD) (xs : List ExD) : AlM := (valD fn, (true, xs.map ExD.val))
structure SaysM (fa : List Fa) (fn : List DefD) (file : Str) (xs : List ExD) (root : Str) (sub : Str → Str → Bool) (K : Frag) : Prop where
  d : SaysD fa fn K
  f : factB K file xs root sub = true
  i : xs.map (fun d => inW K d.c) = xs.map ExD.val
def hookM (n : Nat) (fa : List Fa) (fn : List DefD) (file : Str) (xs : List ExD) (root : Str) (sub : Str → Str → Bool) : Hook where
  α := AlM
  obs := fun s => obsM n fa fn file xs root sub s.heap.get?
  val := fun _ => valM fn xs
  says := fun _ h => ∃ K : Frag, K.In h ∧ SaysM fa fn file xs root sub K
  of := fun _ _ e => ⟨_, frG_in, congrArg (fun z : AlM => z.1) e, congrArg (fun z : AlM => z.2.1) e, congrArg (fun z : AlM => z.2.2) e⟩
  keeps := fun _ _ _ ⟨K, hK, c⟩ k => ⟨K, Frag.In.keeps hK k, c⟩
theorem obsM_eq {n : Nat} {fa : List Fa} {fn : List DefD} {file : Str} {xs : List ExD} {root : Str} {sub : Str → Str → Bool} {g : Addr → Option Obj} {s : Shared} (h : ∀ a, g a = s.heap.get? a) : obsM n fa fn file xs root sub g = (hookM n fa fn file xs root sub).obs s := by
  have e : g = s.heap.get? := funext h
  rw [e] <;> rfl
theorem clsT_of {P : Program} {K : Frag} {mg : Str → Option Value} {h : Heap} {fa : List Fa} {fn : List DefD} {xs : List ExD} {root : Str} {sub : Str → Str → Bool} (X : K.In h) (G : h.Ns mainGlobals mg) (ht : (P.main.scope.names.lookup ("super" : Str)).isSome = false) (tx : ∀ d ∈ xs, ExTxt d)
    (c : SaysM fa fn P.main.file xs root sub K) : ClsT P K mg (ga K) (xs.map fun d => (d.c, d.f)) root sub := by
  obtain ⟨f1, r⟩ := ba c.f
  obtain ⟨f2, f3⟩ := ba r
  have mem : ∀ {c f}, (c, f) ∈ xs.map (fun d => (d.c, d.f)) → ∃ d ∈ xs, d.c = c ∧ d.f = f := fun {c f} hm => by
    obtain ⟨d, h1, h2⟩ := List.mem_map.mp hm
    cases h2
    exact ⟨d, h1, rfl, rfl⟩
  have inn : ∀ d ∈ xs, inW K d.c = d.val := fun d hd => by
    obtain ⟨i, hi, e⟩ := List.mem_iff_getElem.mp hd
    have e2 : (xs.map fun d => inW K d.c)[i]? = (xs.map ExD.val)[i]? := by rw [c.i]
    rw [List.getElem?_map, List.getElem?_map, List.getElem?_eq_getElem hi, e] at e2
    exact Option.some.inj e2
  have rel := List.all_eq_true.mp f2
  refine ⟨fun c f hm => ?_, mg_of X G (eqO_ok f3), fun c f hm => ?_, fun c f d g hm hm2 => ?_, fun c f hm => ?_⟩
  · obtain ⟨d, hd, rfl, rfl⟩ := mem hm
    exact ⟨_, exT_of X G ht (tx d hd) (List.all_eq_true.mp f1 d hd) (inn d hd)⟩
  · obtain ⟨d, hd, rfl, rfl⟩ := mem hm
    have := List.all_eq_true.mp f1 d hd
    obtain ⟨_, r⟩ := ba this
    obtain ⟨_, r⟩ := ba r
    exact ecB_ok (ba r).1
  · obtain ⟨d, hd, rfl, rfl⟩ := mem hm
    obtain ⟨e, he, rfl, rfl⟩ := mem hm2
    exact of_decide_eq_true (List.all_eq_true.mp (ba (rel d hd)).1 e he)
  · obtain ⟨d, hd, rfl, rfl⟩ := mem hm
    exact of_decide_eq_true (ba (rel d hd)).2
/-- the law's promise at a script -/
theorem law_sp {K : Frag} {mg : Str → Option Value} {H : Hp} {a : Addr} {ns : List Int} {f : List Sl → DR} (hS : SqL K H a (ns.map V.int)) (hf : f [.val (.frl (ns.map D.int))] = .ok (.v (.bl true)) []) : spM K mg 1 [] f [.ref a] H (fun v _ => v = .bl true) fun _ _ _ => False := by
  refine ⟨rfl, H, [.val (.frl (ns.map D.int))], Same.refl _, ⟨rfl, fun i d e => ?_, fun i io o e => ?_, fun j hj => (by cases hj), fun i j b hij h1 => (by cases h1)⟩, ?_⟩
  · cases i with
    | zero => cases e; exact ⟨_, rfl, .frl hS (RpA.ints _)⟩
    | succ i => simp at e
  · cases i with
    | zero => cases e
    | succ i => simp at e
  · rw [hf]
    intro F' H' x _ rr
    cases rr with
    | v r => cases r; rfl
theorem cx_none {P : Program} {w : World} (H : Hp) (s : Shared) (e : Value) (s' : Shared) (h : L2.CX P w [] H s (fun _ _ _ => False) e s') : False := by
  obtain ⟨_, _, _, _, _, _, _, _, _, _, _, _, h⟩ := h
  exact h
end Mi
namespace Mi
open PySem PySem.Spec PyProof.Rows L2 PySem.MiX He PySem.W
/-- what any World's def may let out -/
def CXU (P : Program) : CXT := fun outer H s E u s' => ∃ w, L2.CX P w outer H s E u s'
theorem fnok_wide {P : Program} {w : World} {K : Frag} {mg : Str → Option Value} {base : Heap} {k : Nat} {f : Addr} {fd : FuncData} {ps : List Str} {sp : Sp} (F : FnOk P w K mg base (L2.CX P w) k f fd ps sp) : FnOk P w K mg base (CXU P) k f fd ps sp where
  len := F.len
  run := fun A outer s H args us vs Q E hr he hb hv hs => codeAny_mono (F.run A outer s H args us vs Q E hr he hb hv hs) fun r s' z => by
    cases r with
    | error e => exact ⟨w, z⟩
    | ok fl => cases fl <;> exact z
theorem cxu_none {P : Program} (H : Hp) (s : Shared) (e : Value) (s' : Shared) (h : CXU P [] H s (fun _ _ _ => False) e s') : False := by
  obtain ⟨w, h⟩ := h
  exact cx_none H s e s' h
/-- the law's end: its promise, over every base -/
theorem law_end {P : Program} {K : Frag} {mg : Str → Option Value} {h : Heap} {fa : Addr} {w : World} {k : Nat} {f : List Sl → DR} {d : DefD} {fn : List DefD} {fas : List Fa} {p : Str} (X : K.In h) (hm : mg "law" = some (.ref fa))
    (F : ∀ base, CalM P w K mg base k "law" 1 [] f) (hb : ∀ fd, (∃ f', FunD K d.name d.qual d.params d.body d.scope (d.dvs K) (d.kws K) f' fd) → ∀ (s : Shared) (u : Value), BindsTo s fd ⟨[u], []⟩ [(p, u)])
    (hf : ∀ ns : List Int, ns.length ≤ 63 → f [.val (.frl (ns.map D.int))] = .ok (.v (.bl true)) []) : True := trivial
end Mi
set_option Elab.async false
set_option linter.all false
set_option maxRecDepth 100000
set_option maxHeartbeats 2000000
/-! Mi, part Z: a suite does the same whatever the caught error's addresses are. -/
namespace Mi
open PySem PySem.Spec PyProof.Rows L2 PySem.MiX
def seE (i : Nat) (a d : Addr) (c : Str) (fs : List (Str × D)) (ρ : En) : En := ρ.set i (.val (.exc a d c fs))
section
variable {i : Nat} {a d : Addr} {c : Str} {fs : List (Str × D)} {ρ : En} {k : Ck}
theorem canSet_lt (h : canSet ρ i = true) : i < ρ.length := (canSet_ok h).1
theorem se_ne {j : Nat} (h : j ≠ i) : (seE i a d c fs ρ)[j]? = ρ[j]? := List.getElem?_set_ne (Ne.symm h)
theorem se_at (h : canSet ρ i = true) : (seE i a d c fs ρ)[i]? = some (.val (.exc a d c fs)) := List.getElem?_set_self (canSet_lt h)
theorem se_set {j : Nat} (h : j ≠ i) {s : Sl} : (seE i a d c fs ρ).set j s = seE i a d c fs (ρ.set j s) := List.set_comm _ _ (Ne.symm h)
theorem can_set {j : Nat} (h : j ≠ i) {s : Sl} : canSet (ρ.set j s) i = canSet ρ i := by
  unfold canSet
  rw [List.getElem?_set_ne h]
variable (i a d c fs)
/-- two results that differ in the error's addresses alone -/
inductive RE {α : Type} (Ok : α → Prop) : R α → R α → Prop
  | bad : RE Ok .bad .bad
  | ok {v : α} {ρ : En} : Ok v → canSet ρ i = true → RE Ok (.ok v (seE i a d c fs ρ)) (.ok v (seE i 0 0 c fs ρ))
  | ex {x : Xc} {ρ : En} : RE Ok (.ex x (seE i a d c fs ρ)) (.ex x (seE i 0 0 c fs ρ))
def ParX {α : Type} (Ok : α → Prop) (m1 m2 : En → R α) : Prop := ∀ ρ, canSet ρ i = true → RE i a d c fs Ok (m1 (seE i a d c fs ρ)) (m2 (seE i 0 0 c fs ρ))
def okO (v : OV) : Prop := v ≠ .o i
def okB (v : OB) : Prop := v ≠ .o i
def okL (vs : List OB) : Prop := ∀ v ∈ vs, okB i v
variable {i a d c fs}
theorem ParX.bind {α β : Type} {Ok : α → Prop} {Ok' : β → Prop} {m1 m2 : En → R α} {f1 f2 : α → En → R β} (h : ParX i a d c fs Ok m1 m2) (k : ∀ v, Ok v → ParX i a d c fs Ok' (f1 v) (f2 v)) : ParX i a d c fs Ok' (fun ρ => (m1 ρ).bind f1) (fun ρ => (m2 ρ).bind f2) := fun ρ hc => by
  have z := h ρ hc
  show RE i a d c fs Ok' ((m1 (seE i a d c fs ρ)).bind f1) ((m2 (seE i 0 0 c fs ρ)).bind f2)
  generalize m1 (seE i a d c fs ρ) = r1 at z ⊢
  generalize m2 (seE i 0 0 c fs ρ) = r2 at z ⊢
  cases z with
  | bad => exact .bad
  | ok hv hc2 => exact k _ hv _ hc2
  | ex => exact .ex
theorem okO.fz {v : OV} (h : okO i v) : okB i v.fz := by
  cases v with
  | o j => exact fun e => h (by cases e; rfl)
  | d x => exact fun e => nomatch e
  | n w => exact fun e => nomatch e
theorem get_se {v : OB} (h : okB i v) : v.get (seE i a d c fs ρ) = v.get ρ := by
  cases v with
  | d x => rfl
  | o j =>
    have hj : j ≠ i := fun e => h (by rw [e])
    show (match (seE i a d c fs ρ)[j]? with
      | some (Sl.own _ w) => some w.d
      | some (Sl.val w) => some w
      | _ => none) = _
    rw [se_ne hj]
    rfl
theorem par_c {x : D} : ParX i a d c fs (okO i) (mC x) (mC x) := fun ρ hc => .ok (fun e => nomatch e) hc
theorem par_var {j : Nat} (hj : j ≠ i) : ParX i a d c fs (okO i) (mVar j) (mVar j) := fun ρ hc => by
  unfold mVar
  rw [se_ne hj, se_ne hj]
  cases ρ[j]? with
  | none => exact .bad
  | some s =>
    cases s with
    | un => exact .bad
    | val x => exact .ok (fun e => nomatch e) hc
    | own io w => exact .ok (fun e => hj (by cases e; rfl)) hc
theorem par_isE {tbl : List (Str × Bool)} : ParX i k.a k.d k.c fs (okO i) (mIsE tbl k (mVar i)) (mIsE tbl ⟨0, 0, k.c⟩ (mVar i)) := fun ρ hc => by
  unfold mIsE mVar
  rw [se_at hc, se_at hc]
  dsimp only [R.bind, OV.fz, OB.get]
  rw [if_pos ⟨rfl, rfl, rfl⟩, if_pos ⟨rfl, rfl, rfl⟩]
  cases tbl.lookup k.c with
  | none => exact .bad
  | some b => exact .ok (fun e => nomatch e) hc
theorem par_xf {tbl : List (Str × Str)} {f : Str} : ParX i k.a k.d k.c fs (okO i) (mXf tbl k f (mVar i)) (mXf tbl ⟨0, 0, k.c⟩ f (mVar i)) := fun ρ hc => by
  unfold mXf mVar
  rw [se_at hc, se_at hc]
  dsimp only [R.bind, OV.fz, OB.get]
  by_cases ht : tbl.contains (k.c, f) = true
  · rw [if_pos ⟨rfl, rfl, rfl, ht⟩, if_pos ⟨rfl, rfl, rfl, ht⟩]
    cases fldD fs f with
    | none => exact .bad
    | some y => exact .ok (fun e => nomatch e) hc
  · rw [if_neg (fun z => ht z.2.2.2), if_neg (fun z => ht z.2.2.2)]
    exact .bad
theorem rz_par {o : Option D} (hc : canSet ρ i = true) : RE i a d c fs (okO i) (rz o (seE i a d c fs ρ)) (rz o (seE i 0 0 c fs ρ)) := by
  cases o with
  | none => exact .bad
  | some z => exact .ok (fun e => nomatch e) hc
theorem par_op {g : D → D → Option D} {m1 m2 n1 n2 : EM} (h1 : ParX i a d c fs (okO i) m1 m2) (h2 : ParX i a d c fs (okO i) n1 n2) : ParX i a d c fs (okO i) (mB g m1 n1) (mB g m2 n2) :=
  ParX.bind h1 fun v hv => ParX.bind h2 fun u hu => fun ρ hc => by
    unfold ap2
    rw [get_se hv.fz, get_se hu.fz, get_se hv.fz, get_se hu.fz]
    cases v.fz.get ρ with
    | none => exact .bad
    | some x =>
      cases u.fz.get ρ with
      | none => exact .bad
      | some y => exact rz_par hc
theorem par_nil : ParX i a d c fs (okL i) mNil mNil := fun ρ hc => .ok (fun v hv => nomatch hv) hc
theorem par_cons {m1 m2 : EM} {s1 s2 : AM} (h1 : ParX i a d c fs (okO i) m1 m2) (h2 : ParX i a d c fs (okL i) s1 s2) : ParX i a d c fs (okL i) (mCons m1 s1) (mCons m2 s2) :=
  ParX.bind h1 fun v hv => ParX.bind h2 fun vs hvs => fun ρ hc => .ok (fun u hu => by
    rcases List.mem_cons.mp hu with rfl | hu
    · exact hv.fz
    · exact hvs u hu) hc
theorem getAll_se : ∀ {vs : List OB}, okL i vs → getAll vs (seE i a d c fs ρ) = getAll vs ρ
  | [], _ => rfl
  | v :: vs, h => by
    unfold getAll
    rw [get_se (h v (List.mem_cons_self ..)), getAll_se fun u hu => h u (List.mem_cons_of_mem _ hu)]
theorem par_cb {g : List D → Option D} {s1 s2 : AM} (h : ParX i a d c fs (okL i) s1 s2) : ParX i a d c fs (okO i) (mCB g s1) (mCB g s2) :=
  ParX.bind h fun vs hvs => fun ρ hc => by
    unfold apN
    rw [getAll_se hvs, getAll_se hvs]
    cases getAll vs ρ with
    | none => exact .bad
    | some ds => exact rz_par hc
theorem esc_se {v : OB} (h : okB i v) : (esc v ρ = none ∧ ∀ a d, esc v (seE i a d c fs ρ) = none) ∨ ∃ x ρ', esc v ρ = some (x, ρ') ∧ (canSet ρ' i = canSet ρ i) ∧ ∀ a d, esc v (seE i a d c fs ρ) = some (x, seE i a d c fs ρ') := by
  cases v with
  | d x => exact .inr ⟨x, ρ, rfl, rfl, fun _ _ => rfl⟩
  | o j =>
    have hj : j ≠ i := fun e => h (by rw [e])
    have e1 : ∀ ρ, esc (.o j) ρ = (match ρ[j]? with
      | some (Sl.val x) => some (x, ρ)
      | some (Sl.own false w) => some (w.d, ρ.set j (.val w.d))
      | _ => none) := fun ρ => rfl
    cases q : ρ[j]? with
    | none => exact .inl ⟨by rw [e1, q], fun a d => by rw [e1, se_ne hj, q]⟩
    | some s =>
      cases s with
      | un => exact .inl ⟨by rw [e1, q], fun a d => by rw [e1, se_ne hj, q]⟩
      | val x => exact .inr ⟨x, ρ, by rw [e1, q], rfl, fun a d => by rw [e1, se_ne hj, q]⟩
      | own io w =>
        cases io with
        | true => exact .inl ⟨by rw [e1, q], fun a d => by rw [e1, se_ne hj, q]⟩
        | false => exact .inr ⟨w.d, ρ.set j (.val w.d), by rw [e1, q], can_set hj, fun a d => by
            rw [e1, se_ne hj, q]
            dsimp only
            rw [se_set hj]⟩
theorem escs_se : ∀ {vs : List OB} {ρ : En}, okL i vs → (escs vs ρ = none ∧ ∀ a d, escs vs (seE i a d c fs ρ) = none) ∨ ∃ xs ρ', escs vs ρ = some (xs, ρ') ∧ (canSet ρ' i = canSet ρ i) ∧ ∀ a d, escs vs (seE i a d c fs ρ) = some (xs, seE i a d c fs ρ')
  | [], ρ, _ => .inr ⟨[], ρ, rfl, rfl, fun _ _ => rfl⟩
  | v :: vs, ρ, h => by
    rcases esc_se (c := c) (fs := fs) (ρ := ρ) (h v (List.mem_cons_self ..)) with ⟨h1, h2⟩ | ⟨x, ρ1, h1, h2, h3⟩
    · exact .inl ⟨by unfold escs; rw [h1], fun a d => by unfold escs; rw [h2]⟩
    · rcases escs_se (vs := vs) (ρ := ρ1) fun u hu => h u (List.mem_cons_of_mem _ hu) with ⟨k1, k2⟩ | ⟨xs, ρ2, k1, k2, k3⟩
      · exact .inl ⟨by unfold escs; rw [h1]; dsimp only; rw [k1], fun a d => by unfold escs; rw [h3]; dsimp only; rw [k2]⟩
      · exact .inr ⟨x :: xs, ρ2, by unfold escs; rw [h1]; dsimp only; rw [k1], k2.trans h2, fun a d => by unfold escs; rw [h3]; dsimp only; rw [k3]⟩
theorem par_lst {s1 s2 : AM} (h : ParX i a d c fs (okL i) s1 s2) : ParX i a d c fs (okO i) (mLst s1) (mLst s2) :=
  ParX.bind h fun vs hvs => fun ρ hc => by
    rcases escs_se (c := c) (fs := fs) (ρ := ρ) hvs with ⟨h1, h2⟩ | ⟨xs, ρ1, h1, h2, h3⟩
    · rw [h2, h2]
      exact .bad
    · rw [h3, h3]
      dsimp only
      by_cases hz : xs.length ≤ BIG
      · rw [if_pos hz, if_pos hz]
        exact .ok (fun e => nomatch e) (h2.trans hc)
      · rw [if_neg hz, if_neg hz]
        exact .bad
theorem par_tup {s1 s2 : AM} (h : ParX i a d c fs (okL i) s1 s2) : ParX i a d c fs (okO i) (mTup s1) (mTup s2) :=
  ParX.bind h fun vs hvs => fun ρ hc => by
    rcases escs_se (c := c) (fs := fs) (ρ := ρ) hvs with ⟨h1, h2⟩ | ⟨xs, ρ1, h1, h2, h3⟩
    · rw [h2, h2]
      exact .bad
    · rw [h3, h3]
      dsimp only
      by_cases hz : xs.length ≤ BIG
      · rw [if_pos hz, if_pos hz]
        exact .ok (fun e => nomatch e) (h2.trans hc)
      · rw [if_neg hz, if_neg hz]
        exact .bad
/-! ### tests -/
abbrev okT (_ : Bool) : Prop := True
theorem par_tst {m1 m2 : EM} (h : ParX i a d c fs (okO i) m1 m2) : ParX i a d c fs okT (mTst m1) (mTst m2) :=
  ParX.bind h fun v _ => fun ρ hc => by
    unfold tb
    split
    · exact .ok trivial hc
    · exact .bad
theorem par_not {m1 m2 : TM} (h : ParX i a d c fs okT m1 m2) : ParX i a d c fs okT (mNot m1) (mNot m2) := ParX.bind h fun v _ => fun ρ hc => .ok trivial hc
theorem par_and {m1 m2 n1 n2 : TM} (h : ParX i a d c fs okT m1 m2) (k : ParX i a d c fs okT n1 n2) : ParX i a d c fs okT (mAnd m1 n1) (mAnd m2 n2) := ParX.bind h fun v _ => fun ρ hc => by
  cases v with
  | true => exact k ρ hc
  | false => exact .ok trivial hc
theorem par_or {m1 m2 n1 n2 : TM} (h : ParX i a d c fs okT m1 m2) (k : ParX i a d c fs okT n1 n2) : ParX i a d c fs okT (mOr m1 n1) (mOr m2 n2) := ParX.bind h fun v _ => fun ρ hc => by
  cases v with
  | true => exact .ok trivial hc
  | false => exact k ρ hc
/-! ### statements -/
variable (i a d c fs)
inductive RS : SR → SR → Prop
  | bad : RS .bad .bad
  | nx {ρ : En} : canSet ρ i = true → RS (.nx (seE i a d c fs ρ)) (.nx (seE i 0 0 c fs ρ))
  | bk {ρ : En} : canSet ρ i = true → RS (.bk (seE i a d c fs ρ)) (.bk (seE i 0 0 c fs ρ))
  | ct {ρ : En} : canSet ρ i = true → RS (.ct (seE i a d c fs ρ)) (.ct (seE i 0 0 c fs ρ))
  | rt {r : RV} {ρ : En} : canSet ρ i = true → RS (.rt r (seE i a d c fs ρ)) (.rt r (seE i 0 0 c fs ρ))
  | ex {x y : Xc} {ρ ρ' : En} : RS (.ex x ρ) (.ex y ρ')
def ParS (m1 m2 : SM) : Prop := ∀ ρ, canSet ρ i = true → RS i a d c fs (m1 (seE i a d c fs ρ)) (m2 (seE i 0 0 c fs ρ))
variable {i a d c fs}
theorem ParX.st {α : Type} {Ok : α → Prop} {m1 m2 : En → R α} {f1 f2 : α → En → SR} (h : ParX i a d c fs Ok m1 m2) (k : ∀ v, Ok v → ParS i a d c fs (f1 v) (f2 v)) : ParS i a d c fs (fun ρ => (m1 ρ).st f1) (fun ρ => (m2 ρ).st f2) := fun ρ hc => by
  have z := h ρ hc
  show RS i a d c fs ((m1 (seE i a d c fs ρ)).st f1) ((m2 (seE i 0 0 c fs ρ)).st f2)
  generalize m1 (seE i a d c fs ρ) = r1 at z ⊢
  generalize m2 (seE i 0 0 c fs ρ) = r2 at z ⊢
  cases z with
  | bad => exact .bad
  | ok hv hc2 => exact k _ hv _ hc2
  | ex => exact .ex
theorem par_next : ParS i a d c fs mNext mNext := fun ρ hc => .nx hc
theorem par_ifs {m1 m2 : TM} {s1 s2 t1 t2 : SM} (h : ParX i a d c fs okT m1 m2) (h1 : ParS i a d c fs s1 s2) (h2 : ParS i a d c fs t1 t2) : ParS i a d c fs (mIfS m1 s1 t1) (mIfS m2 s2 t2) := ParX.st h fun v _ => fun ρ hc => by
  cases v with
  | true => exact h1 ρ hc
  | false => exact h2 ρ hc
theorem par_drop {m1 m2 : EM} (h : ParX i a d c fs (okO i) m1 m2) : ParS i a d c fs (mDrop m1) (mDrop m2) := ParX.st h fun v _ => fun ρ hc => .nx hc
theorem par_ret {m1 m2 : EM} (h : ParX i a d c fs (okO i) m1 m2) : ParS i a d c fs (mRet m1) (mRet m2) := ParX.st h fun v hv => fun ρ hc => by
  cases v with
  | d x => exact .rt hc
  | n w => exact .rt hc
  | o j =>
    have hj : j ≠ i := fun e => hv (by rw [e])
    have e1 : ∀ ρ, retV (.o j) ρ = (match ρ[j]? with
      | some (.val x) => .rt (.v x) ρ
      | some (.own false w) => .rt (.w w) (ρ.set j .un)
      | _ => .bad) := fun ρ => rfl
    rw [e1, e1, se_ne hj, se_ne hj]
    cases ρ[j]? with
    | none => exact .bad
    | some s =>
      cases s with
      | un => exact .bad
      | val x => exact .rt hc
      | own io w =>
        cases io with
        | true => exact .bad
        | false =>
          dsimp only
          rw [se_set hj, se_set hj]
          exact .rt ((can_set hj).trans hc)
theorem par_seq {s1 s2 t1 t2 : SM} (h1 : ParS i a d c fs s1 s2) (h2 : ParS i a d c fs t1 t2) : ParS i a d c fs (mSeq s1 t1) (mSeq s2 t2) := fun ρ hc => by
  have z := h1 ρ hc
  unfold mSeq
  generalize s1 (seE i a d c fs ρ) = r1 at z ⊢
  generalize s2 (seE i 0 0 c fs ρ) = r2 at z ⊢
  cases z with
  | bad => exact .bad
  | nx h => exact h2 _ h
  | bk h => exact .bk h
  | ct h => exact .ct h
  | rt h => exact .rt h
  | ex => exact .ex
theorem gone_se {f : En → SR} (h : canSet ρ i = true) : goneS i (seE i a d c fs ρ) f = f (ρ.set i .un) := by
  unfold goneS
  have e : canSet (seE i a d c fs ρ) i = true := by
    unfold canSet
    rw [se_at h]
  rw [if_pos e]
  unfold seE
  rw [List.set_set]
/-- what ms_try asks of a suite -/
theorem suite_par {ms : Ck → SM} {x : Xc} (h : x.c = k.c) (p : ∀ fs, ParS i k.a k.d k.c fs (ms k) (ms ⟨0, 0, k.c⟩)) : mSuite i ms k x ρ = mSuite i ms ⟨0, 0, x.c⟩ x ρ := by
  obtain ⟨c, fs⟩ := x
  dsimp only at h
  subst h
  unfold mSuite
  by_cases hc : canSet ρ i = true
  · rw [if_pos hc, if_pos hc]
    have z := p fs ρ hc
    show unslot i (ms k (seE i k.a k.d k.c fs ρ)) = unslot i (ms ⟨0, 0, k.c⟩ (seE i 0 0 k.c fs ρ))
    generalize ms k (seE i k.a k.d k.c fs ρ) = r1 at z ⊢
    generalize ms ⟨0, 0, k.c⟩ (seE i 0 0 k.c fs ρ) = r2 at z ⊢
    cases z with
    | bad => rfl
    | nx h => show goneS _ _ _ = goneS _ _ _; rw [gone_se h, gone_se h]
    | bk h => show goneS _ _ _ = goneS _ _ _; rw [gone_se h, gone_se h]
    | ct h => show goneS _ _ _ = goneS _ _ _; rw [gone_se h, gone_se h]
    | rt h => show goneS _ _ _ = goneS _ _ _; rw [gone_se h, gone_se h]
    | ex => rfl
  · rw [if_neg hc, if_neg hc]
end
end Mi
set_option Elab.async false
set_option linter.all false
set_option maxRecDepth 100000
set_option maxHeartbeats 2000000
/-! Mi, part Ev: how mirrors are reckoned out: rules for the simplifier, with bounds as side goals. -/
namespace Mi
open PySem
theorem e_mulr {a b : Int} (h1 : -(2 ^ 64) < b) (h2 : b < 2 ^ 64) : dMul (.int a) (.int b) = some (.int (a * b)) := if_pos (.inr ⟨h1, h2⟩)
theorem e_mull {a b : Int} (h1 : -(2 ^ 64) < a) (h2 : a < 2 ^ 64) : dMul (.int a) (.int b) = some (.int (a * b)) := if_pos (.inl ⟨h1, h2⟩)
theorem e_add {a b : Int} : dAdd (.int a) (.int b) = some (.int (a + b)) := rfl
theorem e_sub {a b : Int} : dSub (.int a) (.int b) = some (.int (a - b)) := rfl
theorem e_neg {a : Int} : dNeg (.int a) = some (.int (-a)) := rfl
theorem e_div {a b : Int} (h1 : 0 < b) (h2 : b < 1073741824) : dDiv (.int a) (.int b) = some (.int (a / b)) := if_pos ⟨h1, h2⟩
theorem e_mod {a b : Int} (h1 : 0 < b) : dMod (.int a) (.int b) = some (.int (a % b)) := if_pos h1
theorem e_lt {a b : Int} : dLt (.int a) (.int b) = some (.bl (decide (a < b))) := rfl
theorem e_le {a b : Int} : dLe (.int a) (.int b) = some (.bl (decide (a ≤ b))) := rfl
theorem e_gt {a b : Int} : dGt (.int a) (.int b) = some (.bl (decide (b < a))) := rfl
theorem e_ge {a b : Int} : dGe (.int a) (.int b) = some (.bl (decide (b ≤ a))) := rfl
theorem e_bind {α β : Type} {a : α} {ρ : En} {f : α → En → R β} : (R.ok a ρ).bind f = f a ρ := rfl
theorem e_bindB {α β : Type} {f : α → En → R β} : (R.bad : R α).bind f = .bad := rfl
theorem e_st {α : Type} {a : α} {ρ : En} {f : α → En → SR} : (R.ok a ρ).st f = f a ρ := rfl
theorem e_int {a b : Int} : dEq (.int a) (.int b) = some (.bl (decide (a = b))) := by
  show (if (true && true) = true then some (D.bl (PyData.eqv (.int a) (.int b))) else none) = _
  by_cases h : a = b <;> simp [PyData.eqv, h]
theorem e_nint {a b : Int} : dNe (.int a) (.int b) = some (.bl (!decide (a = b))) := by
  show (if (true && true) = true then some (D.bl (!PyData.eqv (.int a) (.int b))) else none) = _
  by_cases h : a = b <;> simp [PyData.eqv, h]
end Mi
set_option Elab.async false
set_option linter.all false
set_option maxRecDepth 100000
set_option maxHeartbeats 2000000
/-! Mi, part Ew: comprehensions over one name, reckoned as maps and filters. -/
namespace Mi
open PySem
theorem set_same {ρ : En} {v : Nat} {s t : Sl} (h : ρ[v]? = some s) : (ρ.set v t).set v s = ρ := by
  rw [List.set_set]
  have hv : v < ρ.length := (List.getElem?_eq_some_iff.mp h).1
  have := (List.getElem?_eq_some_iff.mp h).2
  rw [← this, List.set_getElem_self]
theorem canSet_set {ρ : En} {v : Nat} {d : D} (hv : v < ρ.length) : canSet (ρ.set v (.val d)) v = true := by
  unfold canSet
  rw [List.getElem?_set_self hv]
theorem compL_map {v : Nat} {te : EM} {ρ : En} {f : D → D} (hρ : ρ[v]? = some .un) : ∀ {ys acc : List D}, (∀ d ∈ ys, ∃ o, te (ρ.set v (.val d)) = .ok o (ρ.set v (.val d)) ∧ esc o.fz (ρ.set v (.val d)) = some (f d, ρ.set v (.val d))) → acc.length + ys.length ≤ BIG → compL [v] (gN v) mYes te (ys.map .one) acc ρ = .ok (acc ++ ys.map f) ρ
  | [], acc, _, _ => by
    unfold compL
    simp
  | y :: ys, acc, hf, hl => by
    have hv : v < ρ.length := (List.getElem?_eq_some_iff.mp hρ).1
    have hc : canSet ρ v = true := by
      unfold canSet
      rw [hρ]
    obtain ⟨o, h1, h2⟩ := hf y (List.mem_cons_self ..)
    have hl2 : acc.length < BIG := by
      rw [List.length_cons] at hl
      omega
    have ih := compL_map (v := v) (te := te) (f := f) hρ (ys := ys) (acc := acc ++ [f y]) (fun d hd => hf d (List.mem_cons_of_mem _ hd)) (by simp at hl ⊢; omega)
    rw [List.map_cons]
    unfold compL
    have g1 : gN v (IV.one y) ρ = some (ρ.set v (.val y)) := if_pos hc
    simp only [g1, mYes, h1, h2, if_pos hl2]
    have g2 : [v].all (canSet (ρ.set v (.val y))) = true := by simp [canSet_set hv]
    have g3 : wipeE (ρ.set v (.val y)) [v] = ρ := set_same hρ
    rw [if_pos g2, g3, ih]
    simp
theorem noOw_get {ρ : En} {v : Nat} (h : noOw ρ v = true) : ∃ s, ρ[v]? = some s := by
  unfold noOw at h
  cases q : ρ[v]? with
  | none => simp [q] at h
  | some s => exact ⟨s, rfl⟩
/-- [e for v in ...], e a plain function of v -/
theorem comp_map {v : Nat} {im : IM} {te : EM} {ρ : En} {f : D → D} {ys : List D} (hn : noOw ρ v = true) (hi : im ρ = .ok (ys.map .one) ρ) (hf : ∀ d ∈ ys, ∃ o, te (ρ.set v (.val d)) = .ok o (ρ.set v (.val d)) ∧ esc o.fz (ρ.set v (.val d)) = some (f d, ρ.set v (.val d))) (hl : ys.length ≤ BIG) :
    mComp [v] im (gN v) mYes te ρ = .ok (.n (.lst (ys.map f))) ρ := by
  obtain ⟨s, hs⟩ := noOw_get hn
  have hv : v < ρ.length := (List.getElem?_eq_some_iff.mp hs).1
  unfold mComp
  rw [hi]
  have h0 : (ρ.set v .un)[v]? = some .un := List.getElem?_set_self hv
  have h1 := compL_map (v := v) (te := te) (f := f) (ρ := ρ.set v .un) h0 (ys := ys) (acc := []) (fun d hd => by rw [List.set_set]; exact hf d hd) (by simpa using hl)
  have h2 : wipeE ρ [v] = ρ.set v .un := rfl
  have h3 : restE ρ (ρ.set v .un) [v] = ρ := by
    show (ρ.set v .un).set v (ρ.getD v .un) = ρ
    have : ρ.getD v .un = s := by
      rw [List.getD_eq_getElem?_getD, hs]
      rfl
    rw [this]
    exact set_same hs
  show (if [v].all (noOw ρ) then (match compL [v] (gN v) mYes te (ys.map .one) [] (wipeE ρ [v]) with | .ok acc ρ2 => R.ok (OV.n (.lst acc)) (restE ρ ρ2 [v]) | _ => .bad) else .bad) = _
  rw [if_pos (by simp [hn]), h2, h1]
  show R.ok (OV.n (.lst ([] ++ ys.map f))) (restE ρ (ρ.set v .un) [v]) = _
  rw [h3]
  rfl
end Mi
set_option Elab.async false
set_option linter.all false
set_option maxRecDepth 100000
set_option maxHeartbeats 2000000
/-! Mi, part Ex: equality of tuples and lists of ints; flags. -/
namespace Mi
open PySem
abbrev zs (l : List Int) : List D := l.map D.int
theorem cmps_zs (n : Nat) : ∀ l : List Int, D.cmps n (zs l) = true
  | [] => by cases n <;> simp [zs, D.cmps]
  | a :: l => by
    have := cmps_zs n l
    simp only [zs, List.map_cons, D.cmps, D.cmp, Bool.true_and]
    cases n <;> simpa [D.cmp] using this
theorem eqvAll_zs : ∀ a b : List Int, PyData.eqvAll (D.pys (zs a)) (D.pys (zs b)) = decide (a = b)
  | [], [] => by simp [zs, D.pys, PyData.eqvAll]
  | [], b :: bs => by simp [zs, D.pys, PyData.eqvAll]
  | a :: as, [] => by simp [zs, D.pys, PyData.eqvAll]
  | a :: as, b :: bs => by
    have := eqvAll_zs as bs
    simp only [zs] at this
    simp [zs, D.pys, D.py, PyData.eqvAll, PyData.eqv, this]
    by_cases h : a = b <;> simp [h]
theorem eq_lst (a b : List Int) : dEq (.lst (zs a)) (.lst (zs b)) = some (.bl (decide (a = b))) := by
  unfold dEq
  have h1 : (D.lst (zs a)).cmp 40 = true := cmps_zs 39 a
  have h2 : (D.lst (zs b)).cmp 40 = true := cmps_zs 39 b
  rw [h1, h2]
  simp [D.py, PyData.eqv, eqvAll_zs]
theorem eq_tup (a b : List Int) : dEq (.tup (zs a)) (.tup (zs b)) = some (.bl (decide (a = b))) := by
  unfold dEq
  have h1 : (D.tup (zs a)).cmp 40 = true := cmps_zs 39 a
  have h2 : (D.tup (zs b)).cmp 40 = true := cmps_zs 39 b
  rw [h1, h2]
  simp [D.py, PyData.eqv, eqvAll_zs]
theorem ne_tup (a b : List Int) : dNe (.tup (zs a)) (.tup (zs b)) = some (.bl (!decide (a = b))) := by
  unfold dNe
  have h1 : (D.tup (zs a)).cmp 40 = true := cmps_zs 39 a
  have h2 : (D.tup (zs b)).cmp 40 = true := cmps_zs 39 b
  rw [h1, h2]
  simp [D.py, PyData.eqv, eqvAll_zs]
theorem blsD_map : ∀ l : List Bool, blsD (l.map D.bl) = some l
  | [] => rfl
  | b :: l => by
    rw [List.map_cons]
    show (blsD (l.map D.bl)).map (b :: ·) = _
    rw [blsD_map l]
    rfl
theorem intsD_zs : ∀ l : List Int, intsD (zs l) = some l
  | [] => rfl
  | b :: l => by
    show (intsD (zs l)).map (b :: ·) = _
    rw [intsD_zs l]
    rfl
theorem all_lst (l : List Bool) : dAll (.lst (l.map D.bl)) = some (.bl (l.all id)) := by
  show (blsD (l.map D.bl)).map _ = _
  rw [blsD_map]
  rfl
end Mi
set_option Elab.async false
set_option linter.all false
set_option maxRecDepth 100000
set_option maxHeartbeats 2000000
/-! Mi, part Ey: comprehensions over one name with a test, reckoned as filters. -/
namespace Mi
open PySem
theorem compL_filter {v : Nat} {tt : TM} {te : EM} {ρ : En} {c : D → Bool} {f : D → D} (hρ : ρ[v]? = some .un) : ∀ {ys acc : List D}, (∀ d ∈ ys, tt (ρ.set v (.val d)) = .ok (c d) (ρ.set v (.val d))) → (∀ d ∈ ys, ∃ o, te (ρ.set v (.val d)) = .ok o (ρ.set v (.val d)) ∧ esc o.fz (ρ.set v (.val d)) = some (f d, ρ.set v (.val d))) → acc.length + ys.length ≤ BIG → compL [v] (gN v) tt te (ys.map .one) acc ρ = .ok (acc ++ (ys.filter c).map f) ρ
  | [], acc, _, _, _ => by
    unfold compL
    simp
  | y :: ys, acc, ht, hf, hl => by
    have hv : v < ρ.length := (List.getElem?_eq_some_iff.mp hρ).1
    have hc : canSet ρ v = true := by
      unfold canSet
      rw [hρ]
    have h0 := ht y (List.mem_cons_self ..)
    obtain ⟨o, h1, h2⟩ := hf y (List.mem_cons_self ..)
    have hl2 : acc.length < BIG := by
      rw [List.length_cons] at hl
      omega
    have g1 : gN v (IV.one y) ρ = some (ρ.set v (.val y)) := if_pos hc
    have g2 : [v].all (canSet (ρ.set v (.val y))) = true := by simp [canSet_set hv]
    have g3 : wipeE (ρ.set v (.val y)) [v] = ρ := set_same hρ
    rw [List.map_cons]
    unfold compL
    cases q : c y with
    | true =>
      rw [q] at h0
      have ih := compL_filter (v := v) (tt := tt) (te := te) (c := c) (f := f) hρ (ys := ys) (acc := acc ++ [f y]) (fun d hd => ht d (List.mem_cons_of_mem _ hd)) (fun d hd => hf d (List.mem_cons_of_mem _ hd)) (by simp at hl ⊢; omega)
      simp only [g1, h0, h1, h2, if_pos hl2]
      rw [if_pos g2, g3, ih, List.filter_cons_of_pos q]
      simp
    | false =>
      rw [q] at h0
      have ih := compL_filter (v := v) (tt := tt) (te := te) (c := c) (f := f) hρ (ys := ys) (acc := acc) (fun d hd => ht d (List.mem_cons_of_mem _ hd)) (fun d hd => hf d (List.mem_cons_of_mem _ hd)) (by simp at hl ⊢; omega)
      simp only [g1, h0]
      rw [if_pos g2, g3, ih, List.filter_cons_of_neg (by simp [q])]
/-- [e for v in ... if c], c and e plain functions of v -/
theorem comp_filter {v : Nat} {im : IM} {tt : TM} {te : EM} {ρ : En} {c : D → Bool} {f : D → D} {ys : List D} (hn : noOw ρ v = true) (hi : im ρ = .ok (ys.map .one) ρ) (ht : ∀ d ∈ ys, tt (ρ.set v (.val d)) = .ok (c d) (ρ.set v (.val d))) (hf : ∀ d ∈ ys, ∃ o, te (ρ.set v (.val d)) = .ok o (ρ.set v (.val d)) ∧ esc o.fz (ρ.set v (.val d)) = some (f d, ρ.set v (.val d))) (hl : ys.length ≤ BIG) :
    mComp [v] im (gN v) tt te ρ = .ok (.n (.lst ((ys.filter c).map f))) ρ := by
  obtain ⟨s, hs⟩ := noOw_get hn
  have hv : v < ρ.length := (List.getElem?_eq_some_iff.mp hs).1
  unfold mComp
  rw [hi]
  have h0 : (ρ.set v .un)[v]? = some .un := List.getElem?_set_self hv
  have h1 := compL_filter (v := v) (tt := tt) (te := te) (c := c) (f := f) (ρ := ρ.set v .un) h0 (ys := ys) (acc := []) (fun d hd => by rw [List.set_set]; exact ht d hd) (fun d hd => by rw [List.set_set]; exact hf d hd) (by simpa using hl)
  have h2 : wipeE ρ [v] = ρ.set v .un := rfl
  have h3 : restE ρ (ρ.set v .un) [v] = ρ := by
    show (ρ.set v .un).set v (ρ.getD v .un) = ρ
    have : ρ.getD v .un = s := by
      rw [List.getD_eq_getElem?_getD, hs]
      rfl
    rw [this]
    exact set_same hs
  show (if [v].all (noOw ρ) then (match compL [v] (gN v) tt te (ys.map .one) [] (wipeE ρ [v]) with | .ok acc ρ2 => R.ok (OV.n (.lst acc)) (restE ρ ρ2 [v]) | _ => .bad) else .bad) = _
  rw [if_pos (by simp [hn]), h2, h1]
  show R.ok (OV.n (.lst ([] ++ (ys.filter c).map f))) (restE ρ (ρ.set v .un) [v]) = _
  rw [h3]
  rfl
end Mi
set_option Elab.async false
set_option linter.all false
set_option maxRecDepth 100000
set_option maxHeartbeats 4000000
namespace K01
open PySem PySem.Spec PyProof.Rows L2 Mi
def exs : List (Str × Str) := [("BadStage", "stage"), ("BadRow", "row"), ("BadBell", "bell"), ("Unlike", "word")]
def sub (c d : Str) : Bool := decide (c = d) || decide (d = "TouchError")
def tst_bool : Tst := ⟨false, true, false, false, false, false, false, []⟩
def tst_int : Tst := ⟨false, true, true, false, false, false, false, []⟩
def tst_list : Tst := ⟨false, false, false, false, false, true, false, []⟩
def tst_tuple : Tst := ⟨false, false, false, false, true, false, false, []⟩
def tst_tuple_list : Tst := ⟨false, false, false, false, true, true, false, []⟩
noncomputable def b__law_draw_1 : SM := (mSet 1 (mComp [2] (mSeqI (mVar 0)) (gN 2) (mYes) (mVar 2)))
noncomputable def b__law_draw_2 : SM := (mRet (mLst (mCons (mVar 1) (mCons (mC (.int 0)) (mCons (mC (.int 0)) (mCons (mC (.int 0)) (mCons (mC (.int 0)) (mCons (mB dAdd (mB dMod (mCB (g1 dInt) (mCons (mCB (g1 dSum) (mCons (mVar 1) mNil)) mNil)) (mC (.int 1000003))) (mB dMul (mC (.int 7)) (mCB (g1 dLen) (mCons (mVar 1) mNil)))) mNil))))))))
noncomputable def b__law_draw : SM := (mSeq (b__law_draw_1) (b__law_draw_2))
noncomputable def m__law_draw : List Sl → DR := mDef 3 [] b__law_draw
noncomputable def b__law_moved : SM := (mRet (mCB (g1 dTupOf) (mCons (mComp [2] (mSeqI (mVar 1)) (gN 2) (mYes) (mB dIx (mVar 0) (mB dSub (mVar 2) (mC (.int 1))))) mNil)))
noncomputable def m__law_moved : List Sl → DR := mDef 3 [] b__law_moved
noncomputable def b__law_mix_1 : SM := (mSet 2 (mB dMod (mCB (g1 dInt) (mCons (mB dAdd (mB dAdd (mB dMul (mVar 0) (mC (.int 48271))) (mB dMul (mVar 1) (mC (.int 69621)))) (mC (.int 12345))) mNil)) (mC (.int 2147483647))))
noncomputable def b__law_mix_2 : SM := (mSet 3 (mB dMod (mCB (g1 dInt) (mCons (mB dAdd (mB dAdd (mB dMul (mVar 2) (mVar 2)) (mB dMul (mVar 1) (mC (.int 7919)))) (mVar 0)) mNil)) (mC (.int 998244353))))
noncomputable def b__law_mix_3 : SM := (mSet 3 (mB dMod (mCB (g1 dInt) (mCons (mB dAdd (mB dMul (mVar 3) (mVar 3)) (mVar 2)) mNil)) (mC (.int 1000000007))))
noncomputable def b__law_mix_4 : SM := (mRet (mB dDiv (mVar 3) (mC (.int 8))))
noncomputable def b__law_mix : SM := (mSeq (b__law_mix_1) (mSeq (b__law_mix_2) (mSeq (b__law_mix_3) (b__law_mix_4))))
noncomputable def m__law_mix : List Sl → DR := mDef 4 [] b__law_mix
noncomputable def b__law_pick_1 : SM := (mIfS (mTst (mB dLt (mVar 1) (mC (.int 2)))) (mRet (mC (.int 0))) mNext)
noncomputable def b__law_pick_2 : SM := (mIfS ((mAnd (mTst (mB dEq (mB dIx (mVar 0) (mC (.int 2))) (mC (.int 0)))) (mAnd (mTst (mB dLt (mB dIx (mVar 0) (mC (.int 1))) (mCB (g1 dLen) (mCons (mB dIx (mVar 0) (mC (.int 0))) mNil)))) (mTst (mB dEq (mB dIx (mVar 0) (mC (.int 3))) (mC (.int 0))))))) (mSeq (mSet 2 (mB dIx (mB dIx (mVar 0) (mC (.int 0))) (mB dIx (mVar 0) (mC (.int 1))))) (mIfS ((mOr (mTst (mB dGe (mVar 2) (mB dPow (mC (.int 10)) (mC (.int 18))))) (mTst (mB dLe (mVar 2) (mU dNeg (mB dPow (mC (.int 10)) (mC (.int 18)))))))) (mSeq (mSetIx 0 (mC (.int 2)) (mB dMod (mCB (g1 dInt) (mCons (mCB (g1 dAbs) (mCons (mVar 2) mNil)) mNil)) (mB dPow (mB dPow (mC (.int 10)) (mC (.int 60))) (mC (.int 64))))) (mSetIx 0 (mC (.int 1)) (mB dAdd (mB dIx (mVar 0) (mC (.int 1))) (mC (.int 1))))) mNext)) mNext)
noncomputable def b__law_pick_3 : SM := (mIfS (mTst (mB dGt (mB dIx (mVar 0) (mC (.int 2))) (mC (.int 0)))) (mSeq (mSet 3 (mB dMod (mCB (g1 dInt) (mCons (mB dIx (mVar 0) (mC (.int 2))) mNil)) (mVar 1))) (mSeq (mSetIx 0 (mC (.int 2)) (mB dDiv (mB dIx (mVar 0) (mC (.int 2))) (mVar 1))) (mRet (mVar 3)))) mNext)
noncomputable def b__law_pick_4 : SM := (mIfS (mTst (mB dLt (mB dIx (mVar 0) (mC (.int 1))) (mCB (g1 dLen) (mCons (mB dIx (mVar 0) (mC (.int 0))) mNil)))) (mSeq (mSet 2 (mB dIx (mB dIx (mVar 0) (mC (.int 0))) (mB dIx (mVar 0) (mC (.int 1))))) (mSeq (mSetIx 0 (mC (.int 3)) (mB dAdd (mB dIx (mVar 0) (mC (.int 3))) (mC (.int 1)))) (mSeq (mSet 4 (mB dMod (mCB (g1 dInt) (mCons (mCall [] m__law_mix [] (mArg (mB dAdd (mVar 2) (mB dMul (mC (.int 31)) (mB dIx (mVar 0) (mC (.int 1))))) (mArg (mB dIx (mVar 0) (mC (.int 3))) mNil))) mNil)) (mVar 1))) (mSeq (mIfS (mTst (mB dEq (mB dIx (mVar 0) (mC (.int 3))) (mC (.int 6)))) (mSeq (mSetIx 0 (mC (.int 3)) (mC (.int 0))) (mSetIx 0 (mC (.int 1)) (mB dAdd (mB dIx (mVar 0) (mC (.int 1))) (mC (.int 1))))) mNext) (mRet (mVar 4)))))) mNext)
noncomputable def b__law_pick_5 : SM := (mSetIx 0 (mC (.int 4)) (mB dAdd (mB dIx (mVar 0) (mC (.int 4))) (mC (.int 1))))
noncomputable def b__law_pick_6 : SM := (mRet (mB dMod (mCB (g1 dInt) (mCons (mCall [] m__law_mix [] (mArg (mB dIx (mVar 0) (mC (.int 5))) (mArg (mB dAdd (mB dIx (mVar 0) (mC (.int 4))) (mC (.int 100))) mNil))) mNil)) (mVar 1)))
noncomputable def b__law_pick : SM := (mSeq (b__law_pick_1) (mSeq (b__law_pick_2) (mSeq (b__law_pick_3) (mSeq (b__law_pick_4) (mSeq (b__law_pick_5) (b__law_pick_6))))))
noncomputable def m__law_pick : List Sl → DR := mDef 5 [0] b__law_pick
noncomputable def b__law_hand_1 : SM := (mIfS (mTst (mB dEq (mCall [0] m__law_pick [] (mLend 0 (mArg (mC (.int 2)) mNil))) (mC (.int 1)))) (mRet (mCBn (g1n dListOf) (mCons (mVar 1) mNil))) mNext)
noncomputable def b__law_hand_2 : SM := (mRet (mVar 1))
noncomputable def b__law_hand : SM := (mSeq (b__law_hand_1) (b__law_hand_2))
noncomputable def m__law_hand : List Sl → DR := mDef 2 [0] b__law_hand
noncomputable def b__law_listed_1 (self : List Sl → DR) : SM := (mIfS ((mOr (mTst (mIsi tst_tuple (mVar 0))) (mTst (mIsi tst_list (mVar 0))))) (mRet (mComp [1] (mSeqI (mVar 0)) (gN 1) (mYes) (mCall [] self [] (mArg (mVar 1) mNil)))) mNext)
noncomputable def b__law_listed_2 (self : List Sl → DR) : SM := (mRet (mVar 0))
noncomputable def b__law_listed (self : List Sl → DR) : SM := (mSeq (b__law_listed_1 self) (b__law_listed_2 self))
noncomputable def m__law_listed : Nat → List Sl → DR
  | 0 => fun _ => .bad
  | n + 1 => mDef 2 [] (b__law_listed (m__law_listed n))
noncomputable def b__law_rounds : SM := (mRet (mRg2 (mC (.int 1)) (mB dAdd (mVar 0) (mC (.int 1))) rgTup))
noncomputable def m__law_rounds : List Sl → DR := mDef 1 [] b__law_rounds
noncomputable def b__law_is_int : SM := (mRet ((mAndV (mIsi tst_int (mVar 0)) (mNotV (mIsi tst_bool (mVar 0))))))
noncomputable def m__law_is_int : List Sl → DR := mDef 1 [] b__law_is_int
noncomputable def b__law_same_1 (self : List Sl → DR) : SM := (mIfS (mTst (mIsi tst_tuple (mVar 1))) (mSeq (mIfS ((mOr (mNot (mTst (mIsi tst_tuple (mVar 0)))) (mTst (mB dNe (mCB (g1 dLen) (mCons (mVar 0) mNil)) (mCB (g1 dLen) (mCons (mVar 1) mNil)))))) (mRet (mC (.bl false))) mNext) (mRet (mCB (g1 dAll) (mCons (mComp [2, 3] (mZip (mVar 0) (mVar 1)) (gT [2, 3]) (mYes) (mCall [] self [] (mArg (mVar 2) (mArg (mVar 3) mNil)))) mNil)))) mNext)
noncomputable def b__law_same_2 (self : List Sl → DR) : SM := (mIfS ((mOr (mTst (mB (dIsA false) (mVar 1) (mC (.bl true)))) (mTst (mB (dIsA false) (mVar 1) (mC (.bl false)))))) (mRet ((mAndV (mIsi tst_bool (mVar 0)) (mB dEq (mVar 0) (mVar 1))))) mNext)
noncomputable def b__law_same_3 (self : List Sl → DR) : SM := (mRet ((mAndV (mCall [] m__law_is_int [] (mArg (mVar 0) mNil)) (mB dEq (mVar 0) (mVar 1)))))
noncomputable def b__law_same (self : List Sl → DR) : SM := (mSeq (b__law_same_1 self) (mSeq (b__law_same_2 self) (b__law_same_3 self)))
noncomputable def m__law_same : Nat → List Sl → DR
  | 0 => fun _ => .bad
  | n + 1 => mDef 4 [] (b__law_same (m__law_same n))
noncomputable def b_compose : SM := (mRet (mCB (g1 dTupOf) (mCons (mComp [2] (mSeqI (mVar 1)) (gN 2) (mYes) (mB dIx (mVar 0) (mB dSub (mVar 2) (mC (.int 1))))) mNil)))
noncomputable def m_compose : List Sl → DR := mDef 3 [] b_compose
noncomputable def b_is_integer : SM := (mRet ((mAndV (mIsi tst_int (mVar 0)) (mNotV (mIsi tst_bool (mVar 0))))))
noncomputable def m_is_integer : List Sl → DR := mDef 1 [] b_is_integer
noncomputable def b_is_within : SM := (mRet ((mAndV (mCall [] m_is_integer [] (mArg (mVar 0) mNil)) (mChain dLe dLe (mVar 1) (mVar 0) (mVar 2)))))
noncomputable def m_is_within : List Sl → DR := mDef 3 [] b_is_within
noncomputable def b_is_stage : SM := (mRet (mCall [] m_is_within [] (mArg (mVar 0) (mArg (mC (.int 3)) (mArg (mC (.int 8)) mNil)))))
noncomputable def m_is_stage : List Sl → DR := mDef 1 [] b_is_stage
noncomputable def b_is_tuple : SM := (mRet (mIsi tst_tuple_list (mVar 0)))
noncomputable def m_is_tuple : List Sl → DR := mDef 1 [] b_is_tuple
noncomputable def b_is_row_1 : SM := (mIfS ((mOr (mNot (mTst (mCall [] m_is_stage [] (mArg (mVar 1) mNil)))) (mOr (mNot (mTst (mCall [] m_is_tuple [] (mArg (mVar 0) mNil)))) (mTst (mB dNe (mCB (g1 dLen) (mCons (mVar 0) mNil)) (mVar 1)))))) (mRet (mC (.bl false))) mNext)
noncomputable def b_is_row_2 : SM := (mIfS (mNot (mTst (mCB (g1 dAll) (mCons (mComp [2] (mSeqI (mVar 0)) (gN 2) (mYes) (mCall [] m_is_integer [] (mArg (mVar 2) mNil))) mNil)))) (mRet (mC (.bl false))) mNext)
noncomputable def b_is_row_3 : SM := (mRet (mB dEq (mCBn (g1n dSorted) (mCons (mVar 0) mNil)) (mRg2 (mC (.int 1)) (mB dAdd (mVar 1) (mC (.int 1))) rgLst)))
noncomputable def b_is_row : SM := (mSeq (b_is_row_1) (mSeq (b_is_row_2) (b_is_row_3)))
noncomputable def m_is_row : List Sl → DR := mDef 3 [] b_is_row
noncomputable def b_judge_row : SM := (mIfS ((mOr (mNot (mTst (mCall [] m_is_tuple [] (mArg (mVar 0) mNil)))) (mNot (mTst (mCall [] m_is_row [] (mArg (mVar 0) (mArg (mCB (g1 dLen) (mCons (mVar 0) mNil)) mNil))))))) (mRaise "BadRow" "row" (mCons (mVar 0) mNil)) mNext)
noncomputable def m_judge_row : List Sl → DR := mDef 1 [] b_judge_row
noncomputable def b_judge_rows_1 : SM := (mDrop (mCall [] m_judge_row [] (mArg (mVar 0) mNil)))
noncomputable def b_judge_rows_2 : SM := (mDrop (mCall [] m_judge_row [] (mArg (mVar 1) mNil)))
noncomputable def b_judge_rows_3 : SM := (mIfS (mTst (mB dNe (mCB (g1 dLen) (mCons (mVar 0) mNil)) (mCB (g1 dLen) (mCons (mVar 1) mNil)))) (mRaise "Unlike" "word" (mCons (mC (.str "stage")) mNil)) mNext)
noncomputable def b_judge_rows : SM := (mSeq (b_judge_rows_1) (mSeq (b_judge_rows_2) (b_judge_rows_3)))
noncomputable def m_judge_rows : List Sl → DR := mDef 2 [] b_judge_rows
noncomputable def b_moved_1 : SM := (mDrop (mCall [] m_judge_rows [] (mArg (mVar 0) (mArg (mVar 1) mNil))))
noncomputable def b_moved_2 : SM := (mRet (mCall [] m_compose [] (mArg (mVar 0) (mArg (mVar 1) mNil))))
noncomputable def b_moved : SM := (mSeq (b_moved_1) (b_moved_2))
noncomputable def m_moved : List Sl → DR := mDef 2 [] b_moved
noncomputable def b_renamed_1 : SM := (mDrop (mCall [] m_judge_rows [] (mArg (mVar 0) (mArg (mVar 1) mNil))))
noncomputable def b_renamed_2 : SM := (mRet (mCall [] m_compose [] (mArg (mVar 1) (mArg (mVar 0) mNil))))
noncomputable def b_renamed : SM := (mSeq (b_renamed_1) (b_renamed_2))
noncomputable def m_renamed : List Sl → DR := mDef 2 [] b_renamed
noncomputable def b_rounds_of : SM := (mRet (mRg2 (mC (.int 1)) (mB dAdd (mVar 0) (mC (.int 1))) rgTup))
noncomputable def m_rounds_of : List Sl → DR := mDef 1 [] b_rounds_of
noncomputable def b_rounds_1 : SM := (mIfS (mNot (mTst (mCall [] m_is_stage [] (mArg (mVar 0) mNil)))) (mRaise "BadStage" "stage" (mCons (mVar 0) mNil)) mNext)
noncomputable def b_rounds_2 : SM := (mRet (mCall [] m_rounds_of [] (mArg (mVar 0) mNil)))
noncomputable def b_rounds : SM := (mSeq (b_rounds_1) (b_rounds_2))
noncomputable def m_rounds : List Sl → DR := mDef 1 [] b_rounds
noncomputable def b_step_between : SM := (mRet (mCB (g1 dTupOf) (mCons (mComp [2] (mSeqI (mVar 1)) (gN 2) (mYes) (mB dAdd (mIndex (mVar 0) (mVar 2)) (mC (.int 1)))) mNil)))
noncomputable def m_step_between : List Sl → DR := mDef 3 [] b_step_between
noncomputable def b_step_1 : SM := (mDrop (mCall [] m_judge_rows [] (mArg (mVar 0) (mArg (mVar 1) mNil))))
noncomputable def b_step_2 : SM := (mRet (mCall [] m_step_between [] (mArg (mVar 0) (mArg (mVar 1) mNil))))
noncomputable def b_step : SM := (mSeq (b_step_1) (b_step_2))
noncomputable def m_step : List Sl → DR := mDef 2 [] b_step
noncomputable def b_inverse : SM := (mRet (mCB (g1 dTupOf) (mCons (mComp [1] (mRng2 (mC (.int 1)) (mB dAdd (mCB (g1 dLen) (mCons (mVar 0) mNil)) (mC (.int 1)))) (gN 1) (mYes) (mB dAdd (mIndex (mVar 0) (mVar 1)) (mC (.int 1)))) mNil)))
noncomputable def m_inverse : List Sl → DR := mDef 2 [] b_inverse
noncomputable def b_undone_1 : SM := (mDrop (mCall [] m_judge_row [] (mArg (mVar 0) mNil)))
noncomputable def b_undone_2 : SM := (mRet (mCall [] m_inverse [] (mArg (mVar 0) mNil)))
noncomputable def b_undone : SM := (mSeq (b_undone_1) (b_undone_2))
noncomputable def m_undone : List Sl → DR := mDef 1 [] b_undone
noncomputable def b__law_moves_fit_1 : SM := (mSet 4 (mCall [] m_rounds [] (mArg (mCB (g1 dLen) (mCons (mVar 1) mNil)) mNil)))
noncomputable def b__law_moves_fit_2 : SM := (mSet 5 (mCall [0] m__law_hand [] (mLend 0 (mArg (mVar 1) mNil))))
noncomputable def b__law_moves_fit_3 : SM := (mSet 6 (mCall [0] m__law_hand [] (mLend 0 (mArg (mVar 2) mNil))))
noncomputable def b__law_moves_fit_4 : SM := (mIfS ((mOr (mNot (mTst (mCall [] (m__law_same 4) [] (mArg (mVar 4) (mArg (mCall [] m__law_rounds [] (mArg (mCB (g1 dLen) (mCons (mVar 1) mNil)) mNil)) mNil))))) (mTst (mB dNe (mCall [] m_moved [] (mArg (mVar 4) (mArg (mVar 6) mNil))) (mVar 2))))) (mRet (mC (.bl false))) mNext)
noncomputable def b__law_moves_fit_5 : SM := (mIfS (mNot (mTst (mCall [] (m__law_same 4) [] (mArg (mCall [] m_moved [] (mArg (mVar 5) (mArg (mVar 6) mNil))) (mArg (mCB (g1 dTupOf) (mCons (mComp [9] (mSeqI (mVar 2)) (gN 9) (mYes) (mB dIx (mVar 1) (mB dSub (mVar 9) (mC (.int 1))))) mNil)) mNil))))) (mRet (mC (.bl false))) mNext)
noncomputable def b__law_moves_fit_6 : SM := (mIfS (mNot (mTst (mCall [] (m__law_same 4) [] (mArg (mCall [] m_renamed [] (mArg (mVar 5) (mArg (mVar 6) mNil))) (mArg (mCB (g1 dTupOf) (mCons (mComp [10] (mSeqI (mVar 1)) (gN 10) (mYes) (mB dIx (mVar 2) (mB dSub (mVar 10) (mC (.int 1))))) mNil)) mNil))))) (mRet (mC (.bl false))) mNext)
noncomputable def b__law_moves_fit_7 : SM := (mIfS ((mOr (mTst (mB dNe (mCall [] m_moved [] (mArg (mCall [] m_moved [] (mArg (mVar 5) (mArg (mVar 6) mNil))) (mArg (mVar 3) mNil))) (mCall [] m_moved [] (mArg (mVar 1) (mArg (mCall [] m_moved [] (mArg (mVar 2) (mArg (mVar 3) mNil))) mNil))))) (mTst (mB dNe (mCall [] m_renamed [] (mArg (mVar 5) (mArg (mVar 6) mNil))) (mCall [] m_moved [] (mArg (mVar 6) (mArg (mVar 5) mNil))))))) (mRet (mC (.bl false))) mNext)
noncomputable def b__law_moves_fit_8 : SM := (mIfS (mTst (mB dNe (mCall [] m_renamed [] (mArg (mCall [] m_moved [] (mArg (mVar 1) (mArg (mVar 3) mNil))) (mArg (mVar 6) mNil))) (mCall [] m_moved [] (mArg (mCall [] m_renamed [] (mArg (mVar 5) (mArg (mVar 2) mNil))) (mArg (mVar 3) mNil))))) (mRet (mC (.bl false))) mNext)
noncomputable def b__law_moves_fit_9 : SM := (mSet 7 (mCall [] m_undone [] (mArg (mVar 6) mNil)))
noncomputable def b__law_moves_fit_10 : SM := (mIfS (mNot (mTst (mCall [] (m__law_same 4) [] (mArg (mVar 7) (mArg (mCB (g1 dTupOf) (mCons (mComp [9] (mSeqI (mVar 4)) (gN 9) (mYes) (mB dAdd (mIndex (mVar 2) (mVar 9)) (mC (.int 1)))) mNil)) mNil))))) (mRet (mC (.bl false))) mNext)
noncomputable def b__law_moves_fit_11 : SM := (mIfS ((mOr (mTst (mB dNe (mCall [] m_moved [] (mArg (mVar 6) (mArg (mVar 7) mNil))) (mVar 4))) (mOr (mTst (mB dNe (mCall [] m_moved [] (mArg (mVar 7) (mArg (mVar 2) mNil))) (mVar 4))) (mTst (mB dNe (mCall [] m_undone [] (mArg (mVar 7) mNil)) (mVar 2)))))) (mRet (mC (.bl false))) mNext)
noncomputable def b__law_moves_fit_12 : SM := (mSet 8 (mCall [] m_step [] (mArg (mVar 5) (mArg (mVar 6) mNil))))
noncomputable def b__law_moves_fit_13 : SM := (mIfS ((mOr (mNot (mTst (mCall [] (m__law_same 4) [] (mArg (mVar 8) (mArg (mCB (g1 dTupOf) (mCons (mComp [10] (mSeqI (mVar 2)) (gN 10) (mYes) (mB dAdd (mIndex (mVar 1) (mVar 10)) (mC (.int 1)))) mNil)) mNil))))) (mTst (mB dNe (mCall [] m_moved [] (mArg (mVar 1) (mArg (mVar 8) mNil))) (mVar 2))))) (mRet (mC (.bl false))) mNext)
noncomputable def b__law_moves_fit_14 : SM := (mRet ((mAndV (mB dEq (mCall [] (m__law_listed 3) [] (mArg (mVar 5) mNil)) (mCBn (g1n dListOf) (mCons (mVar 1) mNil))) (mB dEq (mCall [] (m__law_listed 3) [] (mArg (mVar 6) mNil)) (mCBn (g1n dListOf) (mCons (mVar 2) mNil))))))
noncomputable def b__law_moves_fit : SM := (mSeq (b__law_moves_fit_1) (mSeq (b__law_moves_fit_2) (mSeq (b__law_moves_fit_3) (mSeq (b__law_moves_fit_4) (mSeq (b__law_moves_fit_5) (mSeq (b__law_moves_fit_6) (mSeq (b__law_moves_fit_7) (mSeq (b__law_moves_fit_8) (mSeq (b__law_moves_fit_9) (mSeq (b__law_moves_fit_10) (mSeq (b__law_moves_fit_11) (mSeq (b__law_moves_fit_12) (mSeq (b__law_moves_fit_13) (b__law_moves_fit_14))))))))))))))
noncomputable def m__law_moves_fit : List Sl → DR := mDef 11 [0] b__law_moves_fit
noncomputable def b__law_bad_row_1 : SM := (mSet 2 (mCB (g1 dLen) (mCons (mVar 1) mNil)))
noncomputable def b__law_bad_row_2 : SM := (mSet 3 (mCall [0] m__law_pick [] (mLend 0 (mArg (mVar 2) mNil))))
noncomputable def b__law_bad_row_3 : SM := (mSet 4 (mCall [0] m__law_pick [] (mLend 0 (mArg (mC (.int 11)) mNil))))
noncomputable def b__law_bad_row_4 : SM := (mSet 5 (mLst (mCons (mB dIx (mVar 1) (mB dSub (mVar 3) (mC (.int 1)))) (mCons (mC (.int 0)) (mCons (mB dAdd (mVar 2) (mC (.int 1))) (mCons (mU dNeg (mB dIx (mVar 1) (mVar 3))) (mCons (mCB (g1 dStr) (mCons (mB dIx (mVar 1) (mVar 3)) mNil)) (mCons (mC .non) (mCons (mTup (mCons (mB dIx (mVar 1) (mVar 3)) mNil)) mNil)))))))))
noncomputable def b__law_bad_row_5 : SM := (mIfS (mTst (mB dLt (mVar 4) (mC (.int 7)))) (mSet 6 (mB dAdd (mB dAdd (mSl (mVar 1) mNoP (mPart (mVar 3))) (mTup (mCons (mB dIx (mVar 5) (mVar 4)) mNil))) (mSl (mVar 1) (mPart (mB dAdd (mVar 3) (mC (.int 1)))) mNoP))) (mIfS (mTst (mB dEq (mVar 4) (mC (.int 7)))) (mSet 6 (mCB (g1 dTupOf) (mCons (mComp [8] (mSeqI (mVar 1)) (gN 8) ((mTst (mB dGt (mVar 8) (mC (.int 1))))) (mVar 8)) mNil))) (mIfS (mTst (mB dEq (mVar 4) (mC (.int 8)))) (mSet 6 (mB dAdd (mVar 1) (mTup (mCons (mB dIx (mVar 1) (mVar 3)) mNil)))) (mIfS (mTst (mB dEq (mVar 4) (mC (.int 9)))) (mSet 6 (mCB (g1 dTupOf) (mCons (mComp [8] (mSeqI (mVar 1)) (gN 8) (mYes) (mB dIx (mLst (mCons (mC (.bl true)) (mCons (mVar 8) mNil))) (mCB (g1 dInt) (mCons (mB dGt (mVar 8) (mC (.int 1))) mNil)))) mNil))) (mSeq (mSet 7 (mLst (mCons (mTup (mCons (mC (.int 1)) (mCons (mC (.int 2)) mNil))) (mCons (mTup (mCons (mC (.int 9)) (mCons (mC (.int 8)) (mCons (mC (.int 7)) (mCons (mC (.int 6)) (mCons (mC (.int 5)) (mCons (mC (.int 4)) (mCons (mC (.int 3)) (mCons (mC (.int 2)) (mCons (mC (.int 1)) mNil)))))))))) (mCons (mC (.str "1234")) (mCons (mC .non) (mCons (mC (.int 5)) (mCons (mTup mNil) (mCons (mC (.bl true)) (mCons (mC (.str "")) (mCons (mU dNeg (mC (.int 3))) mNil))))))))))) (mRet (mB dIx (mVar 7) (mCall [0] m__law_pick [] (mLend 0 (mArg (mC (.int 9)) mNil))))))))))
noncomputable def b__law_bad_row_6 : SM := (mIfS (mTst (mB dEq (mCall [0] m__law_pick [] (mLend 0 (mArg (mC (.int 2)) mNil))) (mC (.int 1)))) (mRet (mCBn (g1n dListOf) (mCons (mVar 6) mNil))) mNext)
noncomputable def b__law_bad_row_7 : SM := (mRet (mVar 6))
noncomputable def b__law_bad_row : SM := (mSeq (b__law_bad_row_1) (mSeq (b__law_bad_row_2) (mSeq (b__law_bad_row_3) (mSeq (b__law_bad_row_4) (mSeq (b__law_bad_row_5) (mSeq (b__law_bad_row_6) (b__law_bad_row_7)))))))
noncomputable def m__law_bad_row : List Sl → DR := mDef 9 [0] b__law_bad_row
noncomputable def b_cycle_from_1 : SM := (mSet 2 (mLst (mCons (mVar 1) mNil)))
noncomputable def b_cycle_from_2 : SM := (mSet 3 (mB dIx (mVar 0) (mB dSub (mVar 1) (mC (.int 1)))))
noncomputable def b_cycle_from_3 : SM := (mWhile (mTst (mB dNe (mVar 3) (mVar 1))) (mSeq (mDrop (mAppend 2 (mVar 3))) (mSet 3 (mB dIx (mVar 0) (mB dSub (mVar 3) (mC (.int 1)))))))
noncomputable def b_cycle_from_4 : SM := (mRet (mCB (g1 dTupOf) (mCons (mVar 2) mNil)))
noncomputable def b_cycle_from : SM := (mSeq (b_cycle_from_1) (mSeq (b_cycle_from_2) (mSeq (b_cycle_from_3) (b_cycle_from_4))))
noncomputable def m_cycle_from : List Sl → DR := mDef 4 [] b_cycle_from
noncomputable def b_cycles_1 : SM := (mDrop (mCall [] m_judge_row [] (mArg (mVar 0) mNil)))
noncomputable def b_cycles_2 : SM := (mSet 1 (mCall [] m_inverse [] (mArg (mVar 0) mNil)))
noncomputable def b_cycles_3 : SM := (mSet 2 (mDkNew))
noncomputable def b_cycles_4 : SM := (mSet 3 (mLst mNil))
noncomputable def b_cycles_5 : SM := (mFor (mRng2 (mC (.int 1)) (mB dAdd (mCB (g1 dLen) (mCons (mVar 0) mNil)) (mC (.int 1)))) (gN 4) (mIfS (mTst (mB (dOr dNotIn (dDkIn true)) (mVar 4) (mVar 2))) (mSeq (mSet 5 (mCall [] m_cycle_from [] (mArg (mVar 1) (mArg (mVar 4) mNil)))) (mSeq (mDrop (mAppend 3 (mVar 5))) (mFor (mSeqI (mVar 5)) (gN 6) (mPut 2 (mVar 6) (mC (.bl true)))))) mNext))
noncomputable def b_cycles_6 : SM := (mRet (mCB (g1 dTupOf) (mCons (mVar 3) mNil)))
noncomputable def b_cycles : SM := (mSeq (b_cycles_1) (mSeq (b_cycles_2) (mSeq (b_cycles_3) (mSeq (b_cycles_4) (mSeq (b_cycles_5) (b_cycles_6))))))
noncomputable def m_cycles : List Sl → DR := mDef 7 [] b_cycles
noncomputable def b_is_even_1 : SM := (mDrop (mCall [] m_judge_row [] (mArg (mVar 0) mNil)))
noncomputable def b_is_even_2 : SM := (mSet 1 (mComp2 [2, 3, 4] (mEnum (mVar 0)) (gT [2, 3]) (mYes) (mSeqI (mSl (mVar 0) (mPart (mB dAdd (mVar 2) (mC (.int 1)))) mNoP)) [4] (gN 4) ((mTst (mB dLt (mVar 4) (mVar 3)))) (mC (.int 1))))
noncomputable def b_is_even_3 : SM := (mRet (mB dEq (mB dMod (mCB (g1 dLen) (mCons (mVar 1) mNil)) (mC (.int 2))) (mC (.int 0))))
noncomputable def b_is_even : SM := (mSeq (b_is_even_1) (mSeq (b_is_even_2) (b_is_even_3)))
noncomputable def m_is_even : List Sl → DR := mDef 5 [] b_is_even
noncomputable def b_order_1 : SM := (mDrop (mCall [] m_judge_row [] (mArg (mVar 0) mNil)))
noncomputable def b_order_2 : SM := (mSet 1 (mCall [] m_rounds_of [] (mArg (mCB (g1 dLen) (mCons (mVar 0) mNil)) mNil)))
noncomputable def b_order_3 : SM := (mSet 2 (mC (.int 1)))
noncomputable def b_order_4 : SM := (mSet 3 (mCB (g1 dTupOf) (mCons (mVar 0) mNil)))
noncomputable def b_order_5 : SM := (mWhile (mTst (mB dNe (mVar 3) (mVar 1))) (mSeq (mSet 3 (mCall [] m_compose [] (mArg (mVar 3) (mArg (mVar 0) mNil)))) (mAug 2 dAddI (mC (.int 1)))))
noncomputable def b_order_6 : SM := (mRet (mVar 2))
noncomputable def b_order : SM := (mSeq (b_order_1) (mSeq (b_order_2) (mSeq (b_order_3) (mSeq (b_order_4) (mSeq (b_order_5) (b_order_6))))))
noncomputable def m_order : List Sl → DR := mDef 4 [] b_order
noncomputable def b_place_1 : SM := (mDrop (mCall [] m_judge_row [] (mArg (mVar 0) mNil)))
noncomputable def b_place_2 : SM := (mIfS (mNot (mTst (mCall [] m_is_within [] (mArg (mVar 1) (mArg (mC (.int 1)) (mArg (mCB (g1 dLen) (mCons (mVar 0) mNil)) mNil)))))) (mRaise "BadBell" "bell" (mCons (mVar 1) mNil)) mNext)
noncomputable def b_place_3 : SM := (mRet (mB dAdd (mIndex (mVar 0) (mVar 1)) (mC (.int 1))))
noncomputable def b_place : SM := (mSeq (b_place_1) (mSeq (b_place_2) (b_place_3)))
noncomputable def m_place : List Sl → DR := mDef 2 [] b_place
noncomputable def b__law_call_1 : SM := (mIfS (mTst (mB dEq (mVar 0) (mC (.int 0)))) (mRet (mCall [] m_moved [] (mArg (mVar 1) (mArg (mVar 2) mNil)))) mNext)
noncomputable def b__law_call_2 : SM := (mIfS (mTst (mB dEq (mVar 0) (mC (.int 1)))) (mRet (mCall [] m_step [] (mArg (mVar 1) (mArg (mVar 2) mNil)))) mNext)
noncomputable def b__law_call_3 : SM := (mIfS (mTst (mB dEq (mVar 0) (mC (.int 2)))) (mRet (mCall [] m_renamed [] (mArg (mVar 1) (mArg (mVar 2) mNil)))) mNext)
noncomputable def b__law_call_4 : SM := (mIfS (mTst (mB dEq (mVar 0) (mC (.int 3)))) (mRet (mCall [] m_undone [] (mArg (mVar 1) mNil))) mNext)
noncomputable def b__law_call_5 : SM := (mIfS (mTst (mB dEq (mVar 0) (mC (.int 4)))) (mRet (mCall [] m_order [] (mArg (mVar 1) mNil))) mNext)
noncomputable def b__law_call_6 : SM := (mIfS (mTst (mB dEq (mVar 0) (mC (.int 5)))) (mRet (mCall [] m_is_even [] (mArg (mVar 1) mNil))) mNext)
noncomputable def b__law_call_7 : SM := (mIfS (mTst (mB dEq (mVar 0) (mC (.int 6)))) (mRet (mCall [] m_cycles [] (mArg (mVar 1) mNil))) mNext)
noncomputable def b__law_call_8 : SM := (mRet (mCall [] m_place [] (mArg (mVar 1) (mArg (mVar 2) mNil))))
noncomputable def b__law_call : SM := (mSeq (b__law_call_1) (mSeq (b__law_call_2) (mSeq (b__law_call_3) (mSeq (b__law_call_4) (mSeq (b__law_call_5) (mSeq (b__law_call_6) (mSeq (b__law_call_7) (b__law_call_8))))))))
noncomputable def m__law_call : List Sl → DR := mDef 3 [] b__law_call
def su__law_refusal (k : Ck) : SM := (mSeq (mIfS (mTst (mIsE (tblOf exs sub ["BadStage"]) k (mVar 3))) (mRet (mLst (mCons (mC (.str "other")) (mCons (mC .non) mNil)))) mNext) (mSeq (mIfS (mTst (mIsE (tblOf exs sub ["BadRow"]) k (mVar 3))) (mRet (mLst (mCons (mB dIx (mLst (mCons (mC (.str "row")) (mCons (mC (.str "other")) mNil))) (mCB (g1 dInt) (mCons (mIsE (tblOf exs sub ["Unlike", "BadBell"]) k (mVar 3)) mNil))) (mCons (mXf exs k "row" (mVar 3)) mNil)))) mNext) (mSeq (mIfS (mTst (mIsE (tblOf exs sub ["Unlike"]) k (mVar 3))) (mRet (mLst (mCons (mB dIx (mLst (mCons (mC (.str "unlike")) (mCons (mC (.str "other")) mNil))) (mCB (g1 dInt) (mCons (mIsE (tblOf exs sub ["BadBell"]) k (mVar 3)) mNil))) (mCons (mXf exs k "word" (mVar 3)) mNil)))) mNext) (mSeq (mIfS (mTst (mIsE (tblOf exs sub ["BadBell"]) k (mVar 3))) (mRet (mLst (mCons (mC (.str "bell")) (mCons (mXf exs k "bell" (mVar 3)) mNil)))) mNext) (mRet (mLst (mCons (mC (.str "other")) (mCons (mC .non) mNil))))))))
noncomputable def b__law_refusal_1 : SM := (mTry (catOf exs) 3 (mDrop (mCall [] m__law_call [] (mArg (mVar 0) (mArg (mVar 1) (mArg (mVar 2) mNil))))) su__law_refusal)
noncomputable def b__law_refusal_2 : SM := (mRet (mLst mNil))
noncomputable def b__law_refusal : SM := (mSeq (b__law_refusal_1) (b__law_refusal_2))
noncomputable def m__law_refusal : List Sl → DR := mDef 4 [] b__law_refusal
noncomputable def b__law_row_1 : SM := (mSet 2 (mComp [5] (mRng2 (mC (.int 1)) (mB dAdd (mVar 1) (mC (.int 1)))) (gN 5) (mYes) (mVar 5)))
noncomputable def b__law_row_2 : SM := (mSet 3 (mLst mNil))
noncomputable def b__law_row_3 : SM := (mFor (mRng1 (mVar 1)) (gN 4) (mDrop (mAppend 3 (mPopAt 2 (mCall [0] m__law_pick [] (mLend 0 (mArg (mCB (g1 dLen) (mCons (mVar 2) mNil)) mNil)))))))
noncomputable def b__law_row_4 : SM := (mRet (mCB (g1 dTupOf) (mCons (mVar 3) mNil)))
noncomputable def b__law_row : SM := (mSeq (b__law_row_1) (mSeq (b__law_row_2) (mSeq (b__law_row_3) (b__law_row_4))))
noncomputable def m__law_row : List Sl → DR := mDef 6 [0] b__law_row
noncomputable def b__law_refusals_fit_1 : SM := (mSet 3 (mCall [0] m__law_bad_row [] (mLend 0 (mArg (mVar 1) mNil))))
noncomputable def b__law_refusals_fit_2 : SM := (mSet 4 (mCall [0] m__law_bad_row [] (mLend 0 (mArg (mVar 2) mNil))))
noncomputable def b__law_refusals_fit_3 : SM := (mSet 5 (mCall [0] m__law_row [] (mLend 0 (mArg (mB dAdd (mC (.int 3)) (mB dMod (mCB (g1 dInt) (mCons (mB dAdd (mB dSub (mCB (g1 dLen) (mCons (mVar 1) mNil)) (mC (.int 2))) (mCall [0] m__law_pick [] (mLend 0 (mArg (mC (.int 5)) mNil)))) mNil)) (mC (.int 6)))) mNil))))
noncomputable def b__law_refusals_fit_4 : SM := (mFor (mRng1 (mC (.int 3))) (gN 6) (mSeq (mIfS ((mOr (mTst (mB dNe (mCall [] m__law_refusal [] (mArg (mVar 6) (mArg (mVar 3) (mArg (mVar 4) mNil)))) (mLst (mCons (mC (.str "row")) (mCons (mVar 3) mNil))))) (mTst (mB dNe (mCall [] m__law_refusal [] (mArg (mVar 6) (mArg (mVar 1) (mArg (mVar 4) mNil)))) (mLst (mCons (mC (.str "row")) (mCons (mVar 4) mNil))))))) (mRet (mC (.bl false))) mNext) (mSeq (mIfS ((mOr (mTst (mB dNe (mCall [] m__law_refusal [] (mArg (mVar 6) (mArg (mVar 3) (mArg (mVar 5) mNil)))) (mLst (mCons (mC (.str "row")) (mCons (mVar 3) mNil))))) (mTst (mB dNe (mCall [] m__law_refusal [] (mArg (mVar 6) (mArg (mVar 3) (mArg (mVar 2) mNil)))) (mLst (mCons (mC (.str "row")) (mCons (mVar 3) mNil))))))) (mRet (mC (.bl false))) mNext) (mIfS ((mOr (mTst (mB dNe (mCall [] m__law_refusal [] (mArg (mVar 6) (mArg (mVar 1) (mArg (mVar 5) mNil)))) (mLst (mCons (mC (.str "unlike")) (mCons (mC (.str "stage")) mNil))))) (mTst (mB dNe (mCall [] m__law_refusal [] (mArg (mVar 6) (mArg (mVar 1) (mArg (mCBn (g1n dListOf) (mCons (mVar 2) mNil)) mNil)))) (mLst mNil))))) (mRet (mC (.bl false))) mNext))))
noncomputable def b__law_refusals_fit_5 : SM := (mFor (mRng2 (mC (.int 3)) (mC (.int 7))) (gN 6) (mIfS ((mOr (mTst (mB dNe (mCall [] m__law_refusal [] (mArg (mVar 6) (mArg (mVar 3) (mArg (mC (.int 0)) mNil)))) (mLst (mCons (mC (.str "row")) (mCons (mVar 3) mNil))))) (mTst (mB dNe (mCall [] m__law_refusal [] (mArg (mVar 6) (mArg (mCBn (g1n dListOf) (mCons (mVar 5) mNil)) (mArg (mC (.int 0)) mNil)))) (mLst mNil))))) (mRet (mC (.bl false))) mNext))
noncomputable def b__law_refusals_fit_6 : SM := (mSet 7 (mB dIx (mLst (mCons (mC (.int 0)) (mCons (mB dAdd (mCB (g1 dLen) (mCons (mVar 1) mNil)) (mC (.int 1))) (mCons (mC (.bl true)) (mCons (mC .non) (mCons (mC (.str "1")) (mCons (mU dNeg (mC (.int 1))) (mCons (mTup (mCons (mC (.int 1)) mNil)) (mCons (mB dPow (mC (.int 10)) (mC (.int 30))) mNil))))))))) (mCall [0] m__law_pick [] (mLend 0 (mArg (mC (.int 8)) mNil)))))
noncomputable def b__law_refusals_fit_7 : SM := (mIfS ((mOr (mTst (mB dNe (mCall [] m__law_refusal [] (mArg (mC (.int 7)) (mArg (mVar 3) (mArg (mVar 7) mNil)))) (mLst (mCons (mC (.str "row")) (mCons (mVar 3) mNil))))) (mTst (mB dNe (mCall [] m__law_refusal [] (mArg (mC (.int 7)) (mArg (mVar 1) (mArg (mVar 7) mNil)))) (mLst (mCons (mC (.str "bell")) (mCons (mVar 7) mNil))))))) (mRet (mC (.bl false))) mNext)
noncomputable def b__law_refusals_fit_8 : SM := (mIfS ((mOr (mTst (mB dNe (mCall [] m__law_refusal [] (mArg (mC (.int 7)) (mArg (mVar 1) (mArg (mCB (g1 dLen) (mCons (mVar 1) mNil)) mNil)))) (mLst mNil))) (mTst (mB (dIsA true) (mCall [] m_is_row [] (mArg (mVar 3) (mArg (mCB (g1 dLen) (mCons (mVar 1) mNil)) mNil))) (mC (.bl false)))))) (mRet (mC (.bl false))) mNext)
noncomputable def b__law_refusals_fit_9 : SM := (mIfS ((mOr (mTst (mB (dIsA true) (mCall [] m_is_row [] (mArg (mVar 1) (mArg (mCB (g1 dLen) (mCons (mVar 1) mNil)) mNil))) (mC (.bl true)))) (mTst (mB (dIsA true) (mCall [] m_is_row [] (mArg (mCBn (g1n dListOf) (mCons (mVar 2) mNil)) (mArg (mCB (g1 dLen) (mCons (mVar 1) mNil)) mNil))) (mC (.bl true)))))) (mRet (mC (.bl false))) mNext)
noncomputable def b__law_refusals_fit_10 : SM := (mRet ((mAndV (mB (dIsA false) (mCall [] m_is_row [] (mArg (mVar 5) (mArg (mCB (g1 dLen) (mCons (mVar 1) mNil)) mNil))) (mC (.bl false))) (mB (dIsA false) (mCall [] m_is_row [] (mArg (mVar 5) (mArg (mCB (g1 dLen) (mCons (mVar 5) mNil)) mNil))) (mC (.bl true))))))
noncomputable def b__law_refusals_fit : SM := (mSeq (b__law_refusals_fit_1) (mSeq (b__law_refusals_fit_2) (mSeq (b__law_refusals_fit_3) (mSeq (b__law_refusals_fit_4) (mSeq (b__law_refusals_fit_5) (mSeq (b__law_refusals_fit_6) (mSeq (b__law_refusals_fit_7) (mSeq (b__law_refusals_fit_8) (mSeq (b__law_refusals_fit_9) (b__law_refusals_fit_10))))))))))
noncomputable def m__law_refusals_fit : List Sl → DR := mDef 8 [0] b__law_refusals_fit
noncomputable def b__law_undone_1 : SM := (mSet 1 (mComp [3] (mSeqI (mVar 0)) (gN 3) (mYes) (mC (.int 0))))
noncomputable def b__law_undone_2 : SM := (mFor (mRng1 (mCB (g1 dLen) (mCons (mVar 0) mNil))) (gN 2) (mSetIx 1 (mB dSub (mB dIx (mVar 0) (mVar 2)) (mC (.int 1))) (mB dAdd (mVar 2) (mC (.int 1)))))
noncomputable def b__law_undone_3 : SM := (mRet (mCB (g1 dTupOf) (mCons (mVar 1) mNil)))
noncomputable def b__law_undone : SM := (mSeq (b__law_undone_1) (mSeq (b__law_undone_2) (b__law_undone_3)))
noncomputable def m__law_undone : List Sl → DR := mDef 4 [] b__law_undone
noncomputable def b__law_second_1 : SM := (mSet 2 (mCall [0] m__law_pick [] (mLend 0 (mArg (mC (.int 6)) mNil))))
noncomputable def b__law_second_2 : SM := (mIfS (mTst (mB dEq (mVar 2) (mC (.int 0)))) (mRet (mCall [] m__law_rounds [] (mArg (mCB (g1 dLen) (mCons (mVar 1) mNil)) mNil))) mNext)
noncomputable def b__law_second_3 : SM := (mIfS (mTst (mB dEq (mVar 2) (mC (.int 1)))) (mRet (mVar 1)) mNext)
noncomputable def b__law_second_4 : SM := (mIfS (mTst (mB dEq (mVar 2) (mC (.int 2)))) (mRet (mCall [] m__law_undone [] (mArg (mVar 1) mNil))) mNext)
noncomputable def b__law_second_5 : SM := (mRet (mCall [0] m__law_row [] (mLend 0 (mArg (mCB (g1 dLen) (mCons (mVar 1) mNil)) mNil))))
noncomputable def b__law_second : SM := (mSeq (b__law_second_1) (mSeq (b__law_second_2) (mSeq (b__law_second_3) (mSeq (b__law_second_4) (b__law_second_5)))))
noncomputable def m__law_second : List Sl → DR := mDef 3 [0] b__law_second
def su__law_stage_refused (k : Ck) : SM := (mSeq (mIfS ((mOr (mNot (mTst (mIsE (tblOf exs sub ["BadStage"]) k (mVar 1)))) (mTst (mIsE (tblOf exs sub ["BadRow", "BadBell", "Unlike"]) k (mVar 1))))) (mRet (mC (.bl false))) mNext) (mRet (mB dEq (mXf exs k "stage" (mVar 1)) (mVar 0))))
noncomputable def b__law_stage_refused_1 : SM := (mTry (catOf exs) 1 (mDrop (mCall [] m_rounds [] (mArg (mVar 0) mNil))) su__law_stage_refused)
noncomputable def b__law_stage_refused_2 : SM := (mRet (mC (.bl false)))
noncomputable def b__law_stage_refused : SM := (mSeq (b__law_stage_refused_1) (b__law_stage_refused_2))
noncomputable def m__law_stage_refused : List Sl → DR := mDef 2 [] b__law_stage_refused
noncomputable def b__law_cycles_1 : SM := (mSet 1 (mLst mNil))
noncomputable def b__law_cycles_2 : SM := (mSet 2 (mLst mNil))
noncomputable def b__law_cycles_3 : SM := (mFor (mRng2 (mC (.int 1)) (mB dAdd (mCB (g1 dLen) (mCons (mVar 0) mNil)) (mC (.int 1)))) (gN 3) (mIfS (mTst (mB (dOr dNotIn (dDkIn true)) (mVar 3) (mVar 2))) (mSeq (mSet 4 (mLst (mCons (mVar 3) mNil))) (mSeq (mFor (mRng1 (mCB (g1 dLen) (mCons (mVar 0) mNil))) (gN 5) (mSeq (mSet 6 (mB dAdd (mIndex (mVar 0) (mB dIx (mVar 4) (mU dNeg (mC (.int 1))))) (mC (.int 1)))) (mIfS (mTst (mB (dOr dNotIn (dDkIn true)) (mVar 6) (mVar 4))) (mDrop (mAppend 4 (mVar 6))) mNext))) (mSeq (mDrop (mExtend 2 (mVar 4))) (mDrop (mAppend 1 (mCB (g1 dTupOf) (mCons (mVar 4) mNil))))))) mNext))
noncomputable def b__law_cycles_4 : SM := (mRet (mCB (g1 dTupOf) (mCons (mVar 1) mNil)))
noncomputable def b__law_cycles : SM := (mSeq (b__law_cycles_1) (mSeq (b__law_cycles_2) (mSeq (b__law_cycles_3) (b__law_cycles_4))))
noncomputable def m__law_cycles : List Sl → DR := mDef 7 [] b__law_cycles
noncomputable def b__law_is_even_1 : SM := (mSet 1 (mC (.int 0)))
noncomputable def b__law_is_even_2 : SM := (mFor (mRng1 (mCB (g1 dLen) (mCons (mVar 0) mNil))) (gN 2) (mSet 1 (mB dAdd (mVar 1) (mCB (g1 dLen) (mCons (mComp [3] (mSeqI (mSl (mVar 0) (mPart (mB dAdd (mVar 2) (mC (.int 1)))) mNoP)) (gN 3) ((mTst (mB dLt (mVar 3) (mB dIx (mVar 0) (mVar 2))))) (mVar 3)) mNil)))))
noncomputable def b__law_is_even_3 : SM := (mRet (mB dEq (mB dMod (mCB (g1 dInt) (mCons (mVar 1) mNil)) (mC (.int 2))) (mC (.int 0))))
noncomputable def b__law_is_even : SM := (mSeq (b__law_is_even_1) (mSeq (b__law_is_even_2) (b__law_is_even_3)))
noncomputable def m__law_is_even : List Sl → DR := mDef 4 [] b__law_is_even
noncomputable def b__law_order_1 : SM := (mSet 1 (mC (.int 0)))
noncomputable def b__law_order_2 : SM := (mSet 2 (mCall [] m__law_rounds [] (mArg (mCB (g1 dLen) (mCons (mVar 0) mNil)) mNil)))
noncomputable def b__law_order_3 : SM := (mFor (mRng2 (mC (.int 1)) (mC (.int 20))) (gN 3) (mSeq (mSet 2 (mCall [] m__law_moved [] (mArg (mVar 2) (mArg (mVar 0) mNil)))) (mIfS ((mAnd (mTst (mB dEq (mVar 1) (mC (.int 0)))) (mTst (mB dEq (mVar 2) (mCall [] m__law_rounds [] (mArg (mCB (g1 dLen) (mCons (mVar 0) mNil)) mNil)))))) (mSet 1 (mVar 3)) mNext)))
noncomputable def b__law_order_4 : SM := (mRet (mVar 1))
noncomputable def b__law_order : SM := (mSeq (b__law_order_1) (mSeq (b__law_order_2) (mSeq (b__law_order_3) (b__law_order_4))))
noncomputable def m__law_order : List Sl → DR := mDef 4 [] b__law_order
noncomputable def b__law_told_fit_1 : SM := (mSet 3 (mCall [0] m__law_hand [] (mLend 0 (mArg (mVar 1) mNil))))
noncomputable def b__law_told_fit_2 : SM := (mSet 4 (mCall [0] m__law_hand [] (mLend 0 (mArg (mVar 2) mNil))))
noncomputable def b__law_told_fit_3 : SM := (mIfS ((mOr (mNot (mTst (mCall [] (m__law_same 4) [] (mArg (mCall [] m_order [] (mArg (mVar 3) mNil)) (mArg (mCall [] m__law_order [] (mArg (mVar 1) mNil)) mNil))))) (mNot (mTst (mCall [] (m__law_same 4) [] (mArg (mCall [] m_order [] (mArg (mVar 4) mNil)) (mArg (mCall [] m__law_order [] (mArg (mVar 2) mNil)) mNil))))))) (mRet (mC (.bl false))) mNext)
noncomputable def b__law_told_fit_4 : SM := (mIfS ((mOr (mNot (mTst (mCall [] (m__law_same 4) [] (mArg (mCall [] m_is_even [] (mArg (mVar 3) mNil)) (mArg (mCall [] m__law_is_even [] (mArg (mVar 1) mNil)) mNil))))) (mNot (mTst (mCall [] (m__law_same 4) [] (mArg (mCall [] m_is_even [] (mArg (mVar 4) mNil)) (mArg (mCall [] m__law_is_even [] (mArg (mVar 2) mNil)) mNil))))))) (mRet (mC (.bl false))) mNext)
noncomputable def b__law_told_fit_5 : SM := (mIfS (mTst (mB dNe (mCall [] m_is_even [] (mArg (mCall [] m_moved [] (mArg (mVar 1) (mArg (mVar 2) mNil))) mNil)) (mB dEq (mCall [] m__law_is_even [] (mArg (mVar 1) mNil)) (mCall [] m__law_is_even [] (mArg (mVar 2) mNil))))) (mRet (mC (.bl false))) mNext)
noncomputable def b__law_told_fit_6 : SM := (mFor (mSeqI (mVar 1)) (gN 5) (mIfS ((mOr (mNot (mTst (mCall [] (m__law_same 4) [] (mArg (mCall [] m_place [] (mArg (mVar 3) (mArg (mVar 5) mNil))) (mArg (mB dAdd (mIndex (mVar 1) (mVar 5)) (mC (.int 1))) mNil))))) (mTst (mB dNe (mCall [] m_place [] (mArg (mVar 4) (mArg (mVar 5) mNil))) (mB dAdd (mIndex (mVar 2) (mVar 5)) (mC (.int 1))))))) (mRet (mC (.bl false))) mNext))
noncomputable def b__law_told_fit_7 : SM := (mIfS ((mOr (mNot (mTst (mCall [] (m__law_same 4) [] (mArg (mCall [] m_cycles [] (mArg (mVar 3) mNil)) (mArg (mCall [] m__law_cycles [] (mArg (mVar 1) mNil)) mNil))))) (mNot (mTst (mCall [] (m__law_same 4) [] (mArg (mCall [] m_cycles [] (mArg (mVar 4) mNil)) (mArg (mCall [] m__law_cycles [] (mArg (mVar 2) mNil)) mNil))))))) (mRet (mC (.bl false))) mNext)
noncomputable def b__law_told_fit_8 : SM := (mRet ((mAndV (mB dEq (mCall [] (m__law_listed 3) [] (mArg (mVar 3) mNil)) (mCBn (g1n dListOf) (mCons (mVar 1) mNil))) (mB dEq (mCall [] (m__law_listed 3) [] (mArg (mVar 4) mNil)) (mCBn (g1n dListOf) (mCons (mVar 2) mNil))))))
noncomputable def b__law_told_fit : SM := (mSeq (b__law_told_fit_1) (mSeq (b__law_told_fit_2) (mSeq (b__law_told_fit_3) (mSeq (b__law_told_fit_4) (mSeq (b__law_told_fit_5) (mSeq (b__law_told_fit_6) (mSeq (b__law_told_fit_7) (b__law_told_fit_8))))))))
noncomputable def m__law_told_fit : List Sl → DR := mDef 6 [0] b__law_told_fit
noncomputable def b_law_1 : SM := (mSet 1 (mCall [] m__law_draw [] (mArg (mVar 0) mNil)))
noncomputable def b_law_2 : SM := (mSet 2 (mCall [0] m__law_row [] (mLend 1 (mArg (mB dAdd (mC (.int 3)) (mCall [0] m__law_pick [] (mLend 1 (mArg (mC (.int 6)) mNil)))) mNil))))
noncomputable def b_law_3 : SM := (mSet 3 (mCall [0] m__law_second [] (mLend 1 (mArg (mVar 2) mNil))))
noncomputable def b_law_4 : SM := (mSet 4 (mCall [0] m__law_row [] (mLend 1 (mArg (mCB (g1 dLen) (mCons (mVar 2) mNil)) mNil))))
noncomputable def b_law_5 : SM := (mIfS ((mOr (mNot (mTst (mCall [0] m__law_moves_fit [] (mLend 1 (mArg (mVar 2) (mArg (mVar 3) (mArg (mVar 4) mNil))))))) (mNot (mTst (mCall [0] m__law_told_fit [] (mLend 1 (mArg (mVar 2) (mArg (mVar 3) mNil)))))))) (mRet (mC (.bl false))) mNext)
noncomputable def b_law_6 : SM := (mSet 5 (mCBn (g1n dListOf) (mCons (mVar 2) mNil)))
noncomputable def b_law_7 : SM := (mSet 6 (mCall [0] (loanF 0 m_moved) [] (mLend 5 (mArg (mVar 3) mNil))))
noncomputable def b_law_8 : SM := (mSetIx 5 (mC (.int 0)) (mB dIx (mVar 2) (mC (.int 1))))
noncomputable def b_law_9 : SM := (mSetIx 5 (mC (.int 1)) (mB dIx (mVar 2) (mC (.int 0))))
noncomputable def b_law_10 : SM := (mIfS ((mOr (mTst (mB dNe (mVar 6) (mCall [] m__law_moved [] (mArg (mVar 2) (mArg (mVar 3) mNil))))) (mTst (mB dNe (mCall [0] (loanF 0 m_moved) [] (mLend 5 (mArg (mVar 3) mNil))) (mCall [] m__law_moved [] (mArg (mCB (g1 dTupOf) (mCons (mVar 5) mNil)) (mArg (mVar 3) mNil))))))) (mRet (mC (.bl false))) mNext)
noncomputable def b_law_11 : SM := (mIfS (mNot (mTst (mCall [] m__law_stage_refused [] (mArg (mB dIx (mLst (mCons (mC (.int 2)) (mCons (mC (.int 9)) (mCons (mC (.bl true)) (mCons (mC .non) (mCons (mC (.str "4")) (mCons (mU dNeg (mC (.int 3))) (mCons (mB dPow (mC (.int 10)) (mC (.int 20))) (mCons (mTup (mCons (mC (.int 4)) mNil)) mNil))))))))) (mCall [0] m__law_pick [] (mLend 1 (mArg (mC (.int 8)) mNil)))) mNil)))) (mRet (mC (.bl false))) mNext)
noncomputable def b_law_12 : SM := (mRet (mCall [0] m__law_refusals_fit [] (mLend 1 (mArg (mVar 2) (mArg (mVar 3) mNil)))))
noncomputable def b_law : SM := (mSeq (b_law_1) (mSeq (b_law_2) (mSeq (b_law_3) (mSeq (b_law_4) (mSeq (b_law_5) (mSeq (b_law_6) (mSeq (b_law_7) (mSeq (b_law_8) (mSeq (b_law_9) (mSeq (b_law_10) (mSeq (b_law_11) (b_law_12))))))))))))
noncomputable def m_law : List Sl → DR := mDef 7 [] b_law
end K01
set_option Elab.async false
set_option linter.all false
set_option maxRecDepth 100000
set_option maxHeartbeats 4000000
namespace K01
open PySem Mi
theorem mix_ok (c t : Int) : ∃ r : Int, m__law_mix [.val (.int c), .val (.int t)] = .ok (.v (.int r)) [] := by
  have h1 : ∀ x : Int, -18446744073709551616 < x % 2147483647 := fun x => by omega
  have h2 : ∀ x : Int, x % 2147483647 < 18446744073709551616 := fun x => by omega
  have h3 : ∀ x : Int, -18446744073709551616 < x % 998244353 := fun x => by omega
  have h4 : ∀ x : Int, x % 998244353 < 18446744073709551616 := fun x => by omega
  unfold m__law_mix b__law_mix mDef b__law_mix_1 b__law_mix_2 b__law_mix_3 b__law_mix_4
  simp [mSeq, mSet, R.st, nxt, setSl, canSet, mB, mCB, mCons, mNil, mVar, mC, mArg, R.bind, OV.fz, OB.get, ap2, rz, apN, getAll, g1, dInt, dMul, dAdd, dMod, dDiv, mRet, retV, okD, ioOf, dSub, h1, h2, h3, h4]
noncomputable def mixF (c t : Int) : Int := Classical.choose (mix_ok c t)
theorem mix_eq (c t : Int) : m__law_mix [.val (.int c), .val (.int t)] = .ok (.v (.int (mixF c t))) [] := Classical.choose_spec (mix_ok c t)
/-- what is drawn from: the cells, the place, what is left of a great cell, the turns, the turns behind the end, the sum -/
def ps (ns : List Int) (a b c d e : Int) : Ow := .lst [.lst (ns.map D.int), .int a, .int b, .int c, .int d, .int e]
theorem at_cell {ns : List Int} {a : Int} (h0 : 0 ≤ a) (h1 : a < ns.length) : ∃ v, L2.atI (ns.map D.int) a = some (.int v) := by
  unfold L2.atI L2.ixN
  rw [List.length_map, if_pos h0, if_pos h1]
  have h2 : a.toNat < ns.length := by omega
  refine ⟨ns[a.toNat], ?_⟩
  simp [h2]
theorem at6_0 {x0 x1 x2 x3 x4 x5 : D} : L2.atI [x0, x1, x2, x3, x4, x5] 0 = some x0 := rfl
theorem at6_1 {x0 x1 x2 x3 x4 x5 : D} : L2.atI [x0, x1, x2, x3, x4, x5] 1 = some x1 := rfl
theorem at6_2 {x0 x1 x2 x3 x4 x5 : D} : L2.atI [x0, x1, x2, x3, x4, x5] 2 = some x2 := rfl
theorem at6_3 {x0 x1 x2 x3 x4 x5 : D} : L2.atI [x0, x1, x2, x3, x4, x5] 3 = some x3 := rfl
theorem at6_4 {x0 x1 x2 x3 x4 x5 : D} : L2.atI [x0, x1, x2, x3, x4, x5] 4 = some x4 := rfl
theorem at6_5 {x0 x1 x2 x3 x4 x5 : D} : L2.atI [x0, x1, x2, x3, x4, x5] 5 = some x5 := rfl
theorem dPow_ii (a b : Int) : dPow (.int a) (.int b) = if 0 ≤ b ∧ (Builtin.Int.intBits a : Int) * b ≤ 2 ^ 27 then some (.int (a ^ b.toNat)) else none := rfl
theorem pw18 : dPow (.int 10) (.int 18) = some (.int 1000000000000000000) := by
  rw [dPow_ii, if_pos (by decide +kernel)]
  rfl
def bigB : Int := 1000000000000000000000000000000000000000000000000000000000000
def bigK : Int := bigB ^ (64 : Nat)
theorem bigK_pos : 0 < bigK := by unfold bigK bigB; decide +kernel
theorem pw60 : dPow (.int 10) (.int 60) = some (.int bigB) := by
  rw [dPow_ii, if_pos (by decide +kernel)]
  exact congrArg (fun z => some (D.int z)) (by unfold bigB; decide +kernel)
theorem pw64 : dPow (.int bigB) (.int 64) = some (.int bigK) := by
  rw [dPow_ii, if_pos (by unfold bigB; decide +kernel)]
  rfl
/-- a great cell is taken up -/
theorem pick2 {ns : List Int} {a b c d e many : Int} {y z : Sl} {x : Sl} (h0 : 0 ≤ a) (h1 : 0 ≤ b) (hx : x = .un) : ∃ a' b' x', 0 ≤ a' ∧ 0 ≤ b' ∧ (x' = .un ∨ ∃ v, x' = .val v) ∧
    b__law_pick_2 [.own true (ps ns a b c d e), .val (.int many), x, y, z] = .nx [.own true (ps ns a' b' c d e), .val (.int many), x', y, z] := by
  subst hx
  unfold b__law_pick_2 ps
  by_cases k1 : b = 0
  · by_cases k2 : a < ns.length
    · by_cases k3 : c = 0
      · obtain ⟨v, hv⟩ := at_cell h0 k2
        subst k1 k3
        by_cases kb : (1000000000000000000 : Int) ≤ v ∨ v ≤ -1000000000000000000
        · refine ⟨a + 1, (if v < 0 then -v else v) % bigK, .val (.int v), by omega, Int.emod_nonneg _ (Int.ne_of_gt bigK_pos), .inr ⟨_, rfl⟩, ?_⟩
          have hk := bigK_pos
          rcases Classical.em ((1000000000000000000 : Int) ≤ v) with ka | ka
          · simp [mIfS, mAnd, mOr, mTst, mB, mU, ap1, mVar, mC, R.bind, R.st, OV.fz, OB.get, ap2, rz, dIx, at6_0, at6_1, at6_2, at6_3, at6_4, at6_5, e_int, e_lt, e_ge, e_le, tb, mCB, mCons, mNil, apN, getAll, g1, dLen, dAbs, dInt, Ow.d, mNext, k2, mSeq, mSet, setSl, nxt, canSet, hv, pw18, pw60, pw64, ka, mSetIx, esc, isOw, L2.ixN, e_mod hk, e_add]
          · have kc : v ≤ -1000000000000000000 := by omega
            simp [mIfS, mAnd, mOr, mTst, mB, mU, ap1, mVar, mC, R.bind, R.st, OV.fz, OB.get, ap2, rz, dIx, at6_0, at6_1, at6_2, at6_3, at6_4, at6_5, e_int, e_lt, e_ge, e_le, e_neg, tb, mCB, mCons, mNil, apN, getAll, g1, dLen, dAbs, dInt, Ow.d, mNext, k2, mSeq, mSet, setSl, nxt, canSet, hv, pw18, pw60, pw64, ka, kc, mSetIx, esc, isOw, L2.ixN, e_mod hk, e_add]
        · refine ⟨a, 0, .val (.int v), h0, Int.le_refl 0, .inr ⟨_, rfl⟩, ?_⟩
          have ka : ¬ (1000000000000000000 : Int) ≤ v := fun z => kb (.inl z)
          have kc : ¬ v ≤ -1000000000000000000 := fun z => kb (.inr z)
          simp [mIfS, mAnd, mOr, mTst, mB, mU, ap1, mVar, mC, R.bind, R.st, OV.fz, OB.get, ap2, rz, dIx, at6_0, at6_1, at6_2, at6_3, at6_4, at6_5, e_int, e_lt, e_ge, e_le, e_neg, tb, mCB, mCons, mNil, apN, getAll, g1, dLen, dAbs, dInt, Ow.d, mNext, k2, mSeq, mSet, setSl, nxt, canSet, hv, pw18, ka, kc]
      · refine ⟨a, b, .un, h0, h1, .inl rfl, ?_⟩
        subst k1
        simp [mIfS, mAnd, mTst, mB, mVar, mC, R.bind, R.st, OV.fz, OB.get, ap2, rz, dIx, at6_0, at6_1, at6_2, at6_3, at6_4, at6_5, e_int, e_lt, tb, mCB, mCons, mNil, apN, getAll, g1, dLen, Ow.d, mNext, k2, k3]
    · refine ⟨a, b, .un, h0, h1, .inl rfl, ?_⟩
      subst k1
      simp [mIfS, mAnd, mTst, mB, mVar, mC, R.bind, R.st, OV.fz, OB.get, ap2, rz, dIx, at6_0, at6_1, at6_2, at6_3, at6_4, at6_5, e_int, e_lt, tb, mCB, mCons, mNil, apN, getAll, g1, dLen, Ow.d, mNext, k2]
  · refine ⟨a, b, .un, h0, h1, .inl rfl, ?_⟩
    simp [mIfS, mAnd, mTst, mB, mVar, mC, R.bind, R.st, OV.fz, OB.get, ap2, rz, dIx, at6_0, at6_1, at6_2, at6_3, at6_4, at6_5, e_int, e_lt, tb, mCB, mCons, mNil, apN, getAll, g1, dLen, Ow.d, mNext, k1]
theorem e_modD {a b : Int} (h : 0 < b) : dMod (.int a) (.int b) = some (.int (a % b)) := if_pos h
theorem pick3 {ns : List Int} {a b c d e many : Int} {x z : Sl} {w : Sl} (hb : 0 ≤ b) (hm : 2 ≤ many) (hn : many ≤ 1000) :
    (∃ b' p, 0 ≤ b' ∧ 0 ≤ p ∧ p < many ∧ b__law_pick_3 [.own true (ps ns a b c d e), .val (.int many), x, .un, z] = .rt (.v (.int p)) [.own true (ps ns a b' c d e), .val (.int many), x, .val (.int p), z]) ∨
    b__law_pick_3 [.own true (ps ns a b c d e), .val (.int many), x, .un, z] = .nx [.own true (ps ns a b c d e), .val (.int many), x, .un, z] := by
  have hm0 : 0 < many := by omega
  have hm1 : many < 1073741824 := by omega
  unfold b__law_pick_3 ps
  by_cases k : 0 < b
  · refine .inl ⟨b / many, b % many, Int.ediv_nonneg hb (by omega), Int.emod_nonneg _ (by omega), Int.emod_lt_of_pos _ hm0, ?_⟩
    simp [mIfS, mTst, mB, mVar, mC, R.bind, R.st, OV.fz, OB.get, ap2, rz, dIx, at6_0, at6_1, at6_2, at6_3, at6_4, at6_5, e_int, e_gt, tb, mCB, mCons, mNil, apN, getAll, g1, dInt, Ow.d, mNext, mSeq, mSet, setSl, nxt, canSet, mSetIx, esc, isOw, L2.ixN, e_mod hm0, e_div hm0 hm1, k, mRet, retV]
  · refine .inr ?_
    simp [mIfS, mTst, mB, mVar, mC, R.bind, R.st, OV.fz, OB.get, ap2, rz, dIx, at6_0, at6_1, at6_2, at6_3, at6_4, at6_5, e_int, e_gt, tb, Ow.d, mNext, k]
theorem pick4 {ns : List Int} {a b c d e many : Int} {x : Sl} {w : Sl} (hx : x = .un ∨ ∃ v, x = .val v) (ha : 0 ≤ a) (hm : 2 ≤ many) (hn : many ≤ 1000) :
    (∃ a' c' x' y' z' p, 0 ≤ a' ∧ 0 ≤ p ∧ p < many ∧ b__law_pick_4 [.own true (ps ns a b c d e), .val (.int many), x, .un, .un] = .rt (.v (.int p)) [.own true (ps ns a' b c' d e), .val (.int many), x', y', z']) ∨
    b__law_pick_4 [.own true (ps ns a b c d e), .val (.int many), x, .un, .un] = .nx [.own true (ps ns a b c d e), .val (.int many), x, .un, .un] := by
  have hm0 : 0 < many := by omega
  unfold b__law_pick_4 ps
  by_cases k2 : a < ns.length
  · obtain ⟨v, hv⟩ := at_cell ha k2
    by_cases k6 : c + 1 = 6
    · refine .inl ⟨a + 1, 0, .val (.int v), .un, .val (.int (mixF (v + 31 * a) (c + 1) % many)), mixF (v + 31 * a) (c + 1) % many, by omega, Int.emod_nonneg _ (by omega), Int.emod_lt_of_pos _ hm0, ?_⟩
      rcases hx with rfl | ⟨v0, rfl⟩ <;> simp [mIfS, mTst, mB, mVar, mC, R.bind, R.st, OV.fz, OB.get, ap2, rz, dIx, at6_0, at6_1, at6_2, at6_3, at6_4, at6_5, e_int, e_lt, e_add, tb, mCB, mCons, mNil, apN, getAll, g1, dInt, dLen, Ow.d, mNext, mSeq, mSet, setSl, nxt, canSet, mSetIx, esc, isOw, L2.ixN, e_mod hm0, k2, mRet, retV, hv, k6, mCall, mArg, toArgs, ioPos, ioSl, mix_eq, putO, rvOV, e_mull]
    · refine .inl ⟨a, c + 1, .val (.int v), .un, .val (.int (mixF (v + 31 * a) (c + 1) % many)), mixF (v + 31 * a) (c + 1) % many, by omega, Int.emod_nonneg _ (by omega), Int.emod_lt_of_pos _ hm0, ?_⟩
      rcases hx with rfl | ⟨v0, rfl⟩ <;> simp [mIfS, mTst, mB, mVar, mC, R.bind, R.st, OV.fz, OB.get, ap2, rz, dIx, at6_0, at6_1, at6_2, at6_3, at6_4, at6_5, e_int, e_lt, e_add, tb, mCB, mCons, mNil, apN, getAll, g1, dInt, dLen, Ow.d, mNext, mSeq, mSet, setSl, nxt, canSet, mSetIx, esc, isOw, L2.ixN, e_mod hm0, k2, mRet, retV, hv, k6, mCall, mArg, toArgs, ioPos, ioSl, mix_eq, putO, rvOV, e_mull]
  · refine .inr ?_
    simp [mIfS, mTst, mB, mVar, mC, R.bind, R.st, OV.fz, OB.get, ap2, rz, dIx, at6_0, at6_1, at6_2, at6_3, at6_4, at6_5, e_int, e_lt, tb, mCB, mCons, mNil, apN, getAll, g1, dLen, Ow.d, mNext, k2]
theorem pick56 {ns : List Int} {a b c d e many : Int} {x y z : Sl} (hm : 2 ≤ many) :
    ∃ d' p, 0 ≤ p ∧ p < many ∧ mSeq b__law_pick_5 b__law_pick_6 [.own true (ps ns a b c d e), .val (.int many), x, y, z] = .rt (.v (.int p)) [.own true (ps ns a b c d' e), .val (.int many), x, y, z] := by
  have hm0 : 0 < many := by omega
  unfold b__law_pick_5 b__law_pick_6 ps
  refine ⟨d + 1, mixF e (d + 1 + 100) % many, Int.emod_nonneg _ (by omega), Int.emod_lt_of_pos _ hm0, ?_⟩
  simp [mIfS, mTst, mB, mVar, mC, R.bind, R.st, OV.fz, OB.get, ap2, rz, dIx, at6_0, at6_1, at6_2, at6_3, at6_4, at6_5, e_int, e_lt, e_add, tb, mCB, mCons, mNil, apN, getAll, g1, dInt, dLen, Ow.d, mNext, mSeq, mSet, setSl, nxt, canSet, mSetIx, esc, isOw, L2.ixN, e_mod hm0, mRet, retV, mCall, mArg, toArgs, ioPos, ioSl, mix_eq, putO, rvOV]
/-- a state of the draw -/
def Dr (ns : List Int) (w : Ow) : Prop := ∃ a b c d e, 0 ≤ a ∧ 0 ≤ b ∧ w = ps ns a b c d e
theorem pick_ok {ns : List Int} {w : Ow} (hw : Dr ns w) {many : Int} (h1 : 1 ≤ many) (hn : many ≤ 1000) :
    ∃ p w', Dr ns w' ∧ 0 ≤ p ∧ p < many ∧ m__law_pick [.own true w, .val (.int many)] = .ok (.v (.int p)) [w'] := by
  obtain ⟨a, b, c, d, e, ha, hb, rfl⟩ := hw
  unfold m__law_pick mDef b__law_pick
  show ∃ p w', Dr ns w' ∧ 0 ≤ p ∧ p < many ∧ (match mSeq b__law_pick_1 (mSeq b__law_pick_2 (mSeq b__law_pick_3 (mSeq b__law_pick_4 (mSeq b__law_pick_5 b__law_pick_6)))) [.own true (ps ns a b c d e), .val (.int many), .un, .un, .un] with | .rt r ρ => okD [0] r ρ | .nx ρ => okD [0] (.v .non) ρ | .ex x ρ => (match ioOf [0] ρ with | some os => .ex x os | none => .bad) | _ => .bad) = .ok (.v (.int p)) [w']
  by_cases k : many < 2
  · refine ⟨0, ps ns a b c d e, ⟨a, b, c, d, e, ha, hb, rfl⟩, Int.le_refl 0, by omega, ?_⟩
    unfold b__law_pick_1
    simp [mSeq, mIfS, mTst, mB, mVar, mC, R.bind, R.st, OV.fz, OB.get, ap2, rz, e_lt, tb, k, mRet, retV, okD, ioOf]
  · have g1 : b__law_pick_1 [.own true (ps ns a b c d e), .val (.int many), .un, .un, .un] = .nx [.own true (ps ns a b c d e), .val (.int many), .un, .un, .un] := by
      unfold b__law_pick_1
      simp [mSeq, mIfS, mTst, mB, mVar, mC, R.bind, R.st, OV.fz, OB.get, ap2, rz, e_lt, tb, k, mNext]
    have hm : 2 ≤ many := by omega
    obtain ⟨a2, b2, x2, ha2, hb2, hx2, g2⟩ := pick2 (ns := ns) (a := a) (b := b) (c := c) (d := d) (e := e) (many := many) (y := .un) (z := .un) (x := .un) ha hb rfl
    rcases pick3 (ns := ns) (a := a2) (b := b2) (c := c) (d := d) (e := e) (many := many) (x := x2) (z := .un) (w := .un) hb2 hm hn with ⟨b3, p, hb3, hp0, hp1, g3⟩ | g3
    · refine ⟨p, ps ns a2 b3 c d e, ⟨a2, b3, c, d, e, ha2, hb3, rfl⟩, hp0, hp1, ?_⟩
      simp only [mSeq, g1, g2, g3]
      rfl
    · rcases pick4 (ns := ns) (a := a2) (b := b2) (c := c) (d := d) (e := e) (many := many) (x := x2) (w := .un) hx2 ha2 hm hn with ⟨a4, c4, x4, y4, z4, p, ha4, hp0, hp1, g4⟩ | g4
      · refine ⟨p, ps ns a4 b2 c4 d e, ⟨a4, b2, c4, d, e, ha4, hb2, rfl⟩, hp0, hp1, ?_⟩
        simp only [mSeq, g1, g2, g3, g4]
        rfl
      · obtain ⟨d5, p, hp0, hp1, g5⟩ := pick56 (ns := ns) (a := a2) (b := b2) (c := c) (d := d) (e := e) (many := many) (x := x2) (y := .un) (z := .un) hm
        refine ⟨p, ps ns a2 b2 c d5 e, ⟨a2, b2, c, d5, e, ha2, hb2, rfl⟩, hp0, hp1, ?_⟩
        have g5' := g5
        simp only [mSeq] at g5'
        simp only [mSeq, g1, g2, g3, g4, g5']
        rfl
theorem seqIx {p : Int} {n : Nat} (h0 : 0 ≤ p) (h1 : p < n) : seqIndex? p n = some p.toNat := by
  unfold seqIndex?
  simp
  omega
theorem map_erase {α β : Type} {f : α → β} : ∀ (l : List α) (k : Nat), (l.map f).eraseIdx k = (l.eraseIdx k).map f
  | [], _ => rfl
  | a :: l, 0 => rfl
  | a :: l, k + 1 => congrArg (f a :: ·) (map_erase l k)
/-- one more entry is drawn for a row -/
theorem row_step {ns : List Int} {w : Ow} (hw : Dr ns w) {L O : List Int} {n t : D} (h0 : L ≠ []) (hL : L.length ≤ 8) (hO : O.length ≤ 8) :
    ∃ w', ∃ k : Nat, ∃ hk : k < L.length, Dr ns w' ∧ mDrop (mAppend 3 (mPopAt 2 (mCall [0] m__law_pick [] (mLend 0 (mArg (mCB (g1 dLen) (mCons (mVar 2) mNil)) mNil))))) [.own true w, .val n, .own false (.lst (zs L)), .own false (.lst (zs O)), .val t, .un]
      = .nx [.own true w', .val n, .own false (.lst (zs (L.eraseIdx k))), .own false (.lst (zs (O ++ [L[k]]))), .val t, .un] := by
  have hl : 1 ≤ L.length := by
    cases L with
    | nil => exact absurd rfl h0
    | cons => simp
  obtain ⟨p, w', hw', hp0, hp1, hp⟩ := pick_ok hw (many := (L.length : Int)) (by omega) (by omega)
  have hk : p.toNat < L.length := by omega
  refine ⟨w', p.toNat, hk, hw', ?_⟩
  have hO2 : O.length < BIG := by unfold BIG; omega
  have hp3 : -9223372036854775808 ≤ p ∧ p < 9223372036854775808 := by omega
  have hz : (zs L).eraseIdx p.toNat = zs (L.eraseIdx p.toNat) := map_erase _ _
  simp [mDrop, mAppend, isOwL, mPopAt, mCall, mLend, isOw, mArg, mCB, mCons, mVar, R.bind, R.st, OV.fz, esc, mNil, apN, getAll, OB.get, Ow.d, g1, dLen, rz, toArgs, ioPos, ioSl, hp, putO, rvOV, chg, fPopAt, seqIx hp0 hp1, hp3, hk, fApp, hO2, hz]
/-- 1, 2, ..., n -/
def up (n : Nat) : List Int := (List.range n).map fun (i : Nat) => 1 + (i : Int)
theorem up_len (n : Nat) : (up n).length = n := by simp [up]
theorem rgD_up {n : Int} (h : 0 ≤ n) : rgD 1 (n + 1) = zs (up n.toNat) := by
  unfold rgD zs up
  have : (n + 1 - 1).toNat = n.toNat := by omega
  rw [this, List.map_map]
  rfl
/-- a row of the stage n -/
def Row (n : Nat) (r : List Int) : Prop := r.Perm (up n)
noncomputable def rowB : SM := mDrop (mAppend 3 (mPopAt 2 (mCall [0] m__law_pick [] (mLend 0 (mArg (mCB (g1 dLen) (mCons (mVar 2) mNil)) mNil)))))
theorem erase_perm {l : List Int} : ∀ {k : Nat} (h : k < l.length), (l[k] :: l.eraseIdx k).Perm l := by
  induction l with
  | nil => intro k h; exact absurd h (Nat.not_lt_zero _)
  | cons a l ih =>
    intro k h
    cases k with
    | zero => exact List.Perm.refl _
    | succ k =>
      have hk : k < l.length := by simpa using h
      exact (List.Perm.swap a l[k] (l.eraseIdx k)).trans (List.Perm.cons a (ih hk))
theorem row_loop {ns : List Int} {n : D} : ∀ {ts : List D} {w : Ow} {L O : List Int} {s4 : Sl}, Dr ns w → L.length = ts.length → O.length + L.length ≤ 8 → (s4 = .un ∨ ∃ v, s4 = .val v) →
    ∃ w' O' s', Dr ns w' ∧ O'.Perm (O ++ L) ∧ mForL (gN 4) rowB (ts.map .one) [.own true w, .val n, .own false (.lst (zs L)), .own false (.lst (zs O)), s4, .un] = .nx [.own true w', .val n, .own false (.lst []), .own false (.lst (zs O')), s', .un]
  | [], w, L, O, s4, hw, hl, h8, h4 => by
    have : L = [] := List.length_eq_zero_iff.mp hl
    subst this
    exact ⟨w, O, s4, hw, by simp, rfl⟩
  | t :: ts, w, L, O, s4, hw, hl, h8, h4 => by
    have hL0 : L ≠ [] := by
      intro e
      subst e
      simp at hl
    obtain ⟨w1, k, hk, hw1, h1⟩ := row_step hw (L := L) (O := O) (n := n) (t := t) hL0 (by omega) (by omega)
    have hl2 : (L.eraseIdx k).length = ts.length := by
      rw [List.length_eraseIdx_of_lt hk, hl]
      rfl
    obtain ⟨w2, O2, s2, hw2, hp2, h2⟩ := row_loop (n := n) (ts := ts) (w := w1) (L := L.eraseIdx k) (O := O ++ [L[k]]) (s4 := .val t) hw1 hl2 (by rw [List.length_append, hl2]; simp at hl ⊢; omega) (.inr ⟨_, rfl⟩)
    refine ⟨w2, O2, s2, hw2, hp2.trans ?_, ?_⟩
    · rw [List.append_assoc]
      exact List.Perm.append_left O (erase_perm hk)
    · rw [List.map_cons]
      unfold mForL
      have g : gN 4 (IV.one t) [.own true w, .val n, .own false (.lst (zs L)), .own false (.lst (zs O)), s4, .un] = some [.own true w, .val n, .own false (.lst (zs L)), .own false (.lst (zs O)), .val t, .un] := by
        rcases h4 with rfl | ⟨v, rfl⟩ <;> simp [gN, canSet]
      have h1' : rowB [.own true w, .val n, .own false (.lst (zs L)), .own false (.lst (zs O)), .val t, .un] = _ := h1
      simp only [g, h1']
      exact h2
theorem row_ok {ns : List Int} {w : Ow} (hw : Dr ns w) {n : Int} (h1 : 1 ≤ n) (h8 : n ≤ 8) :
    ∃ r w', Dr ns w' ∧ Row n.toNat r ∧ m__law_row [.own true w, .val (.int n)] = .ok (.v (.tup (zs r))) [w'] := by
  unfold m__law_row mDef b__law_row
  have hb : (rgD 1 (n + 1)).length ≤ BIG := by
    rw [rgD_up (by omega)]
    simp [up_len]
    unfold BIG
    omega
  have e1 : b__law_row_1 [.own true w, .val (.int n), .un, .un, .un, .un] = .nx [.own true w, .val (.int n), .own false (.lst (zs (up n.toNat))), .un, .un, .un] := by
    unfold b__law_row_1 mSet
    rw [comp_map (f := id) (ys := rgD 1 (n + 1)) rfl (by
      have : -4611686018427387904 ≤ n + 1 ∧ n + 1 < 4611686018427387904 := by omega
      simp [mRng2, mC, R.bind, mB, mVar, OV.fz, OB.get, ap2, rz, e_add, rgI, this]) (fun d _ => ⟨.d d, by simp [mVar], rfl⟩) hb]
    rw [List.map_id, rgD_up (by omega)]
    rfl
  have e2 : b__law_row_2 [.own true w, .val (.int n), .own false (.lst (zs (up n.toNat))), .un, .un, .un] = .nx [.own true w, .val (.int n), .own false (.lst (zs (up n.toNat))), .own false (.lst []), .un, .un] := by
    unfold b__law_row_2
    simp [mSet, mLst, mNil, R.bind, R.st, escs, setSl, canSet, nxt]
  obtain ⟨w', r, s', hw', hp, e3⟩ := row_loop (n := .int n) (ts := rgD 0 n) (w := w) (L := up n.toNat) (O := []) (s4 := .un) hw (by simp [up_len, rgD]) (by simp [up_len]; omega) (.inl rfl)
  have hp' : r.Perm (up n.toNat) := by simpa using hp
  refine ⟨r, w', hw', hp', ?_⟩
  have e3' : b__law_row_3 [.own true w, .val (.int n), .own false (.lst (zs (up n.toNat))), .own false (.lst []), .un, .un] = .nx [.own true w', .val (.int n), .own false (.lst []), .own false (.lst (zs r)), s', .un] := by
    unfold b__law_row_3 mFor
    have : -4611686018427387904 ≤ n ∧ n < 4611686018427387904 := by omega
    simp only [mRng1, mVar, R.bind, R.st, List.getElem?_cons_zero, List.getElem?_cons_succ, rgI]
    rw [if_pos (by omega)]
    exact e3
  show (match mSeq b__law_row_1 (mSeq b__law_row_2 (mSeq b__law_row_3 b__law_row_4)) [.own true w, .val (.int n), .un, .un, .un, .un] with | .rt r ρ => okD [0] r ρ | .nx ρ => okD [0] (.v .non) ρ | .ex x ρ => (match ioOf [0] ρ with | some os => .ex x os | none => .bad) | _ => .bad) = _
  simp only [mSeq, e1, e2, e3']
  unfold b__law_row_4
  simp [mRet, mCB, mCons, mNil, mVar, R.bind, R.st, OV.fz, apN, getAll, OB.get, Ow.d, g1, dTupOf, rz, retV, okD, ioOf]
end K01
set_option Elab.async false
set_option linter.all false
set_option maxRecDepth 100000
set_option maxHeartbeats 4000000
namespace K01
open PySem Mi
/-- a row as it is handed over: a tuple, or a list of its own -/
def Hd (r : List Int) (x : D) : Prop := x = .tup (zs r) ∨ x = .lst (zs r)
theorem up_sorted (n : Nat) : (up n).Pairwise (· ≤ ·) := by
  unfold up
  rw [List.pairwise_map]
  refine List.Pairwise.imp ?_ (List.pairwise_lt_range (n := n))
  intro a b h
  omega
theorem Row.sorted {n : Nat} {r : List Int} (h : Row n r) : sortI r = up n := sorted_one ((sortI_perm r).trans h) (sortI_sorted r) (up_sorted n)
theorem Row.len {n : Nat} {r : List Int} (h : Row n r) : r.length = n := by rw [h.length_eq, up_len]
theorem isint_ok (i : Int) : m_is_integer [.val (.int i)] = .ok (.v (.bl true)) [] := by
  unfold m_is_integer mDef b_is_integer
  simp [mRet, mAndV, mNotV, mTst, mIsi, mVar, R.bind, R.st, OV.fz, OB.get, Tst.of, tst_int, tst_bool, tb, bD, retV, okD, ioOf]
theorem within_ok (i a b : Int) : m_is_within [.val (.int i), .val (.int a), .val (.int b)] = .ok (.v (.bl (decide (a ≤ i ∧ i ≤ b)))) [] := by
  unfold m_is_within mDef b_is_within
  by_cases h : a ≤ i <;> simp [mRet, mAndV, mTst, mVar, R.bind, R.st, OV.fz, OB.get, tb, bD, retV, okD, ioOf, mCall, mArg, mNil, esc, toArgs, ioPos, ioSl, isint_ok, putO, rvOV, mChain, opD, e_le, ap2, rz, h]
theorem stage_ok (i : Int) : m_is_stage [.val (.int i)] = .ok (.v (.bl (decide (3 ≤ i ∧ i ≤ 8)))) [] := by
  unfold m_is_stage mDef b_is_stage
  simp [mRet, mVar, mC, R.bind, R.st, OV.fz, retV, okD, ioOf, mCall, mArg, mNil, esc, toArgs, ioPos, ioSl, within_ok, putO, rvOV]
theorem istuple_ok {r : List Int} {x : D} (h : Hd r x) : m_is_tuple [.val x] = .ok (.v (.bl true)) [] := by
  unfold m_is_tuple mDef b_is_tuple
  rcases h with rfl | rfl <;> simp [mRet, mVar, mIsi, R.bind, R.st, OV.fz, OB.get, Tst.of, tst_tuple_list, retV, okD, ioOf]
theorem rgOk_n {n : Nat} (h8 : n ≤ 8) : rgOk 1 ((n : Int) + 1) = true := by
  unfold rgOk
  exact decide_eq_true ⟨by omega, by omega, by omega, by omega, by omega⟩
theorem isrow_1 {n : Nat} {r : List Int} {x : D} (h3 : 3 ≤ n) (h8 : n ≤ 8) (hr : Row n r) (h : Hd r x) : b_is_row_1 [.val x, .val (.int n), .un] = .nx [.val x, .val (.int n), .un] := by
  have hl := hr.len
  have hb : r.length ≤ BIG := by unfold BIG; omega
  have hs : (3 : Int) ≤ n ∧ (n : Int) ≤ 8 := by omega
  have hx : dLen x = some (.int n) := by
    rcases h with rfl | rfl <;> simp [dLen, hl]
  have e1 : b_is_row_1 [.val x, .val (.int n), .un] = .nx [.val x, .val (.int n), .un] := by
    unfold b_is_row_1
    simp [mIfS, mOr, mNot, mTst, mVar, R.bind, R.st, OV.fz, OB.get, tb, mCall, mArg, mNil, esc, toArgs, ioPos, ioSl, stage_ok, hs, istuple_ok h, putO, rvOV, mB, mCB, mCons, apN, getAll, g1, hx, rz, ap2, e_nint, mNext]
  exact e1
theorem isrow_2 {n : Nat} {r : List Int} {x : D} (h3 : 3 ≤ n) (h8 : n ≤ 8) (hr : Row n r) (h : Hd r x) : b_is_row_2 [.val x, .val (.int n), .un] = .nx [.val x, .val (.int n), .un] := by
  have hl := hr.len
  have hb : r.length ≤ BIG := by unfold BIG; omega
  have hs : (3 : Int) ≤ n ∧ (n : Int) ≤ 8 := by omega
  have hx : dLen x = some (.int n) := by
    rcases h with rfl | rfl <;> simp [dLen, hl]
  have e2c : mComp [2] (mSeqI (mVar 0)) (gN 2) mYes (mCall [] m_is_integer [] (mArg (mVar 2) mNil)) [.val x, .val (.int n), .un] = .ok (.n (.lst ((zs r).map fun _ => D.bl true))) [.val x, .val (.int n), .un] :=
    comp_map (f := fun _ => D.bl true) rfl (by rcases h with rfl | rfl <;> simp [mSeqI, mVar, R.bind, OV.fz, esc, itD]) (fun d hd => by
      obtain ⟨i, _, rfl⟩ := List.mem_map.mp hd
      refine ⟨.d (.bl true), ?_, rfl⟩
      simp [mCall, mArg, mVar, R.bind, OV.fz, esc, mNil, toArgs, ioPos, ioSl, isint_ok, putO, rvOV]) (by simpa using hb)
  have e2a : dAll (.lst ((zs r).map fun _ => D.bl true)) = some (.bl true) := by
    have : (zs r).map (fun _ => D.bl true) = (r.map fun _ => true).map D.bl := by simp
    rw [this, all_lst]
    simp
  have e2 : b_is_row_2 [.val x, .val (.int n), .un] = .nx [.val x, .val (.int n), .un] := by
    unfold b_is_row_2
    simp only [mIfS, mNot, mTst, mCB, mCons, e2c, mNil, R.bind, OV.fz, apN, getAll, OB.get, Ow.d, g1, e2a, rz, tb, R.st]
    rfl
  exact e2
theorem rgD_n (n : Nat) : rgD 1 ((n : Int) + 1) = zs (up n) := by
  rw [rgD_up (by omega)]
  simp
theorem rg_ok {n : Nat} (h8 : n ≤ 8) {k : Int → Int → En → R OV} {ρ : En} {ma mb : EM} (h1 : ma ρ = .ok (.d (.int 1)) ρ) (h2 : mb ρ = .ok (.d (.int ((n : Int) + 1))) ρ) : mRg2 ma mb k ρ = k 1 ((n : Int) + 1) ρ := by
  have h := rgOk_n h8
  unfold mRg2
  rw [h1]
  simp only [R.bind]
  rw [h2]
  simp only [OV.fz, obI, OB.get, kRg]
  rw [h]
  simp only [if_true]
theorem sorted_row {n : Nat} {r : List Int} {x : D} (hr : Row n r) (h : Hd r x) : dSorted x = some (.lst (zs (up n))) := by
  have hq : seqD x = some (zs r) := by rcases h with rfl | rfl <;> rfl
  unfold dSorted
  rw [hq, Option.bind_some, intsD_zs, Option.map_some, hr.sorted]
theorem isrow_3b {n : Nat} {x : D} (h8 : n ≤ 8) (e3s : dSorted x = some (.lst (zs (up n)))) : mCBn (g1n dSorted) (mCons (mVar 0) mNil) [.val x, .val (.int n), .un] = .ok (.n (.lst (zs (up n)))) [.val x, .val (.int n), .un] := by
  simp [mCBn, mCons, mVar, mNil, R.bind, OV.fz, apNn, getAll, OB.get, g1n, e3s, rn]
theorem eq_expr {ma mb : EM} {a b : List Int} {ρ : En} (h1 : ma ρ = .ok (.n (.lst (zs a))) ρ) (h2 : mb ρ = .ok (.n (.lst (zs b))) ρ) : mRet (mB dEq ma mb) ρ = .rt (.v (.bl (decide (a = b)))) ρ := by
  have he := eq_lst a b
  unfold mRet mB
  rw [h1]
  simp only [R.bind]
  rw [h2]
  simp only [R.bind, OV.fz, Ow.d, ap2, OB.get]
  rw [he]
  rfl
theorem plus1 {n : Nat} {x : D} : mB dAdd (mVar 1) (mC (.int 1)) [.val x, .val (.int n), .un] = .ok (.d (.int ((n : Int) + 1))) [.val x, .val (.int n), .un] := by
  simp [mB, mVar, mC, R.bind, OV.fz, OB.get, ap2, rz, e_add]
theorem isrow_3a {n : Nat} {x : D} (h8 : n ≤ 8) : mRg2 (mC (.int 1)) (mB dAdd (mVar 1) (mC (.int 1))) rgLst [.val x, .val (.int n), .un] = .ok (.n (.lst (zs (up n)))) [.val x, .val (.int n), .un] := by
  rw [rg_ok (k := rgLst) (ma := mC (.int 1)) h8 rfl plus1, rgLst, rgD_n]
theorem isrow_3 {n : Nat} {r : List Int} {x : D} (h3 : 3 ≤ n) (h8 : n ≤ 8) (hr : Row n r) (h : Hd r x) : b_is_row_3 [.val x, .val (.int n), .un] = .rt (.v (.bl true)) [.val x, .val (.int n), .un] := by
  unfold b_is_row_3
  rw [eq_expr (isrow_3b h8 (sorted_row hr h)) (isrow_3a h8)]
  rw [decide_eq_true rfl]
theorem isrow_ok {n : Nat} {r : List Int} {x : D} (h3 : 3 ≤ n) (h8 : n ≤ 8) (hr : Row n r) (h : Hd r x) : m_is_row [.val x, .val (.int n)] = .ok (.v (.bl true)) [] := by
  have e1 := isrow_1 h3 h8 hr h
  have e2 := isrow_2 h3 h8 hr h
  have e3 := isrow_3 h3 h8 hr h
  unfold m_is_row mDef b_is_row
  show (match mSeq b_is_row_1 (mSeq b_is_row_2 b_is_row_3) [.val x, .val (.int n), .un] with | .rt r ρ => okD [] r ρ | .nx ρ => okD [] (.v .non) ρ | .ex x ρ => (match ioOf [] ρ with | some os => .ex x os | none => .bad) | _ => .bad) = _
  simp only [mSeq, e1, e2, e3]
  rfl
theorem judge_ok {n : Nat} {r : List Int} {x : D} (h3 : 3 ≤ n) (h8 : n ≤ 8) (hr : Row n r) (h : Hd r x) : m_judge_row [.val x] = .ok (.v .non) [] := by
  have hx : dLen x = some (.int n) := by
    have hl := hr.len
    rcases h with rfl | rfl <;> simp [dLen, hl]
  unfold m_judge_row mDef b_judge_row
  simp [mIfS, mOr, mNot, mTst, mVar, R.bind, R.st, OV.fz, OB.get, tb, mCall, mArg, mNil, esc, toArgs, ioPos, ioSl, istuple_ok h, isrow_ok h3 h8 hr h, putO, rvOV, mCB, mCons, apN, getAll, g1, hx, rz, mNext, okD, ioOf]
theorem judges_ok {n : Nat} {r m : List Int} {x y : D} (h3 : 3 ≤ n) (h8 : n ≤ 8) (hr : Row n r) (hm : Row n m) (h : Hd r x) (k : Hd m y) : m_judge_rows [.val x, .val y] = .ok (.v .non) [] := by
  have hx : dLen x = some (.int n) := by
    have hl := hr.len
    rcases h with rfl | rfl <;> simp [dLen, hl]
  have hy : dLen y = some (.int n) := by
    have hl := hm.len
    rcases k with rfl | rfl <;> simp [dLen, hl]
  unfold m_judge_rows mDef b_judge_rows b_judge_rows_1 b_judge_rows_2 b_judge_rows_3
  simp [mSeq, mDrop, mIfS, mTst, mVar, R.bind, R.st, OV.fz, OB.get, tb, mCall, mArg, mNil, esc, toArgs, ioPos, ioSl, judge_ok h3 h8 hr h, judge_ok h3 h8 hm k, putO, rvOV, mCB, mCons, apN, getAll, g1, hx, hy, rz, mNext, okD, ioOf, mB, ap2, e_nint]
/-- the entry at the place p, from 1 -/
def nth (r : List Int) (p : Int) : Int := r.getD (p - 1).toNat 0
/-- the row moved -/
def comp (r m : List Int) : List Int := m.map (nth r)
theorem Row.mem {n : Nat} {r : List Int} (h : Row n r) {p : Int} : p ∈ r ↔ 1 ≤ p ∧ p ≤ n := by
  rw [h.mem_iff]
  unfold up
  simp only [List.mem_map, List.mem_range]
  constructor
  · rintro ⟨i, hi, rfl⟩
    omega
  · rintro ⟨h1, h2⟩
    exact ⟨(p - 1).toNat, by omega, by omega⟩
theorem at_nth {r : List Int} {p : Int} (h1 : 1 ≤ p) (h2 : p ≤ r.length) : L2.atI (zs r) (p - 1) = some (.int (nth r p)) := by
  unfold L2.atI L2.ixN nth zs
  rw [List.length_map, if_pos (by omega), if_pos (by omega)]
  have h3 : (p - 1).toNat < r.length := by omega
  show (r.map D.int)[(p - 1).toNat]? = _
  rw [List.getElem?_map, List.getElem?_eq_getElem h3, List.getD_eq_getElem?_getD, List.getElem?_eq_getElem h3]
  rfl
theorem compose_ok {n : Nat} {r m : List Int} {x y : D} (hn : n ≤ 8) (hr : r.length = n) (hm : ∀ p ∈ m, 1 ≤ p ∧ p ≤ n) (hl : m.length ≤ 8) (h : Hd r x) (k : Hd m y) : m_compose [.val x, .val y] = .ok (.v (.tup (zs (comp r m)))) [] := by
  have hc : mComp [2] (mSeqI (mVar 1)) (gN 2) mYes (mB dIx (mVar 0) (mB dSub (mVar 2) (mC (.int 1)))) [.val x, .val y, .un] = .ok (.n (.lst ((zs m).map fun d => match d with | .int p => .int (nth r p) | _ => .non))) [.val x, .val y, .un] :=
    comp_map rfl (by rcases k with rfl | rfl <;> simp [mSeqI, mVar, R.bind, OV.fz, esc, itD]) (fun d hd => by
      obtain ⟨p, hp, rfl⟩ := List.mem_map.mp hd
      have := hm p hp
      refine ⟨.d (.int (nth r p)), ?_, rfl⟩
      have hat := at_nth (r := r) (p := p) (by omega) (by omega)
      rcases h with rfl | rfl <;> simp [mB, mVar, mC, R.bind, OV.fz, OB.get, ap2, rz, e_sub, dIx, hat]) (by simp; unfold BIG; omega)
  unfold m_compose mDef b_compose
  show (match (mRet (mCB (g1 dTupOf) (mCons (mComp [2] (mSeqI (mVar 1)) (gN 2) mYes (mB dIx (mVar 0) (mB dSub (mVar 2) (mC (.int 1))))) mNil))) [.val x, .val y, .un] with | .rt r ρ => okD [] r ρ | .nx ρ => okD [] (.v .non) ρ | .ex x ρ => (match ioOf [] ρ with | some os => .ex x os | none => .bad) | _ => .bad) = _
  simp only [mRet, mCB, mCons, hc, mNil, R.bind, R.st, OV.fz, apN, getAll, OB.get, Ow.d, g1, dTupOf, rz, retV, okD, ioOf]
  unfold comp zs
  simp
theorem moved_ok {n : Nat} {r m : List Int} {x y : D} (h3 : 3 ≤ n) (h8 : n ≤ 8) (hr : Row n r) (hm : Row n m) (h : Hd r x) (k : Hd m y) : m_moved [.val x, .val y] = .ok (.v (.tup (zs (comp r m)))) [] := by
  have hc := compose_ok (n := n) h8 hr.len (fun p hp => hm.mem.mp hp) (by rw [hm.len]; exact h8) h k
  unfold m_moved mDef b_moved b_moved_1 b_moved_2
  simp [mSeq, mDrop, mVar, R.bind, R.st, OV.fz, mCall, mArg, mNil, esc, toArgs, ioPos, ioSl, judges_ok h3 h8 hr hm h k, hc, putO, rvOV, mRet, retV, okD, ioOf]
theorem renamed_ok {n : Nat} {r m : List Int} {x y : D} (h3 : 3 ≤ n) (h8 : n ≤ 8) (hr : Row n r) (hm : Row n m) (h : Hd r x) (k : Hd m y) : m_renamed [.val x, .val y] = .ok (.v (.tup (zs (comp m r)))) [] := by
  have hc := compose_ok (n := n) h8 hm.len (fun p hp => hr.mem.mp hp) (by rw [hr.len]; exact h8) k h
  unfold m_renamed mDef b_renamed b_renamed_1 b_renamed_2
  simp [mSeq, mDrop, mVar, R.bind, R.st, OV.fz, mCall, mArg, mNil, esc, toArgs, ioPos, ioSl, judges_ok h3 h8 hr hm h k, hc, putO, rvOV, mRet, retV, okD, ioOf]
end K01
set_option Elab.async false
set_option linter.all false
set_option maxRecDepth 100000
set_option maxHeartbeats 4000000
namespace K01
open PySem Mi
/-- the place of the bell b, from 1 -/
def pos (r : List Int) (b : Int) : Int := (r.idxOf b : Int) + 1
theorem idxD_zs (b : Int) : ∀ {r : List Int}, b ∈ r → idxD (.int b) (zs r) = some (r.idxOf b)
  | [], h => by cases h
  | a :: r, h => by
    show (if (D.int a).eqf (.int b) then some 0 else (idxD (.int b) (zs r)).map (· + 1)) = _
    rw [show (D.int a).eqf (.int b) = (a == b) from rfl, List.idxOf_cons]
    by_cases c : a = b
    · subst c
      simp
    · have hb : (a == b) = false := by simpa using c
      have hm : b ∈ r := by
        rcases List.mem_cons.mp h with e | e
        · exact absurd e.symm c
        · exact e
      rw [hb, idxD_zs b hm]
      simp
theorem flat_zs (r : List Int) : (zs r).all D.flat = true := by
  simp [D.flat]
theorem dIndex_ok {r : List Int} {b : Int} {x : D} (h : Hd r x) (hb : b ∈ r) : dIndex x (.int b) = some (.int (r.idxOf b : Nat)) := by
  unfold dIndex
  have : seqD x = some (zs r) := by rcases h with rfl | rfl <;> rfl
  rw [this]
  show (if (D.int b).flat && (zs r).all D.flat then (idxD (.int b) (zs r)).map fun (j : Nat) => D.int (j : Nat) else none) = _
  rw [flat_zs, idxD_zs b hb]
  rfl
/-- x.index(b), both in plain names -/
theorem index_ok {r : List Int} {b : Int} {x : D} {ρ : En} {mo ma : EM} (h : Hd r x) (hb : b ∈ r) (h1 : mo ρ = .ok (.d x) ρ) (h2 : ma ρ = .ok (.d (.int b)) ρ) : mIndex mo ma ρ = .ok (.d (.int (r.idxOf b : Nat))) ρ := by
  have hd := dIndex_ok h hb
  unfold mIndex mAlt mMT mML
  rcases h with rfl | rfl <;> simp [h1, h2, R.bind, OV.fz, OB.get, isTupB, isLstB, ap2, hd, rz]
/-- the step from r to m -/
def way (r m : List Int) : List Int := m.map (pos r)
theorem between_ok {n : Nat} {r m : List Int} {x y : D} (hm : ∀ p ∈ m, p ∈ r) (hl : m.length ≤ 8) (h : Hd r x) (k : Hd m y) : m_step_between [.val x, .val y] = .ok (.v (.tup (zs (way r m)))) [] := by
  have hc : mComp [2] (mSeqI (mVar 1)) (gN 2) mYes (mB dAdd (mIndex (mVar 0) (mVar 2)) (mC (.int 1))) [.val x, .val y, .un] = .ok (.n (.lst ((zs m).map fun d => match d with | .int p => .int (pos r p) | _ => .non))) [.val x, .val y, .un] :=
    comp_map rfl (by rcases k with rfl | rfl <;> simp [mSeqI, mVar, R.bind, OV.fz, esc, itD]) (fun d hd => by
      obtain ⟨p, hp, rfl⟩ := List.mem_map.mp hd
      refine ⟨.d (.int (pos r p)), ?_, rfl⟩
      have hi := index_ok (ρ := [Sl.val x, .val y, .val (.int p)]) (mo := mVar 0) (ma := mVar 2) h (hm p hp) (by simp [mVar]) (by simp [mVar])
      show mB dAdd (mIndex (mVar 0) (mVar 2)) (mC (.int 1)) [Sl.val x, .val y, .val (.int p)] = _
      simp only [mB, hi, mC, R.bind, OV.fz, OB.get, ap2, rz, e_add, pos]
      rfl) (by simp; unfold BIG; omega)
  unfold m_step_between mDef b_step_between
  show (match (mRet (mCB (g1 dTupOf) (mCons (mComp [2] (mSeqI (mVar 1)) (gN 2) mYes (mB dAdd (mIndex (mVar 0) (mVar 2)) (mC (.int 1)))) mNil))) [.val x, .val y, .un] with | .rt r ρ => okD [] r ρ | .nx ρ => okD [] (.v .non) ρ | .ex x ρ => (match ioOf [] ρ with | some os => .ex x os | none => .bad) | _ => .bad) = _
  simp only [mRet, mCB, mCons, hc, mNil, R.bind, R.st, OV.fz, apN, getAll, OB.get, Ow.d, g1, dTupOf, rz, retV, okD, ioOf]
  unfold way zs
  simp
theorem step_ok {n : Nat} {r m : List Int} {x y : D} (h3 : 3 ≤ n) (h8 : n ≤ 8) (hr : Row n r) (hm : Row n m) (h : Hd r x) (k : Hd m y) : m_step [.val x, .val y] = .ok (.v (.tup (zs (way r m)))) [] := by
  have hc := between_ok (n := n) (fun p hp => hr.mem.mpr (hm.mem.mp hp)) (by rw [hm.len]; exact h8) h k
  unfold m_step mDef b_step b_step_1 b_step_2
  simp [mSeq, mDrop, mVar, R.bind, R.st, OV.fz, mCall, mArg, mNil, esc, toArgs, ioPos, ioSl, judges_ok h3 h8 hr hm h k, hc, putO, rvOV, mRet, retV, okD, ioOf]
theorem inverse_ok {n : Nat} {r : List Int} {x : D} (h8 : n ≤ 8) (hr : Row n r) (h : Hd r x) : m_inverse [.val x] = .ok (.v (.tup (zs (way r (up n))))) [] := by
  have hx : dLen x = some (.int n) := by
    have hl := hr.len
    rcases h with rfl | rfl <;> simp [dLen, hl]
  have hu : rgD 1 ((n : Int) + 1) = zs (up n) := by
    rw [rgD_up (by omega)]
    simp
  have hi : mRng2 (mC (.int 1)) (mB dAdd (mCB (g1 dLen) (mCons (mVar 0) mNil)) (mC (.int 1))) [.val x, .un] = .ok ((zs (up n)).map .one) [.val x, .un] := by
    have : -4611686018427387904 ≤ (n : Int) + 1 ∧ (n : Int) + 1 < 4611686018427387904 := by omega
    simp [mRng2, mC, mB, mCB, mCons, mVar, mNil, R.bind, OV.fz, apN, getAll, OB.get, g1, hx, rz, ap2, e_add, rgI, this, hu]
  have hc : mComp [1] (mRng2 (mC (.int 1)) (mB dAdd (mCB (g1 dLen) (mCons (mVar 0) mNil)) (mC (.int 1)))) (gN 1) mYes (mB dAdd (mIndex (mVar 0) (mVar 1)) (mC (.int 1))) [.val x, .un] = .ok (.n (.lst ((zs (up n)).map fun d => match d with | .int p => .int (pos r p) | _ => .non))) [.val x, .un] :=
    comp_map rfl hi (fun d hd => by
      obtain ⟨p, hp, rfl⟩ := List.mem_map.mp hd
      refine ⟨.d (.int (pos r p)), ?_, rfl⟩
      have hi := index_ok (ρ := [Sl.val x, .val (.int p)]) (mo := mVar 0) (ma := mVar 1) h (hr.mem_iff.mpr hp) (by simp [mVar]) (by simp [mVar])
      show mB dAdd (mIndex (mVar 0) (mVar 1)) (mC (.int 1)) [Sl.val x, .val (.int p)] = _
      simp only [mB, hi, mC, R.bind, OV.fz, OB.get, ap2, rz, e_add, pos]
      rfl) (by simp [up_len]; unfold BIG; omega)
  unfold m_inverse mDef b_inverse
  show (match (mRet (mCB (g1 dTupOf) (mCons (mComp [1] (mRng2 (mC (.int 1)) (mB dAdd (mCB (g1 dLen) (mCons (mVar 0) mNil)) (mC (.int 1)))) (gN 1) mYes (mB dAdd (mIndex (mVar 0) (mVar 1)) (mC (.int 1)))) mNil))) [.val x, .un] with | .rt r ρ => okD [] r ρ | .nx ρ => okD [] (.v .non) ρ | .ex x ρ => (match ioOf [] ρ with | some os => .ex x os | none => .bad) | _ => .bad) = _
  simp only [mRet, mCB, mCons, hc, mNil, R.bind, R.st, OV.fz, apN, getAll, OB.get, Ow.d, g1, dTupOf, rz, retV, okD, ioOf]
  unfold way zs
  simp
theorem undone_ok {n : Nat} {r : List Int} {x : D} (h3 : 3 ≤ n) (h8 : n ≤ 8) (hr : Row n r) (h : Hd r x) : m_undone [.val x] = .ok (.v (.tup (zs (way r (up n))))) [] := by
  unfold m_undone mDef b_undone b_undone_1 b_undone_2
  simp [mSeq, mDrop, mVar, R.bind, R.st, OV.fz, mCall, mArg, mNil, esc, toArgs, ioPos, ioSl, judge_ok h3 h8 hr h, inverse_ok h8 hr h, putO, rvOV, mRet, retV, okD, ioOf]
end K01
set_option Elab.async false
set_option linter.all false
set_option maxRecDepth 100000
set_option maxHeartbeats 4000000
namespace K01
open PySem Mi
/-! the algebra of rows -/
theorem up_nodup (n : Nat) : (up n).Nodup := by
  unfold up
  refine List.Pairwise.map _ ?_ (List.nodup_range (n := n))
  intro a b h e
  omega
theorem Row.nodup {n : Nat} {r : List Int} (h : Row n r) : r.Nodup := h.nodup_iff.mpr (up_nodup n)
theorem up_at {n i : Nat} (h : i < n) : (up n)[i]'(by rw [up_len]; exact h) = 1 + (i : Int) := by
  unfold up
  simp
theorem nth_eq {r : List Int} {i : Nat} (h : i < r.length) : nth r (1 + (i : Int)) = r[i] := by
  unfold nth
  have : (1 + (i : Int) - 1).toNat = i := by omega
  rw [this]
  simp [List.getD, h]
theorem nth_pos {r : List Int} {b : Int} (h : b ∈ r) : nth r (pos r b) = b := by
  unfold nth pos
  have : ((r.idxOf b : Int) + 1 - 1).toNat = r.idxOf b := by omega
  rw [this]
  have hi : r.idxOf b < r.length := List.idxOf_lt_length_of_mem h
  rw [List.getD_eq_getElem?_getD, List.getElem?_eq_getElem hi]
  simp
theorem pos_nth {r : List Int} (hn : r.Nodup) {p : Int} (h1 : 1 ≤ p) (h2 : p ≤ r.length) : pos r (nth r p) = p := by
  have hp : (p - 1).toNat < r.length := by omega
  have e : nth r p = r[(p - 1).toNat] := by
    unfold nth
    rw [List.getD_eq_getElem?_getD, List.getElem?_eq_getElem hp]
    rfl
  unfold pos
  rw [e, List.Nodup.idxOf_getElem hn]
  omega
theorem nth_mem {r : List Int} {p : Int} (h1 : 1 ≤ p) (h2 : p ≤ r.length) : nth r p ∈ r := by
  have hp : (p - 1).toNat < r.length := by omega
  unfold nth
  rw [List.getD_eq_getElem?_getD, List.getElem?_eq_getElem hp]
  exact List.getElem_mem hp
theorem pos_bound {r : List Int} {b : Int} (h : b ∈ r) : 1 ≤ pos r b ∧ pos r b ≤ r.length := by
  have hi : r.idxOf b < r.length := List.idxOf_lt_length_of_mem h
  unfold pos
  omega
theorem map_nth_up {r : List Int} : (up r.length).map (nth r) = r := by
  refine List.ext_getElem (by simp [up_len]) fun i h1 h2 => ?_
  rw [List.getElem_map]
  have hi : i < r.length := h2
  rw [up_at hi, nth_eq hi]
theorem comp_up {n : Nat} {r : List Int} (h : Row n r) : comp r (up n) = r := by
  unfold comp
  rw [← h.len, map_nth_up]
theorem nth_up {n : Nat} {p : Int} (h1 : 1 ≤ p) (h2 : p ≤ n) : nth (up n) p = p := by
  have hp : (p - 1).toNat < n := by omega
  have := nth_eq (r := up n) (i := (p - 1).toNat) (by rw [up_len]; exact hp)
  have e : 1 + ((p - 1).toNat : Int) = p := by omega
  rw [e, up_at hp, e] at this
  exact this
theorem up_comp {n : Nat} {r : List Int} (h : Row n r) : comp (up n) r = r := by
  unfold comp
  refine (List.map_congr_left (g := id) fun p hp => ?_).trans (List.map_id r)
  have := h.mem.mp hp
  exact nth_up this.1 this.2
theorem Row.comp {n : Nat} {r m : List Int} (hr : Row n r) (hm : Row n m) : Row n (comp r m) := by
  have h1 : (K01.comp r m).Perm ((up n).map (nth r)) := List.Perm.map _ hm
  have h2 : (up n).map (nth r) = r := comp_up hr
  rw [h2] at h1
  exact h1.trans hr
theorem nth_comp {r m : List Int} {p : Int} (h1 : 1 ≤ p) (h2 : p ≤ m.length) : nth (comp r m) p = nth r (nth m p) := by
  have hp : (p - 1).toNat < m.length := by omega
  unfold comp
  rw [nth, List.getD_eq_getElem?_getD, List.getElem?_map, List.getElem?_eq_getElem hp]
  show nth r m[(p - 1).toNat] = _
  have : nth m p = m[(p - 1).toNat] := by
    unfold nth
    rw [List.getD_eq_getElem?_getD, List.getElem?_eq_getElem hp]
    rfl
  rw [this]
theorem comp_assoc {n : Nat} {r m o : List Int} (hm : Row n m) (ho : Row n o) : comp (comp r m) o = comp r (comp m o) := by
  unfold comp
  rw [List.map_map]
  refine List.map_congr_left fun p hp => ?_
  have := ho.mem.mp hp
  exact nth_comp this.1 (by rw [hm.len]; exact this.2)
theorem Row.way {n : Nat} {r m : List Int} (hr : Row n r) (hm : Row n m) : Row n (way r m) := by
  have h1 : (K01.way r m).Perm (r.map (pos r)) := List.Perm.map _ (hm.trans hr.symm)
  have h2 : r.map (pos r) = up n := by
    rw [← comp_up hr]
    unfold K01.comp
    rw [List.map_map]
    refine (List.map_congr_left (g := id) fun p hp => ?_).trans (List.map_id _)
    have hp' : 1 ≤ p ∧ p ≤ n := (show Row n (up n) from .refl _).mem.mp hp
    have hmap : (up n).map (nth r) = r := comp_up hr
    rw [hmap]
    exact pos_nth hr.nodup hp'.1 (by rw [hr.len]; exact hp'.2)
  rw [h2] at h1
  exact h1
theorem comp_way {n : Nat} {r m : List Int} (hr : Row n r) (hm : Row n m) : comp r (way r m) = m := by
  unfold comp way
  rw [List.map_map]
  refine (List.map_congr_left (g := id) fun b hb => ?_).trans (List.map_id _)
  exact nth_pos (hr.mem.mpr (hm.mem.mp hb))
theorem row_up (n : Nat) : Row n (up n) := .refl _
/-- a row undone -/
def und (n : Nat) (r : List Int) : List Int := way r (up n)
theorem und_row {n : Nat} {r : List Int} (hr : Row n r) : Row n (und n r) := hr.way (row_up n)
theorem comp_und {n : Nat} {r : List Int} (hr : Row n r) : comp r (und n r) = up n := comp_way hr (row_up n)
theorem und_comp {n : Nat} {r : List Int} (hr : Row n r) : comp (und n r) r = up n := by
  have h : comp (und n r) r = r.map (nth (und n r)) := rfl
  have e : ∀ p, 1 ≤ p → p ≤ (n : Int) → nth (und n r) p = pos r p := fun p h1 h2 => by
    have hp : (p - 1).toNat < (up n).length := by rw [up_len]; omega
    unfold und way
    rw [nth, List.getD_eq_getElem?_getD, List.getElem?_map, List.getElem?_eq_getElem hp]
    show pos r (up n)[(p - 1).toNat] = _
    rw [up_at (by omega)]
    congr 1
    omega
  have h2 : r.map (nth (und n r)) = r.map (pos r) := List.map_congr_left fun p hp => by
    have := hr.mem.mp hp
    exact e p this.1 this.2
  have h3 : r.map (pos r) = up n := by
    rw [show r.map (pos r) = ((up n).map (nth r)).map (pos r) from by rw [show (up n).map (nth r) = r from comp_up hr], List.map_map]
    refine (List.map_congr_left (g := id) fun p hp => ?_).trans (List.map_id _)
    have hp' := (row_up n).mem.mp hp
    exact pos_nth hr.nodup hp'.1 (by rw [hr.len]; exact hp'.2)
  rw [h, h2, h3]
theorem und_und {n : Nat} {r : List Int} (hr : Row n r) : und n (und n r) = r := by
  have h1 := und_row hr
  have h2 := und_row h1
  have h3 : comp (comp r (und n r)) (und n (und n r)) = comp r (comp (und n r) (und n (und n r))) := comp_assoc h1 h2
  rw [comp_und hr, comp_und h1, up_comp h2, comp_up hr] at h3
  exact h3
end K01
set_option Elab.async false
set_option linter.all false
set_option maxRecDepth 100000
set_option maxHeartbeats 4000000
namespace K01
open PySem Mi
/-! the law's own comparison, on things that are the same -/
theorem lint_ok (i : Int) : m__law_is_int [.val (.int i)] = .ok (.v (.bl true)) [] := by
  unfold m__law_is_int mDef b__law_is_int
  simp [mRet, mAndV, mNotV, mTst, mIsi, mVar, R.bind, R.st, OV.fz, OB.get, Tst.of, tst_int, tst_bool, tb, bD, retV, okD, ioOf]
def Same1 (k : Nat) (x : D) : Prop := m__law_same k [.val x, .val x] = .ok (.v (.bl true)) []
theorem same_int (k : Nat) (i : Int) : Same1 (k + 1) (.int i) := by
  unfold Same1 m__law_same mDef b__law_same b__law_same_1 b__law_same_2 b__law_same_3
  simp [mSeq, mIfS, mOr, mTst, mIsi, mVar, mC, mB, R.bind, R.st, OV.fz, OB.get, Tst.of, tst_tuple, tb, mNext, dIsA, isBlD, ap2, rz, mRet, mAndV, mCall, mArg, mNil, esc, toArgs, ioPos, ioSl, lint_ok, putO, rvOV, e_int, retV, okD, ioOf]
theorem eq_bl (b : Bool) : dEq (.bl b) (.bl b) = some (.bl true) := by
  cases b <;> rfl
theorem same_bl (k : Nat) (b : Bool) : Same1 (k + 1) (.bl b) := by
  unfold Same1 m__law_same mDef b__law_same b__law_same_1 b__law_same_2 b__law_same_3
  cases b <;> simp [mSeq, mIfS, mOr, mTst, mIsi, mVar, mC, mB, R.bind, R.st, OV.fz, OB.get, Tst.of, tst_tuple, tst_bool, tb, mNext, dIsA, isBlD, ap2, rz, mRet, mAndV, eq_bl, retV, okD, ioOf]
theorem compL_same {self : List Sl → DR} {x y : D} : ∀ {xs acc : List D}, (∀ d ∈ xs, self [.val d, .val d] = .ok (.v (.bl true)) []) → acc.length + xs.length ≤ BIG →
    compL [2, 3] (gT [2, 3]) mYes (mCall [] self [] (mArg (mVar 2) (mArg (mVar 3) mNil))) (zipL xs xs) acc [.val x, .val y, .un, .un] = .ok (acc ++ xs.map fun _ => D.bl true) [.val x, .val y, .un, .un]
  | [], acc, _, _ => by simp [zipL, compL]
  | d :: xs, acc, hf, hl => by
    have hd := hf d (List.mem_cons_self ..)
    have hl2 : acc.length < BIG := by
      rw [List.length_cons] at hl
      omega
    have ih := compL_same (self := self) (x := x) (y := y) (xs := xs) (acc := acc ++ [D.bl true]) (fun e he => hf e (List.mem_cons_of_mem _ he)) (by simp at hl ⊢; omega)
    have hz : zipL (d :: xs) (d :: xs) = .pair d d :: zipL xs xs := rfl
    rw [hz]
    unfold compL
    simp [gT, setAll, canSet, mYes, mCall, mArg, mVar, R.bind, OV.fz, esc, mNil, toArgs, ioPos, ioSl, hd, putO, rvOV, hl2, wipeE]
    rw [ih]
    simp
theorem same_tup {k : Nat} {xs : List D} (h : ∀ d ∈ xs, Same1 k d) (hl : xs.length ≤ BIG) : Same1 (k + 1) (.tup xs) := by
  have hc := compL_same (self := m__law_same k) (x := .tup xs) (y := .tup xs) (xs := xs) (acc := []) h (by simpa using hl)
  have hm : mComp [2, 3] (mZip (mVar 0) (mVar 1)) (gT [2, 3]) mYes (mCall [] (m__law_same k) [] (mArg (mVar 2) (mArg (mVar 3) mNil))) [.val (.tup xs), .val (.tup xs), .un, .un] = .ok (.n (.lst (xs.map fun _ => D.bl true))) [.val (.tup xs), .val (.tup xs), .un, .un] := by
    have hz : mZip (mVar 0) (mVar 1) [.val (.tup xs), .val (.tup xs), .un, .un] = .ok (zipL xs xs) [.val (.tup xs), .val (.tup xs), .un, .un] := by
      simp [mZip, mArg, mVar, R.bind, OV.fz, esc, mNil, sameKind, seqD]
    have hw : wipeE [Sl.val (.tup xs), .val (.tup xs), .un, .un] [2, 3] = [Sl.val (.tup xs), .val (.tup xs), .un, .un] := rfl
    have hr : restE [Sl.val (.tup xs), .val (.tup xs), .un, .un] [Sl.val (.tup xs), .val (.tup xs), .un, .un] [2, 3] = [Sl.val (.tup xs), .val (.tup xs), .un, .un] := rfl
    unfold mComp
    rw [hz]
    simp only [R.bind]
    rw [if_pos (by rfl), hw, hc]
    simp only [List.nil_append, hr]
  have ha : dAll (.lst (xs.map fun _ => D.bl true)) = some (.bl true) := by
    have : xs.map (fun _ => D.bl true) = (xs.map fun _ => true).map D.bl := by simp
    rw [this, all_lst]
    simp
  unfold Same1 m__law_same mDef b__law_same
  have e1 : b__law_same_1 (m__law_same k) [.val (.tup xs), .val (.tup xs), .un, .un] = .rt (.v (.bl true)) [.val (.tup xs), .val (.tup xs), .un, .un] := by
    unfold b__law_same_1
    simp [mSeq, mIfS, mOr, mNot, mTst, mIsi, mVar, mB, mCB, mCons, mNil, R.bind, R.st, OV.fz, OB.get, Tst.of, tst_tuple, tb, mNext, apN, getAll, g1, dLen, rz, ap2, e_nint, mRet, hm, Ow.d, ha, retV]
  show (match mSeq (b__law_same_1 (m__law_same k)) (mSeq (b__law_same_2 (m__law_same k)) (b__law_same_3 (m__law_same k))) [.val (.tup xs), .val (.tup xs), .un, .un] with | .rt r ρ => okD [] r ρ | .nx ρ => okD [] (.v .non) ρ | .ex x ρ => (match ioOf [] ρ with | some os => .ex x os | none => .bad) | _ => .bad) = _
  simp only [mSeq, e1]
  rfl
theorem same_row (k : Nat) {r : List Int} (h : r.length ≤ 8) : Same1 (k + 2) (.tup (zs r)) :=
  same_tup (fun d hd => by
    obtain ⟨i, _, rfl⟩ := List.mem_map.mp hd
    exact same_int k i) (by simp; unfold BIG; omega)
/-! rounds, and what is handed over -/
theorem mDef_rt {n : Nat} {b : SM} {as : List Sl} {r : RV} {ρ : En} (h : b (as ++ List.replicate (n - as.length) .un) = .rt r ρ) : mDef n [] b as = .ok r [] := by
  unfold mDef
  rw [h]
  rfl
theorem mRet_d {m : EM} {ρ ρ' : En} {d : D} (h : m ρ = .ok (.d d) ρ') : mRet m ρ = .rt (.v d) ρ' := by
  unfold mRet
  rw [h]
  rfl
theorem rgt_ok {n : Nat} (h8 : n ≤ 8) : mRg2 (mC (.int 1)) (mB dAdd (mVar 0) (mC (.int 1))) rgTup [.val (.int n)] = .ok (.d (.tup (zs (up n)))) [.val (.int n)] := by
  rw [rg_ok (k := rgTup) (ma := mC (.int 1)) h8 rfl (by simp [mB, mVar, mC, R.bind, OV.fz, OB.get, ap2, rz, e_add]), rgTup, rgD_n]
theorem lrounds_b {n : Nat} (h8 : n ≤ 8) : b__law_rounds [.val (.int n)] = .rt (.v (.tup (zs (up n)))) [.val (.int n)] := by
  unfold b__law_rounds
  exact mRet_d (rgt_ok h8)
theorem lrounds_ok {n : Nat} (h8 : n ≤ 8) : m__law_rounds [.val (.int n)] = .ok (.v (.tup (zs (up n)))) [] := by
  unfold m__law_rounds
  exact mDef_rt (lrounds_b h8)
theorem roundsof_b {n : Nat} (h8 : n ≤ 8) : b_rounds_of [.val (.int n)] = .rt (.v (.tup (zs (up n)))) [.val (.int n)] := by
  unfold b_rounds_of
  exact mRet_d (rgt_ok h8)
theorem roundsof_ok {n : Nat} (h8 : n ≤ 8) : m_rounds_of [.val (.int n)] = .ok (.v (.tup (zs (up n)))) [] := by
  unfold m_rounds_of
  exact mDef_rt (roundsof_b h8)
/-- calls that leave the frame as it is -/
theorem call1 {f : List Sl → DR} {ma : EM} {ρ : En} {v : OV} {a d : D} (h1 : ma ρ = .ok v ρ) (e1 : esc v.fz ρ = some (a, ρ)) (hf : f [.val a] = .ok (.v d) []) : mCall [] f [] (mArg ma mNil) ρ = .ok (.d d) ρ := by
  simp [mCall, mArg, mNil, R.bind, h1, e1, toArgs, ioPos, ioSl, hf, putO, rvOV]
theorem call2 {f : List Sl → DR} {ma mb : EM} {ρ : En} {v u : OV} {a b d : D} (h1 : ma ρ = .ok v ρ) (e1 : esc v.fz ρ = some (a, ρ)) (h2 : mb ρ = .ok u ρ) (e2 : esc u.fz ρ = some (b, ρ)) (hf : f [.val a, .val b] = .ok (.v d) []) : mCall [] f [] (mArg ma (mArg mb mNil)) ρ = .ok (.d d) ρ := by
  simp [mCall, mArg, mNil, R.bind, h1, e1, h2, e2, toArgs, ioPos, ioSl, hf, putO, rvOV]
theorem rounds_1 {n : Nat} (h3 : 3 ≤ n) (h8 : n ≤ 8) : b_rounds_1 [.val (.int n)] = .nx [.val (.int n)] := by
  have hs : decide ((3 : Int) ≤ n ∧ (n : Int) ≤ 8) = true := decide_eq_true (by omega)
  have hc := call1 (f := m_is_stage) (ma := mVar 0) (ρ := [.val (.int n)]) (v := .d (.int n)) rfl rfl (stage_ok n)
  rw [hs] at hc
  unfold b_rounds_1 mIfS mNot mTst
  rw [hc]
  rfl
theorem rounds_2 {n : Nat} (h8 : n ≤ 8) : b_rounds_2 [.val (.int n)] = .rt (.v (.tup (zs (up n)))) [.val (.int n)] := by
  unfold b_rounds_2
  exact mRet_d (call1 (f := m_rounds_of) (ma := mVar 0) (v := .d (.int n)) rfl rfl (roundsof_ok h8))
theorem rounds_b {n : Nat} (h3 : 3 ≤ n) (h8 : n ≤ 8) : b_rounds [.val (.int n)] = .rt (.v (.tup (zs (up n)))) [.val (.int n)] := by
  unfold b_rounds mSeq
  rw [rounds_1 h3 h8]
  exact rounds_2 h8
theorem rounds_ok {n : Nat} (h3 : 3 ≤ n) (h8 : n ≤ 8) : m_rounds [.val (.int n)] = .ok (.v (.tup (zs (up n)))) [] := by
  unfold m_rounds
  exact mDef_rt (rounds_b h3 h8)
theorem hand_ok {ns : List Int} {w : Ow} (hw : Dr ns w) (r : List Int) : ∃ w', Dr ns w' ∧ (m__law_hand [.own true w, .val (.tup (zs r))] = .ok (.v (.tup (zs r))) [w'] ∨ m__law_hand [.own true w, .val (.tup (zs r))] = .ok (.w (.lst (zs r))) [w']) := by
  obtain ⟨p, w', hw', h0, h1, hp⟩ := pick_ok hw (many := 2) (by omega) (by omega)
  refine ⟨w', hw', ?_⟩
  unfold m__law_hand mDef b__law_hand b__law_hand_1 b__law_hand_2
  by_cases e : p = 1
  · refine .inr ?_
    simp [mSeq, mIfS, mTst, mB, mCall, mLend, isOw, mArg, mC, mNil, R.bind, R.st, OV.fz, esc, toArgs, ioPos, ioSl, hp, putO, rvOV, OB.get, ap2, rz, e_int, e, tb, mRet, mCBn, mCons, mVar, apNn, getAll, g1n, dListOf, seqD, rn, retV, okD, ioOf]
  · refine .inl ?_
    simp [mSeq, mIfS, mTst, mB, mCall, mLend, isOw, mArg, mC, mNil, R.bind, R.st, OV.fz, esc, toArgs, ioPos, ioSl, hp, putO, rvOV, OB.get, ap2, rz, e_int, e, tb, mNext, mRet, mVar, retV, okD, ioOf]
end K01
set_option Elab.async false
set_option linter.all false
set_option maxRecDepth 100000
set_option maxHeartbeats 4000000
namespace K01
open PySem Mi
/-! small steps, one rule each -/
theorem tst_ok {m : EM} {ρ ρ' : En} {b : Bool} (h : m ρ = .ok (.d (.bl b)) ρ') : mTst m ρ = .ok b ρ' := by
  unfold mTst
  rw [h]
  rfl
theorem not_ok {c : TM} {ρ ρ' : En} {b : Bool} (h : c ρ = .ok b ρ') : mNot c ρ = .ok (!b) ρ' := by
  unfold mNot
  rw [h]
  rfl
theorem or_ff {a b : TM} {ρ ρ1 ρ2 : En} (h1 : a ρ = .ok false ρ1) (h2 : b ρ1 = .ok false ρ2) : mOr a b ρ = .ok false ρ2 := by
  unfold mOr
  rw [h1]
  simp only [R.bind]
  exact h2
theorem skip_ok {c : TM} {a : SM} {ρ ρ' : En} (h : c ρ = .ok false ρ') : mIfS c a mNext ρ = .nx ρ' := by
  unfold mIfS
  rw [h]
  rfl
theorem ne_ff {ma mb : EM} {ρ ρ1 ρ2 : En} {a : List Int} (h1 : ma ρ = .ok (.d (.tup (zs a))) ρ1) (h2 : mb ρ1 = .ok (.d (.tup (zs a))) ρ2) : mTst (mB dNe ma mb) ρ = .ok false ρ2 := by
  have he := ne_tup a a
  rw [decide_eq_true rfl] at he
  refine tst_ok ?_
  unfold mB
  rw [h1]
  simp only [R.bind]
  rw [h2]
  simp only [R.bind, OV.fz, ap2, OB.get]
  rw [he]
  rfl
/-- calls that may freeze an own list in the frame -/
theorem call1' {f : List Sl → DR} {ma : EM} {ρ ρ1 ρ2 : En} {v : OV} {a d : D} (h1 : ma ρ = .ok v ρ1) (e1 : esc v.fz ρ1 = some (a, ρ2)) (hf : f [.val a] = .ok (.v d) []) : mCall [] f [] (mArg ma mNil) ρ = .ok (.d d) ρ2 := by
  simp [mCall, mArg, mNil, R.bind, h1, e1, toArgs, ioPos, ioSl, hf, putO, rvOV]
theorem call2' {f : List Sl → DR} {ma mb : EM} {ρ ρ1 ρ2 ρ3 ρ4 : En} {v u : OV} {a b d : D} (h1 : ma ρ = .ok v ρ1) (e1 : esc v.fz ρ1 = some (a, ρ2)) (h2 : mb ρ2 = .ok u ρ3) (e2 : esc u.fz ρ3 = some (b, ρ4)) (hf : f [.val a, .val b] = .ok (.v d) []) : mCall [] f [] (mArg ma (mArg mb mNil)) ρ = .ok (.d d) ρ4 := by
  simp [mCall, mArg, mNil, R.bind, h1, e1, h2, e2, toArgs, ioPos, ioSl, hf, putO, rvOV]
/-- a slot that holds a row, perhaps as an own list; frozen -/
theorem slot_row {ρ : En} {i : Nat} {r : List Int} {s : Sl} (h : ρ[i]? = some s) (hs : s = .val (.tup (zs r)) ∨ s = .own false (.lst (zs r))) :
    ∃ v x, Hd r x ∧ mVar i ρ = .ok v ρ ∧ esc v.fz ρ = some (x, ρ.set i (.val x)) := by
  rcases hs with rfl | rfl
  · refine ⟨.d (.tup (zs r)), .tup (zs r), .inl rfl, by simp [mVar, h], ?_⟩
    have : ρ.set i (.val (.tup (zs r))) = ρ := by
      have hv : i < ρ.length := (List.getElem?_eq_some_iff.mp h).1
      have := (List.getElem?_eq_some_iff.mp h).2
      rw [← this, List.set_getElem_self]
    rw [this]
    rfl
  · refine ⟨.o i, .lst (zs r), .inr rfl, by simp [mVar, h], ?_⟩
    simp [OV.fz, esc, h, Ow.d]
theorem var_val {ρ : En} {i : Nat} {d : D} (h : ρ[i]? = some (.val d)) : mVar i ρ = .ok (.d d) ρ := by
  unfold mVar
  rw [h]
theorem len_ok {ρ : En} {m : EM} {x : D} {r : List Int} (h : m ρ = .ok (.d x) ρ) (hx : Hd r x) : mCB (g1 dLen) (mCons m mNil) ρ = .ok (.d (.int r.length)) ρ := by
  rcases hx with rfl | rfl <;> simp [mCB, mCons, mNil, h, R.bind, OV.fz, apN, getAll, OB.get, g1, dLen, rz]
/-- tuple([r[p - 1] for p in m]) -/
theorem pick_tup {ρ : En} {i j v : Nat} {r m : List Int} {x y : D} (hi : ρ[i]? = some (.val x)) (hj : ρ[j]? = some (.val y)) (hv : noOw ρ v = true) (hiv : i ≠ v) (h : Hd r x) (k : Hd m y) (hm : ∀ p ∈ m, 1 ≤ p ∧ p ≤ r.length) (hl : m.length ≤ 8) :
    mCB (g1 dTupOf) (mCons (mComp [v] (mSeqI (mVar j)) (gN v) mYes (mB dIx (mVar i) (mB dSub (mVar v) (mC (.int 1))))) mNil) ρ = .ok (.d (.tup (zs (comp r m)))) ρ := by
  obtain ⟨s, hs⟩ := noOw_get hv
  have hvl : v < ρ.length := (List.getElem?_eq_some_iff.mp hs).1
  have hc : mComp [v] (mSeqI (mVar j)) (gN v) mYes (mB dIx (mVar i) (mB dSub (mVar v) (mC (.int 1)))) ρ = .ok (.n (.lst ((zs m).map fun d => match d with | .int p => .int (nth r p) | _ => .non))) ρ :=
    comp_map hv (by rcases k with rfl | rfl <;> simp [mSeqI, var_val hj, R.bind, OV.fz, esc, itD]) (fun d hd => by
      obtain ⟨p, hp, rfl⟩ := List.mem_map.mp hd
      have := hm p hp
      refine ⟨.d (.int (nth r p)), ?_, rfl⟩
      have hat := at_nth (r := r) (p := p) (by omega) (by omega)
      have g1 : (ρ.set v (.val (.int p)))[i]? = some (.val x) := by rw [List.getElem?_set_ne (Ne.symm hiv)]; exact hi
      have g2 : (ρ.set v (.val (.int p)))[v]? = some (.val (.int p)) := List.getElem?_set_self hvl
      rcases h with rfl | rfl <;> simp [mB, var_val g1, var_val g2, mC, R.bind, OV.fz, OB.get, ap2, rz, e_sub, dIx, hat]) (by simp; unfold BIG; omega)
  simp only [mCB, mCons, hc, mNil, R.bind, OV.fz, apN, getAll, OB.get, Ow.d, g1, dTupOf, rz]
  unfold comp zs
  simp
/-- tuple([r.index(b) + 1 for b in m]) -/
theorem index_tup {ρ : En} {i j v : Nat} {r m : List Int} {x y : D} (hi : ρ[i]? = some (.val x)) (hj : ρ[j]? = some (.val y)) (hv : noOw ρ v = true) (hiv : i ≠ v) (h : Hd r x) (k : Hd m y) (hm : ∀ p ∈ m, p ∈ r) (hl : m.length ≤ 8) :
    mCB (g1 dTupOf) (mCons (mComp [v] (mSeqI (mVar j)) (gN v) mYes (mB dAdd (mIndex (mVar i) (mVar v)) (mC (.int 1)))) mNil) ρ = .ok (.d (.tup (zs (way r m)))) ρ := by
  obtain ⟨s, hs⟩ := noOw_get hv
  have hvl : v < ρ.length := (List.getElem?_eq_some_iff.mp hs).1
  have hc : mComp [v] (mSeqI (mVar j)) (gN v) mYes (mB dAdd (mIndex (mVar i) (mVar v)) (mC (.int 1))) ρ = .ok (.n (.lst ((zs m).map fun d => match d with | .int p => .int (pos r p) | _ => .non))) ρ :=
    comp_map hv (by rcases k with rfl | rfl <;> simp [mSeqI, var_val hj, R.bind, OV.fz, esc, itD]) (fun d hd => by
      obtain ⟨p, hp, rfl⟩ := List.mem_map.mp hd
      refine ⟨.d (.int (pos r p)), ?_, rfl⟩
      have g1 : (ρ.set v (.val (.int p)))[i]? = some (.val x) := by rw [List.getElem?_set_ne (Ne.symm hiv)]; exact hi
      have g2 : (ρ.set v (.val (.int p)))[v]? = some (.val (.int p)) := List.getElem?_set_self hvl
      have hx := index_ok h (hm p hp) (var_val g1) (var_val g2)
      simp only [mB, hx, mC, R.bind, OV.fz, OB.get, ap2, rz, e_add, pos]) (by simp; unfold BIG; omega)
  simp only [mCB, mCons, hc, mNil, R.bind, OV.fz, apN, getAll, OB.get, Ow.d, g1, dTupOf, rz]
  unfold way zs
  simp
/-- the law's list of a thing -/
theorem listed_int (k : Nat) (i : Int) : m__law_listed (k + 1) [.val (.int i)] = .ok (.v (.int i)) [] := by
  unfold m__law_listed mDef b__law_listed b__law_listed_1 b__law_listed_2
  simp [mSeq, mIfS, mOr, mTst, mIsi, mVar, R.bind, R.st, OV.fz, OB.get, Tst.of, tst_tuple, tst_list, tb, mNext, mRet, retV, okD, ioOf]
theorem listed_row (k : Nat) {r : List Int} {x : D} (h : Hd r x) (hl : r.length ≤ 8) : m__law_listed (k + 2) [.val x] = .ok (.w (.lst (zs r))) [] := by
  have hc : mComp [1] (mSeqI (mVar 0)) (gN 1) mYes (mCall [] (m__law_listed (k + 1)) [] (mArg (mVar 1) mNil)) [.val x, .un] = .ok (.n (.lst ((zs r).map id))) [.val x, .un] :=
    comp_map rfl (by rcases h with rfl | rfl <;> simp [mSeqI, mVar, R.bind, OV.fz, esc, itD]) (fun d hd => by
      obtain ⟨i, _, rfl⟩ := List.mem_map.mp hd
      exact ⟨.d (.int i), call1 (v := .d (.int i)) (a := .int i) rfl rfl (listed_int k i), rfl⟩) (by simp; unfold BIG; omega)
  rw [List.map_id] at hc
  have e1 : b__law_listed_1 (m__law_listed (k + 1)) [.val x, .un] = .rt (.w (.lst (zs r))) [.val x, .un] := by
    unfold b__law_listed_1
    rcases h with rfl | rfl <;> simp [mIfS, mOr, mTst, mIsi, mVar, R.bind, R.st, OV.fz, OB.get, Tst.of, tst_tuple, tst_list, tb, mRet, hc, retV]
  have e2 : b__law_listed (m__law_listed (k + 1)) [.val x, .un] = .rt (.w (.lst (zs r))) [.val x, .un] := by
    unfold b__law_listed mSeq
    rw [e1]
  have e3 : m__law_listed (k + 2) = mDef 2 [] (b__law_listed (m__law_listed (k + 1))) := rfl
  rw [e3]
  exact mDef_rt e2
end K01
set_option Elab.async false
set_option linter.all false
set_option maxRecDepth 100000
set_option maxHeartbeats 4000000
namespace K01
open PySem Mi
theorem set_d {m : EM} {i : Nat} {ρ ρ' : En} {d : D} (h : m ρ = .ok (.d d) ρ') (hc : canSet ρ' i = true) : mSet i m ρ = .nx (ρ'.set i (.val d)) := by
  unfold mSet
  rw [h]
  simp [R.st, setSl, hc, nxt]
theorem ne_eq {ma mb : EM} {ρ ρ1 ρ2 : En} {a b : List Int} (h1 : ma ρ = .ok (.d (.tup (zs a))) ρ1) (h2 : mb ρ1 = .ok (.d (.tup (zs b))) ρ2) (e : a = b) : mTst (mB dNe ma mb) ρ = .ok false ρ2 := by
  subst e
  exact ne_ff h1 h2
/-- the frame of the first part of the law -/
abbrev fr (w : Ow) (r m o h : List Int) (s4 s5 s6 s7 s8 : Sl) : En := [.own true w, .val (.tup (zs r)), .val (.tup (zs m)), .val (.tup (zs o)), s4, s5, s6, s7, s8, .un, .un]
abbrev tz (r : List Int) : Sl := .val (.tup (zs r))
def Lo (r : List Int) (s : Sl) : Prop := s = .val (.tup (zs r)) ∨ s = .own false (.lst (zs r))
section
variable {ns : List Int} {n : Nat} {r m o : List Int} {w : Ow} {s5 s6 s7 s8 : Sl} {x5 x6 : D}
theorem fit1 (h3 : 3 ≤ n) (h8 : n ≤ 8) (hr : Row n r) : b__law_moves_fit_1 (fr w r m o [] .un .un .un .un .un) = .nx (fr w r m o [] (tz (up n)) .un .un .un .un) := by
  have hl := hr.len
  subst hl
  unfold b__law_moves_fit_1
  exact set_d (call1 (v := .d (.int r.length)) (len_ok (var_val rfl) (.inl rfl)) rfl (rounds_ok h3 h8)) rfl
theorem fit2 (hw : Dr ns w) : ∃ w' s, Dr ns w' ∧ Lo r s ∧ b__law_moves_fit_2 (fr w r m o [] (tz (up n)) .un .un .un .un) = .nx (fr w' r m o [] (tz (up n)) s .un .un .un) := by
  obtain ⟨w', hw', h | h⟩ := hand_ok hw r
  · refine ⟨w', _, hw', .inl rfl, ?_⟩
    unfold b__law_moves_fit_2
    simp [mSet, mCall, mLend, isOw, mArg, mVar, mNil, R.bind, R.st, OV.fz, esc, toArgs, ioPos, ioSl, h, putO, rvOV, setSl, canSet, nxt]
  · refine ⟨w', _, hw', .inr rfl, ?_⟩
    unfold b__law_moves_fit_2
    simp [mSet, mCall, mLend, isOw, mArg, mVar, mNil, R.bind, R.st, OV.fz, esc, toArgs, ioPos, ioSl, h, putO, rvOV, setSl, canSet, nxt]
theorem fit3 (hw : Dr ns w) (h5 : Lo r s5) : ∃ w' s, Dr ns w' ∧ Lo m s ∧ b__law_moves_fit_3 (fr w r m o [] (tz (up n)) s5 .un .un .un) = .nx (fr w' r m o [] (tz (up n)) s5 s .un .un) := by
  obtain ⟨w', hw', h | h⟩ := hand_ok hw m
  · refine ⟨w', _, hw', .inl rfl, ?_⟩
    unfold b__law_moves_fit_3
    simp [mSet, mCall, mLend, isOw, mArg, mVar, mNil, R.bind, R.st, OV.fz, esc, toArgs, ioPos, ioSl, h, putO, rvOV, setSl, canSet, nxt]
  · refine ⟨w', _, hw', .inr rfl, ?_⟩
    unfold b__law_moves_fit_3
    simp [mSet, mCall, mLend, isOw, mArg, mVar, mNil, R.bind, R.st, OV.fz, esc, toArgs, ioPos, ioSl, h, putO, rvOV, setSl, canSet, nxt]
theorem fit4 (h3 : 3 ≤ n) (h8 : n ≤ 8) (hr : Row n r) (hm : Row n m) (h6 : Lo m s6) : ∃ x6, Hd m x6 ∧ b__law_moves_fit_4 (fr w r m o [] (tz (up n)) s5 s6 .un .un) = .nx (fr w r m o [] (tz (up n)) s5 (.val x6) .un .un) := by
  have hl := hr.len
  subst hl
  obtain ⟨v, x, hx, e1, e2⟩ := slot_row (ρ := fr w r m o [] (tz (up r.length)) s5 s6 .un .un) (i := 6) (s := s6) rfl h6
  refine ⟨x, hx, ?_⟩
  have hs : m__law_same 4 [.val (.tup (zs (up r.length))), .val (.tup (zs (up r.length)))] = .ok (.v (.bl true)) [] := same_row 2 (by rw [up_len]; exact h8)
  have k1 := call2 (f := m__law_same 4) (ρ := fr w r m o [] (tz (up r.length)) s5 s6 .un .un) (v := .d (.tup (zs (up r.length)))) (u := .d (.tup (zs (up r.length)))) (var_val (i := 4) rfl) rfl (call1 (f := m__law_rounds) (v := .d (.int r.length)) (len_ok (var_val (i := 1) rfl) (.inl rfl)) rfl (lrounds_ok h8)) rfl hs
  have k2 := call2' (f := m_moved) (ρ := fr w r m o [] (tz (up r.length)) s5 s6 .un .un) (v := .d (.tup (zs (up r.length)))) (var_val (i := 4) rfl) rfl e1 e2 (moved_ok h3 h8 (row_up _) hm (.inl rfl) hx)
  unfold b__law_moves_fit_4
  exact skip_ok (or_ff (not_ok (tst_ok k1)) (ne_eq k2 (var_val (i := 2) rfl) (up_comp hm)))
theorem fit5 (h3 : 3 ≤ n) (h8 : n ≤ 8) (hr : Row n r) (hm : Row n m) (h5 : Lo r s5) (h6 : Hd m x6) : ∃ x5, Hd r x5 ∧ b__law_moves_fit_5 (fr w r m o [] (tz (up n)) s5 (.val x6) .un .un) = .nx (fr w r m o [] (tz (up n)) (.val x5) (.val x6) .un .un) := by
  have hl := hr.len
  subst hl
  obtain ⟨v, x, hx, e1, e2⟩ := slot_row (ρ := fr w r m o [] (tz (up r.length)) s5 (.val x6) .un .un) (i := 5) (s := s5) rfl h5
  refine ⟨x, hx, ?_⟩
  have hs : m__law_same 4 [.val (.tup (zs (comp r m))), .val (.tup (zs (comp r m)))] = .ok (.v (.bl true)) [] := same_row 2 (by rw [(hr.comp hm).len]; exact h8)
  have k2 := call2' (f := m_moved) (ρ := fr w r m o [] (tz (up r.length)) s5 (.val x6) .un .un) (u := .d x6) e1 e2 (var_val (i := 6) rfl) rfl (moved_ok h3 h8 hr hm hx h6)
  have k3 := pick_tup (ρ := fr w r m o [] (tz (up r.length)) (.val x) (.val x6) .un .un) (i := 1) (j := 2) (v := 9) (r := r) (m := m) rfl rfl rfl (by decide) (.inl rfl) (.inl rfl) (fun p hp => hm.mem.mp hp) (by rw [hm.len]; exact h8)
  have k1 := call2' (f := m__law_same 4) k2 rfl k3 rfl hs
  unfold b__law_moves_fit_5
  exact skip_ok (not_ok (tst_ok k1))
variable (h3 : 3 ≤ n) (h8 : n ≤ 8) (hr : Row n r) (hm : Row n m) (ho : Row n o) (h5 : Hd r x5) (h6 : Hd m x6)
include h3 h8 hr hm ho h5 h6
theorem fit6 : b__law_moves_fit_6 (fr w r m o [] (tz (up n)) (.val x5) (.val x6) .un .un) = .nx (fr w r m o [] (tz (up n)) (.val x5) (.val x6) .un .un) := by
  have hs : m__law_same 4 [.val (.tup (zs (comp m r))), .val (.tup (zs (comp m r)))] = .ok (.v (.bl true)) [] := same_row 2 (by rw [(hm.comp hr).len]; exact h8)
  have k2 := call2 (f := m_renamed) (ρ := fr w r m o [] (tz (up n)) (.val x5) (.val x6) .un .un) (v := .d x5) (u := .d x6) (var_val (i := 5) rfl) rfl (var_val (i := 6) rfl) rfl (renamed_ok h3 h8 hr hm h5 h6)
  have k3 := pick_tup (ρ := fr w r m o [] (tz (up n)) (.val x5) (.val x6) .un .un) (i := 2) (j := 1) (v := 10) (r := m) (m := r) rfl rfl rfl (by decide) (.inl rfl) (.inl rfl) (fun p hp => by rw [hm.len]; exact hr.mem.mp hp) (by rw [hr.len]; exact h8)
  unfold b__law_moves_fit_6
  exact skip_ok (not_ok (tst_ok (call2 (f := m__law_same 4) k2 rfl k3 rfl hs)))
theorem fit7 : b__law_moves_fit_7 (fr w r m o [] (tz (up n)) (.val x5) (.val x6) .un .un) = .nx (fr w r m o [] (tz (up n)) (.val x5) (.val x6) .un .un) := by
  have k1 := call2 (f := m_moved) (ρ := fr w r m o [] (tz (up n)) (.val x5) (.val x6) .un .un) (v := .d x5) (u := .d x6) (var_val (i := 5) rfl) rfl (var_val (i := 6) rfl) rfl (moved_ok h3 h8 hr hm h5 h6)
  have k2 := call2 (f := m_moved) (u := .d (.tup (zs o))) k1 rfl (var_val (i := 3) rfl) rfl (moved_ok h3 h8 (hr.comp hm) ho (.inl rfl) (.inl rfl))
  have k3 := call2 (f := m_moved) (ρ := fr w r m o [] (tz (up n)) (.val x5) (.val x6) .un .un) (v := .d (.tup (zs m))) (u := .d (.tup (zs o))) (var_val (i := 2) rfl) rfl (var_val (i := 3) rfl) rfl (moved_ok h3 h8 hm ho (.inl rfl) (.inl rfl))
  have k4 := call2 (f := m_moved) (v := .d (.tup (zs r))) (var_val (i := 1) rfl) rfl k3 rfl (moved_ok h3 h8 hr (hm.comp ho) (.inl rfl) (.inl rfl))
  have k5 := call2 (f := m_renamed) (ρ := fr w r m o [] (tz (up n)) (.val x5) (.val x6) .un .un) (v := .d x5) (u := .d x6) (var_val (i := 5) rfl) rfl (var_val (i := 6) rfl) rfl (renamed_ok h3 h8 hr hm h5 h6)
  have k6 := call2 (f := m_moved) (ρ := fr w r m o [] (tz (up n)) (.val x5) (.val x6) .un .un) (v := .d x6) (u := .d x5) (var_val (i := 6) rfl) rfl (var_val (i := 5) rfl) rfl (moved_ok h3 h8 hm hr h6 h5)
  unfold b__law_moves_fit_7
  exact skip_ok (or_ff (ne_eq k2 k4 (comp_assoc hm ho)) (ne_eq k5 k6 rfl))
theorem fit8 : b__law_moves_fit_8 (fr w r m o [] (tz (up n)) (.val x5) (.val x6) .un .un) = .nx (fr w r m o [] (tz (up n)) (.val x5) (.val x6) .un .un) := by
  have k1 := call2 (f := m_moved) (ρ := fr w r m o [] (tz (up n)) (.val x5) (.val x6) .un .un) (v := .d (.tup (zs r))) (u := .d (.tup (zs o))) (var_val (i := 1) rfl) rfl (var_val (i := 3) rfl) rfl (moved_ok h3 h8 hr ho (.inl rfl) (.inl rfl))
  have k2 := call2 (f := m_renamed) (u := .d x6) k1 rfl (var_val (i := 6) rfl) rfl (renamed_ok h3 h8 (hr.comp ho) hm (.inl rfl) h6)
  have k3 := call2 (f := m_renamed) (ρ := fr w r m o [] (tz (up n)) (.val x5) (.val x6) .un .un) (v := .d x5) (u := .d (.tup (zs m))) (var_val (i := 5) rfl) rfl (var_val (i := 2) rfl) rfl (renamed_ok h3 h8 hr hm h5 (.inl rfl))
  have k4 := call2 (f := m_moved) (u := .d (.tup (zs o))) k3 rfl (var_val (i := 3) rfl) rfl (moved_ok h3 h8 (hm.comp hr) ho (.inl rfl) (.inl rfl))
  unfold b__law_moves_fit_8
  exact skip_ok (ne_eq k2 k4 (comp_assoc hr ho).symm)
theorem fit9 : b__law_moves_fit_9 (fr w r m o [] (tz (up n)) (.val x5) (.val x6) .un .un) = .nx (fr w r m o [] (tz (up n)) (.val x5) (.val x6) (tz (und n m)) .un) := by
  have k1 := call1 (f := m_undone) (ρ := fr w r m o [] (tz (up n)) (.val x5) (.val x6) .un .un) (v := .d x6) (var_val (i := 6) rfl) rfl (undone_ok h3 h8 hm h6)
  unfold b__law_moves_fit_9
  exact set_d k1 rfl
theorem fit10 : b__law_moves_fit_10 (fr w r m o [] (tz (up n)) (.val x5) (.val x6) (tz (und n m)) .un) = .nx (fr w r m o [] (tz (up n)) (.val x5) (.val x6) (tz (und n m)) .un) := by
  have hs : m__law_same 4 [.val (.tup (zs (und n m))), .val (.tup (zs (und n m)))] = .ok (.v (.bl true)) [] := same_row 2 (by rw [(und_row hm).len]; exact h8)
  have k3 := index_tup (ρ := fr w r m o [] (tz (up n)) (.val x5) (.val x6) (tz (und n m)) .un) (i := 2) (j := 4) (v := 9) (r := m) (m := up n) rfl rfl rfl (by decide) (.inl rfl) (.inl rfl) (fun p hp => hm.mem_iff.mpr hp) (by rw [up_len]; exact h8)
  unfold b__law_moves_fit_10
  exact skip_ok (not_ok (tst_ok (call2 (f := m__law_same 4) (v := .d (.tup (zs (und n m)))) (var_val (i := 7) rfl) rfl k3 rfl hs)))
theorem fit11 : b__law_moves_fit_11 (fr w r m o [] (tz (up n)) (.val x5) (.val x6) (tz (und n m)) .un) = .nx (fr w r m o [] (tz (up n)) (.val x5) (.val x6) (tz (und n m)) .un) := by
  have hu := und_row hm
  have k1 := call2 (f := m_moved) (ρ := fr w r m o [] (tz (up n)) (.val x5) (.val x6) (tz (und n m)) .un) (v := .d x6) (u := .d (.tup (zs (und n m)))) (var_val (i := 6) rfl) rfl (var_val (i := 7) rfl) rfl (moved_ok h3 h8 hm hu h6 (.inl rfl))
  have k2 := call2 (f := m_moved) (ρ := fr w r m o [] (tz (up n)) (.val x5) (.val x6) (tz (und n m)) .un) (v := .d (.tup (zs (und n m)))) (u := .d (.tup (zs m))) (var_val (i := 7) rfl) rfl (var_val (i := 2) rfl) rfl (moved_ok h3 h8 hu hm (.inl rfl) (.inl rfl))
  have k3 := call1 (f := m_undone) (ρ := fr w r m o [] (tz (up n)) (.val x5) (.val x6) (tz (und n m)) .un) (v := .d (.tup (zs (und n m)))) (var_val (i := 7) rfl) rfl (undone_ok h3 h8 hu (.inl rfl))
  unfold b__law_moves_fit_11
  exact skip_ok (or_ff (ne_eq k1 (var_val (i := 4) rfl) (comp_und hm)) (or_ff (ne_eq k2 (var_val (i := 4) rfl) (und_comp hm)) (ne_eq k3 (var_val (i := 2) rfl) (und_und hm))))
theorem fit12 : b__law_moves_fit_12 (fr w r m o [] (tz (up n)) (.val x5) (.val x6) (tz (und n m)) .un) = .nx (fr w r m o [] (tz (up n)) (.val x5) (.val x6) (tz (und n m)) (tz (way r m))) := by
  have k1 := call2 (f := m_step) (ρ := fr w r m o [] (tz (up n)) (.val x5) (.val x6) (tz (und n m)) .un) (v := .d x5) (u := .d x6) (var_val (i := 5) rfl) rfl (var_val (i := 6) rfl) rfl (step_ok h3 h8 hr hm h5 h6)
  unfold b__law_moves_fit_12
  exact set_d k1 rfl
theorem fit13 : b__law_moves_fit_13 (fr w r m o [] (tz (up n)) (.val x5) (.val x6) (tz (und n m)) (tz (way r m))) = .nx (fr w r m o [] (tz (up n)) (.val x5) (.val x6) (tz (und n m)) (tz (way r m))) := by
  have hs : m__law_same 4 [.val (.tup (zs (way r m))), .val (.tup (zs (way r m)))] = .ok (.v (.bl true)) [] := same_row 2 (by rw [(hr.way hm).len]; exact h8)
  have k3 := index_tup (ρ := fr w r m o [] (tz (up n)) (.val x5) (.val x6) (tz (und n m)) (tz (way r m))) (i := 1) (j := 2) (v := 10) (r := r) (m := m) rfl rfl rfl (by decide) (.inl rfl) (.inl rfl) (fun p hp => hr.mem.mpr (hm.mem.mp hp)) (by rw [hm.len]; exact h8)
  have k1 := call2 (f := m_moved) (ρ := fr w r m o [] (tz (up n)) (.val x5) (.val x6) (tz (und n m)) (tz (way r m))) (v := .d (.tup (zs r))) (u := .d (.tup (zs (way r m)))) (var_val (i := 1) rfl) rfl (var_val (i := 8) rfl) rfl (moved_ok h3 h8 hr (hr.way hm) (.inl rfl) (.inl rfl))
  unfold b__law_moves_fit_13
  exact skip_ok (or_ff (not_ok (tst_ok (call2 (f := m__law_same 4) (v := .d (.tup (zs (way r m)))) (var_val (i := 8) rfl) rfl k3 rfl hs))) (ne_eq k1 (var_val (i := 2) rfl) (comp_way hr hm)))
end
end K01
set_option Elab.async false
set_option linter.all false
set_option maxRecDepth 100000
set_option maxHeartbeats 4000000
namespace K01
open PySem Mi
theorem call1n {f : List Sl → DR} {ma : EM} {ρ : En} {v : OV} {a : D} {o : Ow} (h1 : ma ρ = .ok v ρ) (e1 : esc v.fz ρ = some (a, ρ)) (hf : f [.val a] = .ok (.w o) []) : mCall [] f [] (mArg ma mNil) ρ = .ok (.n o) ρ := by
  simp [mCall, mArg, mNil, R.bind, h1, e1, toArgs, ioPos, ioSl, hf, putO, rvOV]
theorem list_ok {ρ : En} {m : EM} {x : D} {r : List Int} (h : m ρ = .ok (.d x) ρ) (hx : Hd r x) : mCBn (g1n dListOf) (mCons m mNil) ρ = .ok (.n (.lst (zs r))) ρ := by
  rcases hx with rfl | rfl <;> simp [mCBn, mCons, mNil, h, R.bind, OV.fz, apNn, getAll, OB.get, g1n, dListOf, seqD, rn]
theorem eqb {ma mb : EM} {a b : List Int} {ρ : En} (h1 : ma ρ = .ok (.n (.lst (zs a))) ρ) (h2 : mb ρ = .ok (.n (.lst (zs b))) ρ) : mB dEq ma mb ρ = .ok (.d (.bl (decide (a = b)))) ρ := by
  have he := eq_lst a b
  unfold mB
  rw [h1]
  simp only [R.bind]
  rw [h2]
  simp only [R.bind, OV.fz, Ow.d, ap2, OB.get]
  rw [he]
  rfl
theorem eqb_same {ma mb : EM} {a : List Int} {ρ : En} (h1 : ma ρ = .ok (.n (.lst (zs a))) ρ) (h2 : mb ρ = .ok (.n (.lst (zs a))) ρ) : mB dEq ma mb ρ = .ok (.d (.bl true)) ρ := by
  have h := eqb h1 h2
  rw [decide_eq_true rfl] at h
  exact h
theorem andV_tt {a b : EM} {ρ ρ1 ρ2 : En} {v : OV} (h1 : a ρ = .ok (.d (.bl true)) ρ1) (h2 : b ρ1 = .ok v ρ2) : mAndV a b ρ = .ok v ρ2 := by
  unfold mAndV
  rw [tst_ok h1]
  simp only [R.bind]
  exact h2
theorem seq_nx {a b : SM} {ρ ρ' : En} (h : a ρ = .nx ρ') : mSeq a b ρ = b ρ' := by
  unfold mSeq
  rw [h]
theorem mDef_io {n : Nat} {b : SM} {as : List Sl} {r : RV} {ρ : En} {io : Bool} {w : Ow} (h : b (as ++ List.replicate (n - as.length) .un) = .rt r ρ) (h0 : ρ[0]? = some (.own io w)) : mDef n [0] b as = .ok r [w] := by
  unfold mDef
  rw [h]
  simp [okD, ioOf, h0]
section
variable {ns : List Int} {n : Nat} {r m o : List Int} {w : Ow} {x5 x6 : D}
theorem fit14 (h8 : n ≤ 8) (hr : Row n r) (hm : Row n m) (h5 : Hd r x5) (h6 : Hd m x6) : b__law_moves_fit_14 (fr w r m o [] (tz (up n)) (.val x5) (.val x6) (tz (und n m)) (tz (way r m))) = .rt (.v (.bl true)) (fr w r m o [] (tz (up n)) (.val x5) (.val x6) (tz (und n m)) (tz (way r m))) := by
  have k1 := call1n (f := m__law_listed 3) (ρ := fr w r m o [] (tz (up n)) (.val x5) (.val x6) (tz (und n m)) (tz (way r m))) (v := .d x5) (var_val (i := 5) rfl) rfl (listed_row 1 h5 (by rw [hr.len]; exact h8))
  have k2 := call1n (f := m__law_listed 3) (ρ := fr w r m o [] (tz (up n)) (.val x5) (.val x6) (tz (und n m)) (tz (way r m))) (v := .d x6) (var_val (i := 6) rfl) rfl (listed_row 1 h6 (by rw [hm.len]; exact h8))
  unfold b__law_moves_fit_14
  exact mRet_d (andV_tt (eqb_same k1 (list_ok (var_val (i := 1) rfl) (.inl rfl))) (eqb_same k2 (list_ok (var_val (i := 2) rfl) (.inl rfl))))
/-- the first part of the law holds -/
theorem moves_fit (hw : Dr ns w) (h3 : 3 ≤ n) (h8 : n ≤ 8) (hr : Row n r) (hm : Row n m) (ho : Row n o) : ∃ w', Dr ns w' ∧ m__law_moves_fit [.own true w, tz r, tz m, tz o] = .ok (.v (.bl true)) [w'] := by
  obtain ⟨w2, s5, hw2, hs5, e2⟩ := fit2 (m := m) (o := o) (n := n) (r := r) hw
  obtain ⟨w3, s6, hw3, hs6, e3⟩ := fit3 (m := m) (o := o) (n := n) (r := r) hw2 hs5
  obtain ⟨x6, h6, e4⟩ := fit4 (o := o) (w := w3) (s5 := s5) h3 h8 hr hm hs6
  obtain ⟨x5, h5, e5⟩ := fit5 (o := o) (w := w3) h3 h8 hr hm hs5 h6
  refine ⟨w3, hw3, ?_⟩
  unfold m__law_moves_fit
  refine mDef_io (ρ := fr w3 r m o [] (tz (up n)) (.val x5) (.val x6) (tz (und n m)) (tz (way r m))) (io := true) ?_ rfl
  show b__law_moves_fit (fr w r m o [] .un .un .un .un .un) = _
  unfold b__law_moves_fit
  rw [seq_nx (fit1 h3 h8 hr), seq_nx e2, seq_nx e3, seq_nx e4, seq_nx e5, seq_nx (fit6 h3 h8 hr hm ho h5 h6), seq_nx (fit7 h3 h8 hr hm ho h5 h6), seq_nx (fit8 h3 h8 hr hm ho h5 h6), seq_nx (fit9 h3 h8 hr hm ho h5 h6), seq_nx (fit10 h3 h8 hr hm ho h5 h6), seq_nx (fit11 h3 h8 hr hm ho h5 h6), seq_nx (fit12 h3 h8 hr hm ho h5 h6), seq_nx (fit13 h3 h8 hr hm ho h5 h6), fit14 h8 hr hm h5 h6]
end
end K01
set_option Elab.async false
set_option linter.all false
set_option maxRecDepth 100000
set_option maxHeartbeats 4000000
namespace K01
open PySem Mi
theorem mDef_rtw {n : Nat} {b : SM} {as : List Sl} {r : RV} {ρ : En} (h : b (as ++ List.replicate (n - as.length) .un) = .rt r ρ) : mDef n [] b as = .ok r [] := mDef_rt h
/-- the draw begins -/
theorem draw_ok {ns : List Int} (hl : ns.length ≤ 63) : ∃ w, Dr ns w ∧ m__law_draw [.val (.frl (zs ns))] = .ok (.w w) [] := by
  have hc : mComp [2] (mSeqI (mVar 0)) (gN 2) mYes (mVar 2) [.val (.frl (zs ns)), .un, .un] = .ok (.n (.lst ((zs ns).map id))) [.val (.frl (zs ns)), .un, .un] :=
    comp_map rfl (by simp [mSeqI, mVar, R.bind, OV.fz, esc, itD]) (fun d hd => ⟨.d d, by simp [mVar], rfl⟩) (by simp; unfold BIG; omega)
  rw [List.map_id] at hc
  have e1 : b__law_draw_1 [.val (.frl (zs ns)), .un, .un] = .nx [.val (.frl (zs ns)), .own false (.lst (zs ns)), .un] := by
    unfold b__law_draw_1 mSet
    rw [hc]
    rfl
  have hsum : dSum (.lst (zs ns)) = some (.int ns.sum) := by
    show (intsD (zs ns)).map _ = _
    rw [intsD_zs]
    rfl
  have e2 : b__law_draw_2 [.val (.frl (zs ns)), .own false (.lst (zs ns)), .un] = .rt (.w (ps ns 0 0 0 0 (ns.sum % 1000003 + 7 * ns.length))) [.val (.frl (zs ns)), .val (.lst (zs ns)), .un] := by
    unfold b__law_draw_2
    have hb : 6 ≤ BIG := by unfold BIG; omega
    simp [mRet, mLst, mCons, mNil, mVar, mC, mB, mCB, R.bind, R.st, OV.fz, apN, getAll, OB.get, Ow.d, g1, dInt, dLen, hsum, rz, ap2, e_mod, e_mull, e_add, escs, esc, hb, retV, ps]
  refine ⟨ps ns 0 0 0 0 (ns.sum % 1000003 + 7 * ns.length), ⟨0, 0, 0, 0, _, Int.le_refl 0, Int.le_refl 0, rfl⟩, ?_⟩
  unfold m__law_draw
  refine mDef_rt (ρ := [.val (.frl (zs ns)), .val (.lst (zs ns)), .un]) ?_
  show b__law_draw [.val (.frl (zs ns)), .un, .un] = _
  unfold b__law_draw
  rw [seq_nx e1, e2]
/-- a row undone, as the law does it -/
def undF (m : List Int) (n s : Nat) : List Int := (up n).map fun b => if m.idxOf b < s then pos m b else 0
theorem at_ix {r : List Int} {i : Nat} (h : i < r.length) : L2.atI (zs r) (i : Int) = some (.int r[i]) := by
  unfold L2.atI L2.ixN zs
  rw [List.length_map, if_pos (by omega), if_pos (by omega)]
  show (r.map D.int)[(i : Int).toNat]? = _
  rw [List.getElem?_map, Int.toNat_natCast, List.getElem?_eq_getElem h]
  rfl
theorem undF_len (m : List Int) (n s : Nat) : (undF m n s).length = n := by simp [undF, up_len]
theorem undF_at {m : List Int} {n s j : Nat} (hj : j < n) (h : j < (undF m n s).length) : (undF m n s)[j] = if m.idxOf (1 + (j : Int)) < s then pos m (1 + (j : Int)) else 0 := by
  have : (undF m n s)[j]? = some (if m.idxOf (1 + (j : Int)) < s then pos m (1 + (j : Int)) else 0) := by
    unfold undF
    rw [List.getElem?_map, List.getElem?_eq_getElem (by rw [up_len]; exact hj), up_at hj]
    rfl
  exact (List.getElem?_eq_some_iff.mp this).2
theorem undF_step {m : List Int} {n s : Nat} (hm : Row n m) (hs : s < m.length) : (undF m n s).set (m[s] - 1).toNat ((s : Int) + 1) = undF m n (s + 1) := by
  have hb := hm.mem.mp (List.getElem_mem hs)
  refine List.ext_getElem (by simp [undF_len]) fun j h1 h2 => ?_
  have hj : j < n := by rw [undF_len] at h2; exact h2
  have hju : j < (up n).length := by rw [up_len]; exact hj
  have hR := undF_at (m := m) (s := s + 1) hj h2
  rw [hR, List.getElem_set]
  by_cases e : (m[s] - 1).toNat = j
  · rw [if_pos e]
    have e2 : 1 + (j : Int) = m[s] := by omega
    rw [e2]
    have e3 : m.idxOf m[s] = s := List.Nodup.idxOf_getElem hm.nodup s hs
    rw [if_pos (by omega)]
    unfold pos
    rw [e3]
  · rw [if_neg e]
    rw [undF_at hj (by rw [undF_len]; exact hj)]
    have hne : m.idxOf (1 + (j : Int)) ≠ s := fun h => by
      have hmem : (1 + (j : Int)) ∈ m := hm.mem.mpr (by omega)
      have hlt : m.idxOf (1 + (j : Int)) < m.length := List.idxOf_lt_length_of_mem hmem
      have h4 : m[m.idxOf (1 + (j : Int))] = 1 + (j : Int) := by simp
      simp only [h] at h4
      omega
    by_cases c : m.idxOf (1 + (j : Int)) < s
    · rw [if_pos c, if_pos (by omega)]
    · rw [if_neg c, if_neg (by omega)]
noncomputable def undB : SM := mSetIx 1 (mB dSub (mB dIx (mVar 0) (mVar 2)) (mC (.int 1))) (mB dAdd (mVar 2) (mC (.int 1)))
theorem und_step {m : List Int} {n s : Nat} (hm : Row n m) (hs : s < m.length) : undB [tz m, .own false (.lst (zs (undF m n s))), .val (.int s), .un] = .nx [tz m, .own false (.lst (zs (undF m n (s + 1)))), .val (.int s), .un] := by
  have hb := hm.mem.mp (List.getElem_mem hs)
  have h1 := at_ix hs
  have h2 : L2.ixN (zs (undF m n s)).length (m[s] - 1) = some (m[s] - 1).toNat := by
    unfold L2.ixN
    rw [List.length_map, undF_len, if_pos (by omega), if_pos (by omega)]
  have h3 : (zs (undF m n s)).set (m[s] - 1).toNat (.int ((s : Int) + 1)) = zs (undF m n (s + 1)) := by
    rw [← undF_step hm hs]
    simp [zs]
  unfold undB
  have k1 : mB dAdd (mVar 2) (mC (.int 1)) [tz m, .own false (.lst (zs (undF m n s))), .val (.int s), .un] = .ok (.d (.int ((s : Int) + 1))) [tz m, .own false (.lst (zs (undF m n s))), .val (.int s), .un] := by
    simp [mB, mVar, mC, R.bind, OV.fz, OB.get, ap2, rz, e_add]
  have k2 : mB dSub (mB dIx (mVar 0) (mVar 2)) (mC (.int 1)) [tz m, .own false (.lst (zs (undF m n s))), .val (.int s), .un] = .ok (.d (.int (m[s] - 1))) [tz m, .own false (.lst (zs (undF m n s))), .val (.int s), .un] := by
    simp [mB, mVar, mC, R.bind, OV.fz, OB.get, ap2, rz, dIx, h1, e_sub]
  unfold mSetIx
  rw [k1]
  simp only [R.st, OV.fz, esc]
  rw [if_pos (by rfl), k2]
  simp only [List.getElem?_cons_succ, List.getElem?_cons_zero, h2, h3]
  rfl
theorem und_loop {m : List Int} {n : Nat} (hm : Row n m) : ∀ {k s : Nat} {s2 : Sl}, s + k = n → (s2 = .un ∨ ∃ v, s2 = .val v) → ∃ s2', mForL (gN 2) undB ((List.range' s k).map fun (i : Nat) => IV.one (.int (i : Int))) [tz m, .own false (.lst (zs (undF m n s))), s2, .un] = .nx [tz m, .own false (.lst (zs (undF m n n))), s2', .un]
  | 0, s, s2, hs, _ => by
    have : s = n := by omega
    subst this
    exact ⟨s2, rfl⟩
  | k + 1, s, s2, hs, h2 => by
    have hlt : s < m.length := by
      rw [hm.len]
      omega
    obtain ⟨s3, h3⟩ := und_loop (k := k) (s := s + 1) (s2 := .val (.int s)) hm (by omega) (.inr ⟨_, rfl⟩)
    refine ⟨s3, ?_⟩
    rw [List.range'_succ, List.map_cons]
    unfold mForL
    have g : gN 2 (IV.one (.int (s : Int))) [tz m, .own false (.lst (zs (undF m n s))), s2, .un] = some [tz m, .own false (.lst (zs (undF m n s))), .val (.int s), .un] := by
      rcases h2 with rfl | ⟨v, rfl⟩ <;> simp [gN, canSet]
    simp only [g, und_step hm hlt]
    exact h3
theorem undF_0 (m : List Int) (n : Nat) : zs (undF m n 0) = (zs (up n)).map fun _ => D.int 0 := by
  simp [undF, zs]
theorem undF_n {m : List Int} {n : Nat} (hm : Row n m) : undF m n n = und n m := by
  unfold undF und way
  refine List.map_congr_left fun b hb => ?_
  have : m.idxOf b < m.length := List.idxOf_lt_length_of_mem (hm.mem_iff.mpr hb)
  rw [hm.len] at this
  rw [if_pos this]
theorem const_map {α β γ : Type} (c : γ) : ∀ {l : List α} {k : List β}, l.length = k.length → (l.map fun _ => c) = k.map fun _ => c
  | [], [], _ => rfl
  | [], _ :: _, h => by simp at h
  | _ :: _, [], h => by simp at h
  | a :: l, b :: k, h => by
    rw [List.map_cons, List.map_cons, const_map c (l := l) (k := k) (by simpa using h)]
theorem lmoved_ok {n : Nat} {r m : List Int} (h8 : n ≤ 8) (hr : r.length = n) (hm : Row n m) : m__law_moved [tz r, tz m] = .ok (.v (.tup (zs (comp r m)))) [] := by
  have k := pick_tup (ρ := [tz r, tz m, .un]) (i := 0) (j := 1) (v := 2) (r := r) (m := m) rfl rfl rfl (by decide) (.inl rfl) (.inl rfl) (fun p hp => by rw [hr]; exact hm.mem.mp hp) (by rw [hm.len]; exact h8)
  unfold m__law_moved
  refine mDef_rt (ρ := [tz r, tz m, .un]) ?_
  show b__law_moved [tz r, tz m, .un] = _
  unfold b__law_moved
  exact mRet_d k
theorem if_tt {c : TM} {a b : SM} {ρ ρ' : En} (h : c ρ = .ok true ρ') : mIfS c a b ρ = a ρ' := by
  unfold mIfS
  rw [h]
  rfl
theorem seq_rt {a b : SM} {ρ ρ' : En} {r : RV} (h : a ρ = .rt r ρ') : mSeq a b ρ = .rt r ρ' := by
  unfold mSeq
  rw [h]
theorem eq_int {i : Nat} {k p : Int} {ρ : En} (h : ρ[i]? = some (.val (.int p))) : mTst (mB dEq (mVar i) (mC (.int k))) ρ = .ok (decide (p = k)) ρ := by
  refine tst_ok ?_
  unfold mB
  rw [var_val h]
  simp only [R.bind, mC, OV.fz, ap2, OB.get]
  rw [e_int]
  rfl
end K01
set_option Elab.async false
set_option linter.all false
set_option maxRecDepth 100000
set_option maxHeartbeats 4000000
namespace K01
open PySem Mi
theorem lun_c {m : List Int} {n : Nat} (h8 : n ≤ 8) (hl : m.length = n) : mComp [3] (mSeqI (mVar 0)) (gN 3) mYes (mC (.int 0)) [tz m, .un, .un, .un] = .ok (.n (.lst (zs (undF m n 0)))) [tz m, .un, .un, .un] := by
  have hc : mComp [3] (mSeqI (mVar 0)) (gN 3) mYes (mC (.int 0)) [tz m, .un, .un, .un] = .ok (.n (.lst ((zs m).map fun _ => D.int 0))) [tz m, .un, .un, .un] :=
    comp_map rfl (by simp [mSeqI, mVar, R.bind, OV.fz, esc, itD]) (fun d hd => ⟨.d (.int 0), rfl, rfl⟩) (by simp; unfold BIG; omega)
  have h0 : (zs m).map (fun _ => D.int 0) = zs (undF m n 0) := by
    rw [undF_0]
    exact const_map _ (by simp [up_len, hl])
  rw [h0] at hc
  exact hc
theorem set_n {m : EM} {i : Nat} {ρ ρ' : En} {o : Ow} (h : m ρ = .ok (.n o) ρ') (hc : canSet ρ' i = true) : mSet i m ρ = .nx (ρ'.set i (.own false o)) := by
  unfold mSet
  rw [h]
  simp [R.st, setSl, hc, nxt]
theorem lun_1 {m : List Int} {n : Nat} (h8 : n ≤ 8) (hl : m.length = n) : b__law_undone_1 [tz m, .un, .un, .un] = .nx [tz m, .own false (.lst (zs (undF m n 0))), .un, .un] := by
  unfold b__law_undone_1
  exact set_n (lun_c h8 hl) rfl
theorem rng1_k {me : EM} {ρ : En} {k : Int} (h0 : 0 ≤ k) (h8 : k ≤ 1000) (h : me ρ = .ok (.d (.int k)) ρ) : mRng1 me ρ = .ok ((rgD 0 k).map .one) ρ := by
  unfold mRng1
  rw [h]
  simp only [R.bind, rgI]
  rw [if_pos (by omega)]
theorem rgD_0 (n : Nat) : (rgD 0 (n : Int)).map IV.one = (List.range' 0 n).map fun (i : Nat) => IV.one (.int (i : Int)) := by
  unfold rgD
  rw [← List.range_eq_range', List.map_map]
  have : ((n : Int) - 0).toNat = n := by omega
  rw [this]
  refine List.map_congr_left fun i _ => ?_
  simp
theorem rng1_ok {me : EM} {ρ : En} {n : Nat} (h8 : n ≤ 1000) (h : me ρ = .ok (.d (.int n)) ρ) : mRng1 me ρ = .ok ((List.range' 0 n).map fun (i : Nat) => IV.one (.int (i : Int))) ρ :=
  (rng1_k (by omega) (by omega) h).trans (congrArg (fun z => R.ok z ρ) (rgD_0 n))
theorem lun_2 {m : List Int} {n : Nat} (h8 : n ≤ 8) (hm : Row n m) : ∃ s2, b__law_undone_2 [tz m, .own false (.lst (zs (undF m n 0))), .un, .un] = .nx [tz m, .own false (.lst (zs (undF m n n))), s2, .un] := by
  have hl := hm.len
  obtain ⟨s2, e2⟩ := und_loop hm (k := n) (s := 0) (s2 := .un) (by omega) (.inl rfl)
  refine ⟨s2, ?_⟩
  have hlen := len_ok (r := m) (x := .tup (zs m)) (var_val (ρ := [tz m, .own false (.lst (zs (undF m n 0))), .un, .un]) (i := 0) rfl) (.inl rfl)
  rw [hl] at hlen
  unfold b__law_undone_2 mFor
  rw [rng1_ok (by omega) hlen]
  exact e2
theorem lun_3 {m : List Int} {n : Nat} {s2 : Sl} (hm : Row n m) : b__law_undone_3 [tz m, .own false (.lst (zs (undF m n n))), s2, .un] = .rt (.v (.tup (zs (und n m)))) [tz m, .own false (.lst (zs (undF m n n))), s2, .un] := by
  rw [undF_n hm]
  unfold b__law_undone_3
  refine mRet_d ?_
  simp [mCB, mCons, mVar, mNil, R.bind, OV.fz, apN, getAll, OB.get, Ow.d, g1, dTupOf, rz]
theorem lundone_b {m : List Int} {n : Nat} (h8 : n ≤ 8) (hm : Row n m) : ∃ ρ, b__law_undone [tz m, .un, .un, .un] = .rt (.v (.tup (zs (und n m)))) ρ := by
  obtain ⟨s2, e2⟩ := lun_2 h8 hm
  refine ⟨[tz m, .own false (.lst (zs (undF m n n))), s2, .un], ?_⟩
  unfold b__law_undone
  rw [seq_nx (lun_1 h8 hm.len), seq_nx e2, lun_3 hm]
theorem lundone_ok {m : List Int} {n : Nat} (h8 : n ≤ 8) (hm : Row n m) : m__law_undone [tz m] = .ok (.v (.tup (zs (und n m)))) [] := by
  obtain ⟨ρ, h⟩ := lundone_b h8 hm
  unfold m__law_undone
  exact mDef_rt (ρ := ρ) h
end K01
set_option Elab.async false
set_option linter.all false
set_option maxRecDepth 100000
set_option maxHeartbeats 4000000
namespace K01
open PySem Mi
/-- a call that is lent the own thing in slot i, and one more argument -/
theorem call_io {f : List Sl → DR} {ma : EM} {i : Nat} {io : Bool} {ρ : En} {w w' : Ow} {v : OV} {a d : D} (h0 : ρ[i]? = some (.own io w)) (h1 : ma ρ = .ok v ρ) (e1 : esc v.fz ρ = some (a, ρ)) (hp : ρ[i]? = some (.own io w)) (hf : f [.own true w, .val a] = .ok (.v d) [w']) : mCall [0] f [] (mLend i (mArg ma mNil)) ρ = .ok (.d d) (ρ.set i (.own io w')) := by
  simp [mCall, mLend, h0, isOw, mArg, mNil, R.bind, h1, e1, toArgs, ioPos, ioSl, hf, putO, rvOV]
theorem second_ok {ns : List Int} {w : Ow} {n : Nat} {r : List Int} (hw : Dr ns w) (h3 : 3 ≤ n) (h8 : n ≤ 8) (hr : Row n r) : ∃ q w', Dr ns w' ∧ Row n q ∧ m__law_second [.own true w, tz r] = .ok (.v (.tup (zs q))) [w'] := by
  have hl := hr.len
  subst hl
  obtain ⟨p, w1, hw1, h0, h1, hp⟩ := pick_ok hw (many := 6) (by omega) (by omega)
  have e1 : b__law_second_1 [.own true w, tz r, .un] = .nx [.own true w1, tz r, .val (.int p)] := by
    unfold b__law_second_1
    exact set_d (call_io (f := m__law_pick) (i := 0) (io := true) (w := w) (v := .d (.int 6)) rfl rfl rfl rfl hp) rfl
  have hlen := len_ok (r := r) (x := .tup (zs r)) (var_val (ρ := [.own true w1, tz r, .val (.int p)]) (i := 1) rfl) (.inl rfl)
  by_cases c0 : p = 0
  · refine ⟨up r.length, w1, hw1, row_up _, ?_⟩
    have e2 : b__law_second_2 [.own true w1, tz r, .val (.int p)] = .rt (.v (.tup (zs (up r.length)))) [.own true w1, tz r, .val (.int p)] := by
      unfold b__law_second_2
      rw [if_tt (by rw [eq_int (i := 2) (p := p) rfl, decide_eq_true c0])]
      exact mRet_d (call1 (v := .d (.int r.length)) hlen rfl (lrounds_ok h8))
    unfold m__law_second
    refine mDef_io (ρ := [.own true w1, tz r, .val (.int p)]) (io := true) ?_ rfl
    show b__law_second [.own true w, tz r, .un] = _
    unfold b__law_second
    rw [seq_nx e1, seq_rt e2]
  have e2 : b__law_second_2 [.own true w1, tz r, .val (.int p)] = .nx [.own true w1, tz r, .val (.int p)] := by
    unfold b__law_second_2
    exact skip_ok (by rw [eq_int (i := 2) (p := p) rfl, decide_eq_false c0])
  by_cases c1 : p = 1
  · refine ⟨r, w1, hw1, hr, ?_⟩
    have e3 : b__law_second_3 [.own true w1, tz r, .val (.int p)] = .rt (.v (.tup (zs r))) [.own true w1, tz r, .val (.int p)] := by
      unfold b__law_second_3
      rw [if_tt (by rw [eq_int (i := 2) (p := p) rfl, decide_eq_true c1])]
      exact mRet_d (var_val rfl)
    unfold m__law_second
    refine mDef_io (ρ := [.own true w1, tz r, .val (.int p)]) (io := true) ?_ rfl
    show b__law_second [.own true w, tz r, .un] = _
    unfold b__law_second
    rw [seq_nx e1, seq_nx e2, seq_rt e3]
  have e3 : b__law_second_3 [.own true w1, tz r, .val (.int p)] = .nx [.own true w1, tz r, .val (.int p)] := by
    unfold b__law_second_3
    exact skip_ok (by rw [eq_int (i := 2) (p := p) rfl, decide_eq_false c1])
  by_cases c2 : p = 2
  · refine ⟨und r.length r, w1, hw1, und_row hr, ?_⟩
    have e4 : b__law_second_4 [.own true w1, tz r, .val (.int p)] = .rt (.v (.tup (zs (und r.length r)))) [.own true w1, tz r, .val (.int p)] := by
      unfold b__law_second_4
      rw [if_tt (by rw [eq_int (i := 2) (p := p) rfl, decide_eq_true c2])]
      exact mRet_d (call1 (v := .d (.tup (zs r))) (var_val (i := 1) rfl) rfl (lundone_ok h8 hr))
    unfold m__law_second
    refine mDef_io (ρ := [.own true w1, tz r, .val (.int p)]) (io := true) ?_ rfl
    show b__law_second [.own true w, tz r, .un] = _
    unfold b__law_second
    rw [seq_nx e1, seq_nx e2, seq_nx e3, seq_rt e4]
  have e4 : b__law_second_4 [.own true w1, tz r, .val (.int p)] = .nx [.own true w1, tz r, .val (.int p)] := by
    unfold b__law_second_4
    exact skip_ok (by rw [eq_int (i := 2) (p := p) rfl, decide_eq_false c2])
  obtain ⟨q, w2, hw2, hq, hrow⟩ := row_ok hw1 (n := (r.length : Int)) (by omega) (by omega)
  refine ⟨q, w2, hw2, by simpa using hq, ?_⟩
  have e5 : b__law_second_5 [.own true w1, tz r, .val (.int p)] = .rt (.v (.tup (zs q))) [.own true w2, tz r, .val (.int p)] := by
    unfold b__law_second_5
    exact mRet_d (call_io (f := m__law_row) (i := 0) (io := true) (w := w1) rfl hlen rfl rfl hrow)
  unfold m__law_second
  refine mDef_io (ρ := [.own true w2, tz r, .val (.int p)]) (io := true) ?_ rfl
  show b__law_second [.own true w, tz r, .un] = _
  unfold b__law_second
  rw [seq_nx e1, seq_nx e2, seq_nx e3, seq_nx e4, e5]

end K01
set_option Elab.async false
set_option linter.all false
set_option maxRecDepth 100000
set_option maxHeartbeats 4000000
namespace K01
open PySem Mi
theorem call3 {f : List Sl → DR} {ma mb mc : EM} {ρ : En} {v u t : OV} {a b c d : D} (h1 : ma ρ = .ok v ρ) (e1 : esc v.fz ρ = some (a, ρ)) (h2 : mb ρ = .ok u ρ) (e2 : esc u.fz ρ = some (b, ρ)) (h3 : mc ρ = .ok t ρ) (e3 : esc t.fz ρ = some (c, ρ)) (hf : f [.val a, .val b, .val c] = .ok (.v d) []) : mCall [] f [] (mArg ma (mArg mb (mArg mc mNil))) ρ = .ok (.d d) ρ := by
  simp [mCall, mArg, mNil, R.bind, h1, e1, h2, e2, h3, e3, toArgs, ioPos, ioSl, hf, putO, rvOV]
theorem drop_ok {m : EM} {ρ ρ' : En} {v : OV} (h : m ρ = .ok v ρ') : mDrop m ρ = .nx ρ' := by
  unfold mDrop
  rw [h]
  rfl
theorem place_ok {n : Nat} {r : List Int} {x : D} {b : Int} (h3 : 3 ≤ n) (h8 : n ≤ 8) (hr : Row n r) (h : Hd r x) (hb : b ∈ r) : m_place [.val x, .val (.int b)] = .ok (.v (.int (pos r b))) [] := by
  have hl := hr.len
  subst hl
  have hbb := hr.mem.mp hb
  have hlen := len_ok (r := r) (x := x) (var_val (ρ := [.val x, .val (.int b)]) (i := 0) rfl) h
  have e1 : b_place_1 [.val x, .val (.int b)] = .nx [.val x, .val (.int b)] := by
    unfold b_place_1
    exact drop_ok (call1 (f := m_judge_row) (v := .d x) (var_val (i := 0) rfl) rfl (judge_ok h3 h8 hr h))
  have e2 : b_place_2 [.val x, .val (.int b)] = .nx [.val x, .val (.int b)] := by
    have hw := within_ok b 1 (r.length : Int)
    rw [decide_eq_true hbb] at hw
    unfold b_place_2
    exact skip_ok (not_ok (tst_ok (call3 (f := m_is_within) (v := .d (.int b)) (u := .d (.int 1)) (t := .d (.int r.length)) (var_val (i := 1) rfl) rfl rfl rfl hlen rfl hw)))
  have e3 : b_place_3 [.val x, .val (.int b)] = .rt (.v (.int (pos r b))) [.val x, .val (.int b)] := by
    have hi := index_ok (ρ := [Sl.val x, .val (.int b)]) (mo := mVar 0) (ma := mVar 1) h hb (var_val rfl) (var_val rfl)
    unfold b_place_3
    refine mRet_d ?_
    simp only [mB, hi, mC, R.bind, OV.fz, OB.get, ap2, rz, e_add, pos]
  unfold m_place
  refine mDef_rt (ρ := [.val x, .val (.int b)]) ?_
  show b_place [.val x, .val (.int b)] = _
  unfold b_place
  rw [seq_nx e1, seq_nx e2, e3]
end K01
set_option Elab.async false
set_option linter.all false
set_option maxRecDepth 100000
set_option maxHeartbeats 4000000
namespace K01
open PySem Mi
/-- a move done t times over rounds -/
def pw (n : Nat) (m : List Int) : Nat → List Int
  | 0 => up n
  | t + 1 => comp (pw n m t) m
theorem pw_row {n : Nat} {m : List Int} (hm : Row n m) : ∀ t, Row n (pw n m t)
  | 0 => row_up n
  | t + 1 => (pw_row hm t).comp hm
theorem pw_1 {n : Nat} {m : List Int} (hm : Row n m) : pw n m 1 = m := up_comp hm
/-- the first number of turns that comes home -/
def Home (n : Nat) (m : List Int) (t : Nat) : Prop := 1 ≤ t ∧ pw n m t = up n ∧ ∀ s, 1 ≤ s → s < t → pw n m s ≠ up n
noncomputable def ordB : SM := mSeq (mSet 3 (mCall [] m_compose [] (mArg (mVar 3) (mArg (mVar 0) mNil)))) (mAug 2 dAddI (mC (.int 1)))
noncomputable def ordC : TM := mTst (mB dNe (mVar 3) (mVar 1))
theorem ne_any {ma mb : EM} {ρ ρ1 ρ2 : En} {a b : List Int} (h1 : ma ρ = .ok (.d (.tup (zs a))) ρ1) (h2 : mb ρ1 = .ok (.d (.tup (zs b))) ρ2) : mTst (mB dNe ma mb) ρ = .ok (!decide (a = b)) ρ2 := by
  have he := ne_tup a b
  refine tst_ok ?_
  unfold mB
  rw [h1]
  simp only [R.bind]
  rw [h2]
  simp only [R.bind, OV.fz, ap2, OB.get]
  rw [he]
  rfl
theorem ord_turn {n : Nat} {m : List Int} {x : D} {t : Int} {q : List Int} (h8 : n ≤ 8) (hm : Row n m) (h : Hd m x) (hq : Row n q) : ordB [.val x, tz (up n), .val (.int t), tz q] = .nx [.val x, tz (up n), .val (.int (t + 1)), tz (comp q m)] := by
  have k := call2 (f := m_compose) (ρ := [.val x, tz (up n), .val (.int t), tz q]) (v := .d (.tup (zs q))) (u := .d x) (var_val (i := 3) rfl) rfl (var_val (i := 0) rfl) rfl (compose_ok h8 hq.len (fun p hp => hm.mem.mp hp) (by rw [hm.len]; exact h8) (.inl rfl) h)
  have k1 : mSet 3 (mCall [] m_compose [] (mArg (mVar 3) (mArg (mVar 0) mNil))) [.val x, tz (up n), .val (.int t), tz q] = .nx [.val x, tz (up n), .val (.int t), tz (comp q m)] := set_d k rfl
  unfold ordB
  rw [seq_nx k1]
  simp [mAug, mC, R.st, OV.fz, OB.get, dAddI, canSet]
theorem ord_loop {n : Nat} {m : List Int} {x : D} (h8 : n ≤ 8) (hm : Row n m) (h : Hd m x) {T : Nat} (hT : Home n m T) : ∀ {k t : Nat}, t + k = T → 1 ≤ t → mWhN ordC ordB (k + 1) [.val x, tz (up n), .val (.int t), tz (pw n m t)] = .nx [.val x, tz (up n), .val (.int T), tz (up n)]
  | 0, t, hk, h1 => by
    have e : t = T := by omega
    subst e
    have c := ne_any (ρ := [.val x, tz (up n), .val (.int t), tz (pw n m t)]) (a := pw n m t) (b := up n) (var_val (i := 3) rfl) (var_val (i := 1) rfl)
    rw [decide_eq_true hT.2.1] at c
    rw [mWhN]
    have c' : ordC [.val x, tz (up n), .val (.int t), tz (pw n m t)] = .ok false [.val x, tz (up n), .val (.int t), tz (pw n m t)] := c
    rw [c']
    simp only [hT.2.1]
  | k + 1, t, hk, h1 => by
    have c := ne_any (ρ := [.val x, tz (up n), .val (.int t), tz (pw n m t)]) (a := pw n m t) (b := up n) (var_val (i := 3) rfl) (var_val (i := 1) rfl)
    rw [decide_eq_false (hT.2.2 t h1 (by omega))] at c
    rw [mWhN]
    have c' : ordC [.val x, tz (up n), .val (.int t), tz (pw n m t)] = .ok true [.val x, tz (up n), .val (.int t), tz (pw n m t)] := c
    rw [c']
    simp only
    rw [ord_turn h8 hm h (pw_row hm t)]
    have ih := ord_loop h8 hm h hT (k := k) (t := t + 1) (by omega) (by omega)
    have hc : ((t + 1 : Nat) : Int) = (t : Int) + 1 := by omega
    rw [hc] at ih
    exact ih
theorem order_ok {n : Nat} {m : List Int} {x : D} (h3 : 3 ≤ n) (h8 : n ≤ 8) (hm : Row n m) (h : Hd m x) {T : Nat} (hT : Home n m T) : m_order [.val x] = .ok (.v (.int T)) [] := by
  have hl := hm.len
  subst hl
  have e1 : b_order_1 [.val x, .un, .un, .un] = .nx [.val x, .un, .un, .un] := by
    unfold b_order_1
    exact drop_ok (call1 (f := m_judge_row) (v := .d x) (var_val (i := 0) rfl) rfl (judge_ok h3 h8 hm h))
  have e2 : b_order_2 [.val x, .un, .un, .un] = .nx [.val x, tz (up m.length), .un, .un] := by
    have hlen := len_ok (r := m) (x := x) (var_val (ρ := [.val x, .un, .un, .un]) (i := 0) rfl) h
    unfold b_order_2
    exact set_d (call1 (f := m_rounds_of) (v := .d (.int m.length)) hlen rfl (roundsof_ok h8)) rfl
  have e3 : b_order_3 [.val x, tz (up m.length), .un, .un] = .nx [.val x, tz (up m.length), .val (.int 1), .un] := by
    unfold b_order_3
    exact set_d (ρ' := [.val x, tz (up m.length), .un, .un]) rfl rfl
  have e4 : b_order_4 [.val x, tz (up m.length), .val (.int 1), .un] = .nx [.val x, tz (up m.length), .val (.int 1), tz m] := by
    unfold b_order_4
    refine set_d (ρ' := [.val x, tz (up m.length), .val (.int 1), .un]) (d := .tup (zs m)) ?_ rfl
    rcases h with rfl | rfl <;> simp [mCB, mCons, mVar, mNil, R.bind, OV.fz, apN, getAll, OB.get, g1, dTupOf, rz]
  have e5 : b_order_5 [.val x, tz (up m.length), .val (.int 1), tz m] = .nx [.val x, tz (up m.length), .val (.int T), tz (up m.length)] := by
    have hw := ord_loop h8 hm h hT (k := T - 1) (t := 1) (by have := hT.1; omega) (by omega)
    rw [pw_1 hm] at hw
    have hne : mWhN ordC ordB (T - 1 + 1) [.val x, tz (up m.length), .val (.int (1 : Nat)), tz m] ≠ .bad := by
      rw [hw]
      intro z
      cases z
    have := mWhile_eq hne
    rw [hw] at this
    exact this
  have e6 : b_order_6 [.val x, tz (up m.length), .val (.int T), tz (up m.length)] = .rt (.v (.int T)) [.val x, tz (up m.length), .val (.int T), tz (up m.length)] := by
    unfold b_order_6
    exact mRet_d (var_val (i := 2) rfl)
  unfold m_order
  refine mDef_rt (ρ := [.val x, tz (up m.length), .val (.int T), tz (up m.length)]) ?_
  show b_order [.val x, .un, .un, .un] = _
  unfold b_order
  rw [seq_nx e1, seq_nx e2, seq_nx e3, seq_nx e4, seq_nx e5, e6]
end K01
set_option Elab.async false
set_option linter.all false
set_option maxRecDepth 100000
set_option maxHeartbeats 4000000
namespace K01
open PySem Mi
theorem and_ff {a b : TM} {ρ ρ1 : En} (h1 : a ρ = .ok false ρ1) : mAnd a b ρ = .ok false ρ1 := by
  unfold mAnd
  rw [h1]
  rfl
theorem and_tt {a b : TM} {ρ ρ1 ρ2 : En} {c : Bool} (h1 : a ρ = .ok true ρ1) (h2 : b ρ1 = .ok c ρ2) : mAnd a b ρ = .ok c ρ2 := by
  unfold mAnd
  rw [h1]
  simp only [R.bind]
  exact h2
theorem eq_any {ma mb : EM} {ρ ρ1 ρ2 : En} {a b : List Int} (h1 : ma ρ = .ok (.d (.tup (zs a))) ρ1) (h2 : mb ρ1 = .ok (.d (.tup (zs b))) ρ2) : mTst (mB dEq ma mb) ρ = .ok (decide (a = b)) ρ2 := by
  have he := eq_tup a b
  refine tst_ok ?_
  unfold mB
  rw [h1]
  simp only [R.bind]
  rw [h2]
  simp only [R.bind, OV.fz, ap2, OB.get]
  rw [he]
  rfl
noncomputable def lordB : SM := mSeq (mSet 2 (mCall [] m__law_moved [] (mArg (mVar 2) (mArg (mVar 0) mNil)))) (mIfS ((mAnd (mTst (mB dEq (mVar 1) (mC (.int 0)))) (mTst (mB dEq (mVar 2) (mCall [] m__law_rounds [] (mArg (mCB (g1 dLen) (mCons (mVar 0) mNil)) mNil)))))) (mSet 1 (mVar 3)) mNext)
def due (T s : Nat) : Int := if T ≤ s then (T : Int) else 0
theorem lord_step {n : Nat} {m : List Int} {T s : Nat} (h8 : n ≤ 8) (hm : Row n m) (hT : Home n m T) : lordB [tz m, .val (.int (due T s)), tz (pw n m s), .val (.int ((s + 1 : Nat) : Int))] = .nx [tz m, .val (.int (due T (s + 1))), tz (pw n m (s + 1)), .val (.int ((s + 1 : Nat) : Int))] := by
  have hl := hm.len
  subst hl
  have k := call2 (f := m__law_moved) (ρ := [tz m, .val (.int (due T s)), tz (pw m.length m s), .val (.int ((s + 1 : Nat) : Int))]) (v := .d (.tup (zs (pw m.length m s)))) (u := .d (.tup (zs m))) (var_val (i := 2) rfl) rfl (var_val (i := 0) rfl) rfl (lmoved_ok h8 (pw_row hm s).len hm)
  have k1 : mSet 2 (mCall [] m__law_moved [] (mArg (mVar 2) (mArg (mVar 0) mNil))) [tz m, .val (.int (due T s)), tz (pw m.length m s), .val (.int ((s + 1 : Nat) : Int))] = .nx [tz m, .val (.int (due T s)), tz (pw m.length m (s + 1)), .val (.int ((s + 1 : Nat) : Int))] := set_d k rfl
  have hlen := len_ok (r := m) (x := .tup (zs m)) (var_val (ρ := [tz m, .val (.int (due T s)), tz (pw m.length m (s + 1)), .val (.int ((s + 1 : Nat) : Int))]) (i := 0) rfl) (.inl rfl)
  have k2 := call1 (f := m__law_rounds) (v := .d (.int m.length)) hlen rfl (lrounds_ok h8)
  have k3 := eq_any (ma := mVar 2) (ρ := [tz m, .val (.int (due T s)), tz (pw m.length m (s + 1)), .val (.int ((s + 1 : Nat) : Int))]) (a := pw m.length m (s + 1)) (var_val (i := 2) rfl) k2
  have k4 := eq_int (ρ := [tz m, .val (.int (due T s)), tz (pw m.length m (s + 1)), .val (.int ((s + 1 : Nat) : Int))]) (i := 1) (p := due T s) (k := 0) rfl
  unfold lordB
  rw [seq_nx k1]
  have h1 := hT.1
  by_cases c : T ≤ s
  · have d1 : due T s = T := if_pos c
    have d2 : due T (s + 1) = T := if_pos (by omega)
    have hz : ¬ due T s = 0 := by rw [d1]; omega
    rw [decide_eq_false hz] at k4
    rw [skip_ok (and_ff k4), d1, d2]
  · have d1 : due T s = 0 := if_neg c
    rw [decide_eq_true d1] at k4
    by_cases e : T = s + 1
    · have d2 : due T (s + 1) = ((s + 1 : Nat) : Int) := by
        unfold due
        rw [if_pos (by omega), e]
      have hp : pw m.length m (s + 1) = up m.length := by rw [← e]; exact hT.2.1
      rw [decide_eq_true hp] at k3
      rw [if_tt (and_tt k4 k3), d2]
      exact set_d (var_val (i := 3) rfl) rfl
    · have d2 : due T (s + 1) = 0 := if_neg (by omega)
      rw [decide_eq_false (hT.2.2 (s + 1) (by omega) (by omega))] at k3
      rw [skip_ok (and_tt k4 k3), d1, d2]
theorem lord_loop {n : Nat} {m : List Int} {T : Nat} (h8 : n ≤ 8) (hm : Row n m) (hT : Home n m T) : ∀ {k s : Nat} {s3 : Sl}, (s3 = .un ∨ ∃ v, s3 = .val v) → ∃ s3', mForL (gN 3) lordB ((List.range' (s + 1) k).map fun (i : Nat) => IV.one (.int (i : Int))) [tz m, .val (.int (due T s)), tz (pw n m s), s3] = .nx [tz m, .val (.int (due T (s + k))), tz (pw n m (s + k)), s3']
  | 0, s, s3, _ => ⟨s3, rfl⟩
  | k + 1, s, s3, h3 => by
    obtain ⟨s4, h4⟩ := lord_loop h8 hm hT (k := k) (s := s + 1) (s3 := .val (.int ((s + 1 : Nat) : Int))) (.inr ⟨_, rfl⟩)
    refine ⟨s4, ?_⟩
    rw [List.range'_succ, List.map_cons]
    unfold mForL
    have g : gN 3 (IV.one (.int ((s + 1 : Nat) : Int))) [tz m, .val (.int (due T s)), tz (pw n m s), s3] = some [tz m, .val (.int (due T s)), tz (pw n m s), .val (.int ((s + 1 : Nat) : Int))] := by
      rcases h3 with rfl | ⟨v, rfl⟩ <;> simp [gN, canSet]
    simp only [g, lord_step h8 hm hT]
    have e : s + (k + 1) = s + 1 + k := by omega
    rw [e]
    exact h4
theorem rng2_k {ma mb : EM} {ρ : En} {j k : Int} (h0 : -1000 ≤ j ∧ j ≤ 1000) (h8 : -1000 ≤ k ∧ k ≤ 1000) (h1 : ma ρ = .ok (.d (.int j)) ρ) (h2 : mb ρ = .ok (.d (.int k)) ρ) : mRng2 ma mb ρ = .ok ((rgD j k).map .one) ρ := by
  unfold mRng2
  rw [h1]
  simp only [R.bind]
  rw [h2]
  simp only [R.bind, rgI]
  rw [if_pos (by omega)]
theorem lorder_ok {n : Nat} {m : List Int} (h8 : n ≤ 8) (hm : Row n m) {T : Nat} (hT : Home n m T) (h19 : T ≤ 19) : m__law_order [tz m] = .ok (.v (.int T)) [] := by
  have hl := hm.len
  subst hl
  have e1 : b__law_order_1 [tz m, .un, .un, .un] = .nx [tz m, .val (.int 0), .un, .un] := by
    unfold b__law_order_1
    exact set_d (ρ' := [tz m, .un, .un, .un]) rfl rfl
  have e2 : b__law_order_2 [tz m, .val (.int 0), .un, .un] = .nx [tz m, .val (.int 0), tz (up m.length), .un] := by
    have hlen := len_ok (r := m) (x := .tup (zs m)) (var_val (ρ := [tz m, .val (.int 0), .un, .un]) (i := 0) rfl) (.inl rfl)
    unfold b__law_order_2
    exact set_d (call1 (f := m__law_rounds) (v := .d (.int m.length)) hlen rfl (lrounds_ok h8)) rfl
  obtain ⟨s3, hloop⟩ := lord_loop h8 hm hT (k := 19) (s := 0) (s3 := .un) (.inl rfl)
  have hd0 : due T 0 = 0 := if_neg (by have := hT.1; omega)
  have hd : due T (0 + 19) = T := if_pos (by omega)
  rw [hd0, hd] at hloop
  have e3 : b__law_order_3 [tz m, .val (.int 0), tz (up m.length), .un] = .nx [tz m, .val (.int T), tz (pw m.length m (0 + 19)), s3] := by
    have hr := rng2_k (ρ := [tz m, .val (.int 0), tz (up m.length), .un]) (ma := mC (.int 1)) (mb := mC (.int 20)) (j := 1) (k := 20) (by omega) (by omega) rfl rfl
    unfold b__law_order_3 mFor
    rw [hr]
    exact hloop
  have e4 : b__law_order_4 [tz m, .val (.int T), tz (pw m.length m (0 + 19)), s3] = .rt (.v (.int T)) [tz m, .val (.int T), tz (pw m.length m (0 + 19)), s3] := by
    unfold b__law_order_4
    exact mRet_d (var_val (i := 1) rfl)
  unfold m__law_order
  refine mDef_rt (ρ := [tz m, .val (.int T), tz (pw m.length m (0 + 19)), s3]) ?_
  show b__law_order [tz m, .un, .un, .un] = _
  unfold b__law_order
  rw [seq_nx e1, seq_nx e2, seq_nx e3, e4]
end K01
set_option Elab.async false
set_option linter.all false
set_option maxRecDepth 100000
set_option maxHeartbeats 4000000
namespace K01
open PySem Mi
/-- where a bell comes to in t turns -/
def it (m : List Int) : Nat → Int → Int
  | 0, p => p
  | t + 1, p => it m t (nth m p)
theorem it_add (m : List Int) (a : Nat) : ∀ (b : Nat) (p : Int), it m (a + b) p = it m a (it m b p)
  | 0, p => rfl
  | b + 1, p => it_add m a b (nth m p)
section
variable {n : Nat} {m : List Int} (hm : Row n m)
include hm
theorem nth_in {p : Int} (h : 1 ≤ p ∧ p ≤ n) : 1 ≤ nth m p ∧ nth m p ≤ n := hm.mem.mp (nth_mem h.1 (by rw [hm.len]; exact h.2))
theorem it_in : ∀ (t : Nat) {p : Int}, 1 ≤ p ∧ p ≤ n → 1 ≤ it m t p ∧ it m t p ≤ n
  | 0, p, h => h
  | t + 1, p, h => it_in t (nth_in hm h)
theorem nth_inj {p q : Int} (hp : 1 ≤ p ∧ p ≤ n) (hq : 1 ≤ q ∧ q ≤ n) (e : nth m p = nth m q) : p = q := by
  have h1 := pos_nth hm.nodup hp.1 (by rw [hm.len]; exact hp.2)
  have h2 := pos_nth hm.nodup hq.1 (by rw [hm.len]; exact hq.2)
  rw [← h1, ← h2, e]
theorem it_inj : ∀ (t : Nat) {p q : Int}, 1 ≤ p ∧ p ≤ n → 1 ≤ q ∧ q ≤ n → it m t p = it m t q → p = q
  | 0, p, q, _, _, e => e
  | t + 1, p, q, hp, hq, e => nth_inj hm hp hq (it_inj t (nth_in hm hp) (nth_in hm hq) e)
theorem nth_pw : ∀ (t : Nat) {p : Int}, 1 ≤ p ∧ p ≤ n → nth (pw n m t) p = it m t p
  | 0, p, h => nth_up h.1 h.2
  | t + 1, p, h => by
    show nth (comp (pw n m t) m) p = it m t (nth m p)
    rw [nth_comp h.1 (by rw [hm.len]; exact h.2)]
    exact nth_pw t (nth_in hm h)
theorem pw_home {t : Nat} (h : ∀ p, 1 ≤ p ∧ p ≤ (n : Int) → it m t p = p) : pw n m t = up n := by
  have hr := pw_row hm t
  rw [← comp_up hr]
  unfold comp
  refine (List.map_congr_left (g := id) fun p hp => ?_).trans (List.map_id _)
  have hp' := (row_up n).mem.mp hp
  rw [nth_pw hm t hp', h p hp']
  rfl
/-- every bell comes back in at most n turns -/
theorem back {p : Int} (hp : 1 ≤ p ∧ p ≤ n) : ∃ k, 1 ≤ k ∧ k ≤ n ∧ it m k p = p := by
  refine Classical.byContradiction fun hno => ?_
  have hnd : ((List.range (n + 1)).map fun t => it m t p).Nodup := by
    unfold List.Nodup
    rw [List.pairwise_map]
    refine List.Pairwise.imp_of_mem ?_ (List.pairwise_lt_range (n := n + 1))
    intro a b ha hb hab e
    have hb' := List.mem_range.mp hb
    have e2 : it m a (it m (b - a) p) = it m a p := by
      rw [← it_add, show a + (b - a) = b by omega]
      exact e.symm
    exact hno ⟨b - a, by omega, by omega, it_inj hm a (it_in hm _ hp) hp e2⟩
  have hsub : ((List.range (n + 1)).map fun t => it m t p) ⊆ up n := by
    intro x hx
    obtain ⟨t, _, rfl⟩ := List.mem_map.mp hx
    exact (row_up n).mem.mpr (it_in hm t hp)
  have := hnd.length_le_of_subset hsub
  rw [up_len, List.length_map, List.length_range] at this
  omega
end
theorem it_mul {m : List Int} {k : Nat} {p : Int} (h : it m k p = p) : ∀ j, it m (k * j) p = p
  | 0 => rfl
  | j + 1 => by
    rw [Nat.mul_succ, it_add, h, it_mul h j]
/-- the least number of turns, by search -/
theorem least {P : Nat → Prop} : ∀ {t : Nat}, 1 ≤ t → P t → ∃ T, 1 ≤ T ∧ T ≤ t ∧ P T ∧ ∀ s, 1 ≤ s → s < T → ¬ P s := fun {t} => by
  induction t using Nat.strongRecOn with
  | _ t ih =>
    intro h1 hp
    by_cases c : ∃ s, 1 ≤ s ∧ s < t ∧ P s
    · obtain ⟨s, a, b, d⟩ := c
      obtain ⟨T, e1, e2, e3, e4⟩ := ih s b a d
      exact ⟨T, e1, by omega, e3, e4⟩
    · exact ⟨t, h1, Nat.le_refl _, hp, fun s a b d => c ⟨s, a, b, d⟩⟩
end K01
set_option Elab.async false
set_option linter.all false
set_option maxRecDepth 100000
set_option maxHeartbeats 4000000
namespace K01
open PySem Mi
/-- p comes back first after k turns -/
def Per (m : List Int) (p : Int) (k : Nat) : Prop := 1 ≤ k ∧ it m k p = p ∧ ∀ s, 1 ≤ s → s < k → it m s p ≠ p
theorem Per.one {m : List Int} {p : Int} {j k : Nat} (h : Per m p j) (h' : Per m p k) : j = k := by
  rcases Nat.lt_trichotomy j k with c | c | c
  · exact absurd h.2.1 (h'.2.2 j h.1 c)
  · exact c
  · exact absurd h'.2.1 (h.2.2 k h'.1 c)
def fl : List Nat → List Bool → List Nat
  | k :: ks, b :: bs => if b then k :: fl ks bs else fl ks bs
  | _, _ => []
theorem fl_eq (q : Nat → Bool) : ∀ l : List Nat, l.filter q = fl l (l.map q)
  | [] => rfl
  | k :: l => by
    rw [List.map_cons, List.filter_cons, fl_eq q l]
    rfl
def lc (l : List Nat) : Nat := l.foldl Nat.lcm 1
theorem finite : ∀ a b c d e f g h : Bool, (fl [1, 2, 3, 4, 5, 6, 7, 8] [a, b, c, d, e, f, g, h]).sum ≤ 8 → 1 ≤ lc (fl [1, 2, 3, 4, 5, 6, 7, 8] [a, b, c, d, e, f, g, h]) ∧ lc (fl [1, 2, 3, 4, 5, 6, 7, 8] [a, b, c, d, e, f, g, h]) ≤ 15 ∧ (fl [1, 2, 3, 4, 5, 6, 7, 8] [a, b, c, d, e, f, g, h]).all (fun k => lc (fl [1, 2, 3, 4, 5, 6, 7, 8] [a, b, c, d, e, f, g, h]) % k == 0) = true := by decide +kernel
section
variable {n : Nat} {m : List Int} (hm : Row n m)
include hm
theorem per_ex {p : Int} (hp : 1 ≤ p ∧ p ≤ n) : ∃ k, k ≤ n ∧ Per m p k := by
  obtain ⟨t, h1, h2, h3⟩ := back hm hp
  obtain ⟨T, a, b, c, d⟩ := least (P := fun t => it m t p = p) h1 h3
  exact ⟨T, by omega, a, c, d⟩
theorem per_it {p : Int} {k : Nat} (hp : 1 ≤ p ∧ p ≤ n) (h : Per m p k) (t : Nat) : Per m (it m t p) k := by
  have sw : ∀ s, it m s (it m t p) = it m t (it m s p) := fun s => by
    rw [← it_add, ← it_add, Nat.add_comm]
  refine ⟨h.1, by rw [sw, h.2.1], fun s a b e => ?_⟩
  rw [sw] at e
  exact h.2.2 s a b (it_inj hm t (it_in hm s hp) hp e)
theorem orb_nodup {p : Int} {k : Nat} (hp : 1 ≤ p ∧ p ≤ n) (h : Per m p k) : ((List.range k).map fun t => it m t p).Nodup := by
  unfold List.Nodup
  rw [List.pairwise_map]
  refine List.Pairwise.imp_of_mem ?_ (List.pairwise_lt_range (n := k))
  intro a b ha hb hab e
  have hb' := List.mem_range.mp hb
  have e2 : it m a (it m (b - a) p) = it m a p := by
    rw [← it_add, show a + (b - a) = b by omega]
    exact e.symm
  exact h.2.2 (b - a) (by omega) (by omega) (it_inj hm a (it_in hm _ hp) hp e2)
open Classical in
theorem home_ex (h8 : n ≤ 8) : ∃ T, T ≤ 15 ∧ Home n m T := by
  let q : Nat → Bool := fun k => decide (∃ p : Int, (1 ≤ p ∧ p ≤ n) ∧ Per m p k)
  let ks : List Nat := [1, 2, 3, 4, 5, 6, 7, 8].filter q
  have hq : ∀ k ∈ ks, ∃ p : Int, (1 ≤ p ∧ p ≤ n) ∧ Per m p k := fun k hk => of_decide_eq_true (List.mem_filter.mp hk).2
  let c : Nat → Int := fun k => if h : ∃ p : Int, (1 ≤ p ∧ p ≤ n) ∧ Per m p k then Classical.choose h else 0
  have hc : ∀ k ∈ ks, (1 ≤ c k ∧ c k ≤ n) ∧ Per m (c k) k := fun k hk => by
    have h := hq k hk
    show (1 ≤ (if h : ∃ p : Int, (1 ≤ p ∧ p ≤ n) ∧ Per m p k then Classical.choose h else 0) ∧ (if h : ∃ p : Int, (1 ≤ p ∧ p ≤ n) ∧ Per m p k then Classical.choose h else 0) ≤ (n : Int)) ∧ Per m (if h : ∃ p : Int, (1 ≤ p ∧ p ≤ n) ∧ Per m p k then Classical.choose h else 0) k
    rw [dif_pos h]
    exact Classical.choose_spec h
  have hnd : (ks.flatMap fun k => (List.range k).map fun t => it m t (c k)).Nodup := by
    unfold List.Nodup
    rw [List.pairwise_flatMap]
    refine ⟨fun k hk => orb_nodup hm (hc k hk).1 (hc k hk).2, ?_⟩
    have hks : ks.Pairwise (· ≠ ·) := (List.Pairwise.filter q (by decide : [1, 2, 3, 4, 5, 6, 7, 8].Pairwise (· ≠ ·)))
    refine List.Pairwise.imp_of_mem ?_ hks
    intro a b ha hb hab x hx y hy e
    obtain ⟨s, _, rfl⟩ := List.mem_map.mp hx
    obtain ⟨t, _, rfl⟩ := List.mem_map.mp hy
    have p1 := per_it hm (hc a ha).1 (hc a ha).2 s
    have p2 := per_it hm (hc b hb).1 (hc b hb).2 t
    rw [e] at p1
    exact hab (p1.one p2)
  have hsub : (ks.flatMap fun k => (List.range k).map fun t => it m t (c k)) ⊆ up n := by
    intro x hx
    obtain ⟨k, hk, hx⟩ := List.mem_flatMap.mp hx
    obtain ⟨t, _, rfl⟩ := List.mem_map.mp hx
    exact (row_up n).mem.mpr (it_in hm t (hc k hk).1)
  have hlen := hnd.length_le_of_subset hsub
  rw [up_len, List.length_flatMap] at hlen
  have hsum : ks.sum ≤ 8 := by
    have : (ks.map fun k => ((List.range k).map fun t => it m t (c k)).length) = ks := by
      refine (List.map_congr_left (g := id) fun k _ => ?_).trans (List.map_id _)
      simp
    rw [this] at hlen
    omega
  have hfin := finite (q 1) (q 2) (q 3) (q 4) (q 5) (q 6) (q 7) (q 8)
  have hke : fl [1, 2, 3, 4, 5, 6, 7, 8] [q 1, q 2, q 3, q 4, q 5, q 6, q 7, q 8] = ks := (fl_eq q [1, 2, 3, 4, 5, 6, 7, 8]).symm
  rw [hke] at hfin
  obtain ⟨f1, f2, f3⟩ := hfin hsum
  have hhome : pw n m (lc ks) = up n := pw_home hm fun p hp => by
    obtain ⟨k, hk, hper⟩ := per_ex hm hp
    have hk1 := hper.1
    have hkm : k ∈ ks := by
      refine List.mem_filter.mpr ⟨?_, decide_eq_true ⟨p, hp, hper⟩⟩
      have : k = 1 ∨ k = 2 ∨ k = 3 ∨ k = 4 ∨ k = 5 ∨ k = 6 ∨ k = 7 ∨ k = 8 := by omega
      simpa using this
    have hd : lc ks % k = 0 := by
      have := List.all_eq_true.mp f3 k hkm
      simpa using this
    have he : lc ks = k * (lc ks / k) := by
      have := Nat.div_add_mod (lc ks) k
      omega
    rw [he]
    exact it_mul hper.2.1 _
  obtain ⟨T, a, b, d, e⟩ := least (P := fun t => pw n m t = up n) f1 hhome
  exact ⟨T, by omega, a, d, e⟩
end
end K01
set_option Elab.async false
set_option linter.all false
set_option maxRecDepth 100000
set_option maxHeartbeats 4000000
namespace K01
open PySem Mi
/-- how many pairs stand the wrong way -/
def inv : List Int → Nat
  | [] => 0
  | a :: l => l.countP (fun b => decide (b < a)) + inv l
theorem inv_sorted : ∀ {l : List Int}, l.Pairwise (· ≤ ·) → inv l = 0
  | [], _ => rfl
  | a :: l, h => by
    obtain ⟨h1, h2⟩ := List.pairwise_cons.mp h
    have hc : l.countP (fun b => decide (b < a)) = 0 := by
      rw [List.countP_eq_zero]
      intro b hb
      have := h1 b hb
      simp
      omega
    show l.countP (fun b => decide (b < a)) + inv l = 0
    rw [hc, inv_sorted h2]
theorem inv_map (f : Int → Int) {l l' : List Int} (p : l.Perm l') : l.Nodup → (∀ a ∈ l, ∀ b ∈ l, f a = f b → a = b) → (inv (l.map f) + inv l) % 2 = (inv (l'.map f) + inv l') % 2 := by
  induction p with
  | nil => intro _ _; rfl
  | cons a p ih =>
    rename_i l1 l2
    intro hn hf
    have ih' := ih (List.nodup_cons.mp hn).2 (fun x hx y hy => hf x (List.mem_cons_of_mem _ hx) y (List.mem_cons_of_mem _ hy))
    have c1 := (p.map f).countP_eq (fun b => decide (b < f a))
    have c2 := p.countP_eq (fun b => decide (b < a))
    show ((l1.map f).countP (fun b => decide (b < f a)) + inv (l1.map f) + (l1.countP (fun b => decide (b < a)) + inv l1)) % 2 = ((l2.map f).countP (fun b => decide (b < f a)) + inv (l2.map f) + (l2.countP (fun b => decide (b < a)) + inv l2)) % 2
    omega
  | swap a b l =>
    intro hn hf
    have hab : b ≠ a := fun e => by
      subst e
      simp at hn
    have hfab : f b ≠ f a := fun e => hab (hf b (by simp) a (by simp) e)
    simp only [List.map_cons, inv, List.countP_cons]
    by_cases c : a < b <;> by_cases d : f a < f b
    · have c' : ¬ b < a := by omega
      have d' : ¬ f b < f a := by omega
      simp [c, d, c', d']
      omega
    · have c' : ¬ b < a := by omega
      have d' : f b < f a := by omega
      simp [c, d, c', d']
      omega
    · have c' : b < a := by omega
      have d' : ¬ f b < f a := by omega
      simp [c, d, c', d']
      omega
    · have c' : b < a := by omega
      have d' : f b < f a := by omega
      simp [c, d, c', d']
      omega
  | trans p q ih1 ih2 =>
    intro hn hf
    rw [ih1 hn hf]
    exact ih2 (p.nodup_iff.mp hn) (fun x hx y hy => hf x (p.mem_iff.mpr hx) y (p.mem_iff.mpr hy))
/-- the parity of a row moved -/
theorem inv_comp {n : Nat} {r m : List Int} (hr : Row n r) (hm : Row n m) : inv (comp r m) % 2 = (inv r + inv m) % 2 := by
  have h := inv_map (nth r) (l := m) (l' := up n) hm hm.nodup (fun a ha b hb e => nth_inj hr (hm.mem.mp ha) (hm.mem.mp hb) e)
  have h1 : (up n).map (nth r) = r := comp_up hr
  rw [h1, inv_sorted (up_sorted n)] at h
  have h2 : inv (comp r m) = inv (m.map (nth r)) := rfl
  omega
end K01
set_option Elab.async false
set_option linter.all false
set_option maxRecDepth 100000
set_option maxHeartbeats 4000000
namespace K01
open PySem Mi
theorem cut_drop {m : List Int} {s : Nat} (hs : s < m.length) : cutL (zs m) (some ((s : Int) + 1)) none = zs (m.drop (s + 1)) := by
  have h1 : HT.sIx (zs m).length 0 (some ((s : Int) + 1)) = s + 1 := by
    have hneg : ¬ ((s : Int) + 1 < 0) := by omega
    unfold HT.sIx
    simp [hneg]
    omega
  have h2 : HT.sIx (zs m).length (zs m).length none = m.length := by
    unfold HT.sIx
    simp
  unfold cutL
  rw [h1, h2, zs, zs, List.map_drop]
  refine List.take_of_length_le ?_
  simp
theorem add_ok {ma mb : EM} {ρ ρ1 ρ2 : En} {a b : Int} (h1 : ma ρ = .ok (.d (.int a)) ρ1) (h2 : mb ρ1 = .ok (.d (.int b)) ρ2) : mB dAdd ma mb ρ = .ok (.d (.int (a + b))) ρ2 := by
  unfold mB
  rw [h1]
  simp only [R.bind]
  rw [h2]
  simp only [R.bind, OV.fz, ap2, OB.get, e_add, rz]
noncomputable def levB : SM := mSet 1 (mB dAdd (mVar 1) (mCB (g1 dLen) (mCons (mComp [3] (mSeqI (mSl (mVar 0) (mPart (mB dAdd (mVar 2) (mC (.int 1)))) mNoP)) (gN 3) ((mTst (mB dLt (mVar 3) (mB dIx (mVar 0) (mVar 2))))) (mVar 3)) mNil)))
/-- pairs that stand the wrong way, of which the first stands before the place s -/
def invTo (m : List Int) : Nat → Nat
  | 0 => 0
  | s + 1 => invTo m s + (m.drop (s + 1)).countP (fun b => decide (b < m.getD s 0))
theorem lev_step {m : List Int} {s : Nat} (h8 : m.length ≤ 8) (hs : s < m.length) : levB [tz m, .val (.int (invTo m s : Nat)), .val (.int s), .un] = .nx [tz m, .val (.int (invTo m (s + 1) : Nat)), .val (.int s), .un] := by
  have hix := at_ix hs
  have hi : mSeqI (mSl (mVar 0) (mPart (mB dAdd (mVar 2) (mC (.int 1)))) mNoP) [tz m, .val (.int (invTo m s : Nat)), .val (.int s), .un] = .ok ((zs (m.drop (s + 1))).map .one) [tz m, .val (.int (invTo m s : Nat)), .val (.int s), .un] := by
    have hk := cut_drop hs
    simp [mSeqI, mSl, mVar, mPart, mNoP, mB, mC, R.bind, OV.fz, OB.get, ap2, rz, e_add, obI, apSl, hk, esc, itD]
  have hc := comp_filter (v := 3) (im := mSeqI (mSl (mVar 0) (mPart (mB dAdd (mVar 2) (mC (.int 1)))) mNoP)) (tt := mTst (mB dLt (mVar 3) (mB dIx (mVar 0) (mVar 2)))) (te := mVar 3) (ρ := [tz m, .val (.int (invTo m s : Nat)), .val (.int s), .un])
    (c := fun d => match d with | .int b => decide (b < m[s]) | _ => false) (f := id) (ys := zs (m.drop (s + 1))) rfl hi (fun d hd => by
      obtain ⟨b, _, rfl⟩ := List.mem_map.mp hd
      simp [mTst, mB, mVar, R.bind, OV.fz, OB.get, ap2, rz, dIx, hix, e_lt, tb]) (fun d hd => ⟨.d d, by simp [mVar], rfl⟩) (by simp; unfold BIG; omega)
  have hcnt : ((zs (m.drop (s + 1))).filter (fun d => match d with | .int b => decide (b < m[s]) | _ => false)).length = (m.drop (s + 1)).countP (fun b => decide (b < m[s])) := by
    rw [← List.countP_eq_length_filter, zs, List.countP_map]
    rfl
  have hg : m.getD s 0 = m[s] := by
    rw [List.getD_eq_getElem?_getD, List.getElem?_eq_getElem hs]
    rfl
  rw [List.map_id] at hc
  have hl : mCB (g1 dLen) (mCons (mComp [3] (mSeqI (mSl (mVar 0) (mPart (mB dAdd (mVar 2) (mC (.int 1)))) mNoP)) (gN 3) ((mTst (mB dLt (mVar 3) (mB dIx (mVar 0) (mVar 2))))) (mVar 3)) mNil) [tz m, .val (.int (invTo m s : Nat)), .val (.int s), .un] = .ok (.d (.int ((m.drop (s + 1)).countP (fun b => decide (b < m[s])) : Nat))) [tz m, .val (.int (invTo m s : Nat)), .val (.int s), .un] := by
    simp only [mCB, mCons, hc, mNil, R.bind, OV.fz, apN, getAll, OB.get, Ow.d, g1, dLen, rz, hcnt]
  have he : mB dAdd (mVar 1) (mCB (g1 dLen) (mCons (mComp [3] (mSeqI (mSl (mVar 0) (mPart (mB dAdd (mVar 2) (mC (.int 1)))) mNoP)) (gN 3) ((mTst (mB dLt (mVar 3) (mB dIx (mVar 0) (mVar 2))))) (mVar 3)) mNil)) [tz m, .val (.int (invTo m s : Nat)), .val (.int s), .un] = .ok (.d (.int (invTo m (s + 1) : Nat))) [tz m, .val (.int (invTo m s : Nat)), .val (.int s), .un] := by
    refine (add_ok (var_val (i := 1) (d := .int (invTo m s : Nat)) rfl) hl).trans ?_
    have : (invTo m (s + 1) : Nat) = invTo m s + (m.drop (s + 1)).countP (fun b => decide (b < m[s])) := by
      show invTo m s + (m.drop (s + 1)).countP (fun b => decide (b < m.getD s 0)) = _
      rw [hg]
    rw [this]
    simp
  unfold levB
  exact set_d he rfl
theorem invTo_all : ∀ {m : List Int} {k s : Nat}, s + k = m.length → invTo m s + inv (m.drop s) = inv m → invTo m m.length = inv m
  | m, 0, s, h, e => by
    have : s = m.length := by omega
    subst this
    simpa [inv] using e
  | m, k + 1, s, h, e => by
    have hs : s < m.length := by omega
    refine invTo_all (k := k) (s := s + 1) (by omega) ?_
    have hd : m.drop s = m[s] :: m.drop (s + 1) := List.drop_eq_getElem_cons hs
    rw [hd] at e
    have hg : m.getD s 0 = m[s] := by
      rw [List.getD_eq_getElem?_getD, List.getElem?_eq_getElem hs]
      rfl
    have e2 : inv (m[s] :: m.drop (s + 1)) = (m.drop (s + 1)).countP (fun b => decide (b < m[s])) + inv (m.drop (s + 1)) := rfl
    rw [e2] at e
    show invTo m s + (m.drop (s + 1)).countP (fun b => decide (b < m.getD s 0)) + inv (m.drop (s + 1)) = inv m
    rw [hg]
    omega
end K01
set_option Elab.async false
set_option linter.all false
set_option maxRecDepth 100000
set_option maxHeartbeats 4000000
namespace K01
open PySem Mi
theorem lev_loop {m : List Int} (h8 : m.length ≤ 8) : ∀ {k s : Nat} {s2 : Sl}, s + k = m.length → (s2 = .un ∨ ∃ v, s2 = .val v) → ∃ s2', mForL (gN 2) levB ((List.range' s k).map fun (i : Nat) => IV.one (.int (i : Int))) [tz m, .val (.int (invTo m s : Nat)), s2, .un] = .nx [tz m, .val (.int (invTo m m.length : Nat)), s2', .un]
  | 0, s, s2, hs, _ => by
    have : s = m.length := by omega
    subst this
    exact ⟨s2, rfl⟩
  | k + 1, s, s2, hs, h2 => by
    obtain ⟨s3, h3⟩ := lev_loop h8 (k := k) (s := s + 1) (s2 := .val (.int s)) (by omega) (.inr ⟨_, rfl⟩)
    refine ⟨s3, ?_⟩
    rw [List.range'_succ, List.map_cons]
    unfold mForL
    have g : gN 2 (IV.one (.int (s : Int))) [tz m, .val (.int (invTo m s : Nat)), s2, .un] = some [tz m, .val (.int (invTo m s : Nat)), .val (.int s), .un] := by
      rcases h2 with rfl | ⟨v, rfl⟩ <;> simp [gN, canSet]
    simp only [g, lev_step h8 (show s < m.length by omega)]
    exact h3
/-- x % 2 == 0 of a number at hand -/
theorem even_k {ρ : En} {i : Nat} {c : Int} (h : ρ[i]? = some (.val (.int c))) : mRet (mB dEq (mB dMod (mCB (g1 dInt) (mCons (mVar i) mNil)) (mC (.int 2))) (mC (.int 0))) ρ = .rt (.v (.bl (decide (c % 2 = 0)))) ρ := by
  refine mRet_d ?_
  simp [mB, mCB, mCons, var_val h, mNil, mC, R.bind, OV.fz, apN, getAll, OB.get, g1, dInt, rz, ap2, e_mod, e_int]
theorem leven_ok {m : List Int} (h8 : m.length ≤ 8) : m__law_is_even [tz m] = .ok (.v (.bl (decide ((inv m : Int) % 2 = 0)))) [] := by
  have e1 : b__law_is_even_1 [tz m, .un, .un, .un] = .nx [tz m, .val (.int 0), .un, .un] := by
    unfold b__law_is_even_1
    exact set_d (ρ' := [tz m, .un, .un, .un]) rfl rfl
  obtain ⟨s2, hl⟩ := lev_loop h8 (k := m.length) (s := 0) (s2 := .un) (by omega) (.inl rfl)
  have e2 : b__law_is_even_2 [tz m, .val (.int 0), .un, .un] = .nx [tz m, .val (.int (inv m : Nat)), s2, .un] := by
    have hlen := len_ok (r := m) (x := .tup (zs m)) (var_val (ρ := [tz m, .val (.int 0), .un, .un]) (i := 0) rfl) (.inl rfl)
    have ha := invTo_all (m := m) (k := m.length) (s := 0) (by omega) (by simp [invTo])
    rw [ha] at hl
    unfold b__law_is_even_2 mFor
    rw [rng1_ok (by omega) hlen]
    exact hl
  unfold m__law_is_even
  refine mDef_rt (ρ := [tz m, .val (.int (inv m : Nat)), s2, .un]) ?_
  show b__law_is_even [tz m, .un, .un, .un] = _
  unfold b__law_is_even
  rw [seq_nx e1, seq_nx e2]
  unfold b__law_is_even_3
  exact even_k rfl
end K01
set_option Elab.async false
set_option linter.all false
set_option maxRecDepth 100000
set_option maxHeartbeats 4000000
namespace K01
open PySem Mi
theorem ev_inner {x : D} {b s : Int} : ∀ {ys : List Int} {acc : List D}, acc.length + ys.length ≤ 1000 → foldT (turnL [4] (gN 4) (mTst (mB dLt (mVar 4) (mVar 3))) (mC (.int 1))) ((zs ys).map .one) acc [.val x, .un, .val (.int s), .val (.int b), .un] = .ok (acc ++ (ys.filter fun y => decide (y < b)).map fun _ => D.int 1) [.val x, .un, .val (.int s), .val (.int b), .un]
  | [], acc, _ => by simp [foldT]
  | y :: ys, acc, hl => by
    have hl2 : acc.length < BIG := by
      rw [List.length_cons] at hl
      unfold BIG
      omega
    show (match turnL [4] (gN 4) (mTst (mB dLt (mVar 4) (mVar 3))) (mC (.int 1)) (.one (.int y)) acc [.val x, .un, .val (.int s), .val (.int b), .un] with | .ok acc ρ => foldT (turnL [4] (gN 4) (mTst (mB dLt (mVar 4) (mVar 3))) (mC (.int 1))) ((zs ys).map .one) acc ρ | _ => .bad) = _
    by_cases c : y < b
    · have ht : turnL [4] (gN 4) (mTst (mB dLt (mVar 4) (mVar 3))) (mC (.int 1)) (.one (.int y)) acc [.val x, .un, .val (.int s), .val (.int b), .un] = .ok (acc ++ [D.int 1]) [.val x, .un, .val (.int s), .val (.int b), .un] := by
        simp [turnL, gN, canSet, mTst, mB, mVar, mC, R.bind, OV.fz, OB.get, ap2, rz, e_lt, c, tb, esc, hl2, wipeE]
      rw [ht]
      simp only
      rw [ev_inner (ys := ys) (acc := acc ++ [D.int 1]) (by simp at hl ⊢; omega), List.filter_cons_of_pos (by simpa using c)]
      simp
    · have ht : turnL [4] (gN 4) (mTst (mB dLt (mVar 4) (mVar 3))) (mC (.int 1)) (.one (.int y)) acc [.val x, .un, .val (.int s), .val (.int b), .un] = .ok acc [.val x, .un, .val (.int s), .val (.int b), .un] := by
        simp [turnL, gN, canSet, mTst, mB, mVar, mC, R.bind, OV.fz, OB.get, ap2, rz, e_lt, c, tb, wipeE]
      rw [ht]
      simp only
      rw [ev_inner (ys := ys) (acc := acc) (by simp at hl ⊢; omega), List.filter_cons_of_neg (by simpa using c)]
noncomputable def evT : IV → List D → En → R (List D) := turn2 [2, 3, 4] (gT [2, 3]) mYes (mSeqI (mSl (mVar 0) (mPart (mB dAdd (mVar 2) (mC (.int 1)))) mNoP)) [4] (gN 4) ((mTst (mB dLt (mVar 4) (mVar 3)))) (mC (.int 1))
theorem ev_turn {m : List Int} {x : D} {s : Nat} {acc : List D} (hx : Hd m x) (hs : s < m.length) (ha : acc.length + m.length ≤ 1000) : evT (.pair (.int s) (.int m[s])) acc [.val x, .un, .un, .un, .un] = .ok (acc ++ ((m.drop (s + 1)).filter fun y => decide (y < m[s])).map fun _ => D.int 1) [.val x, .un, .un, .un, .un] := by
  have hi : mSeqI (mSl (mVar 0) (mPart (mB dAdd (mVar 2) (mC (.int 1)))) mNoP) [.val x, .un, .val (.int s), .val (.int m[s]), .un] = .ok ((zs (m.drop (s + 1))).map .one) [.val x, .un, .val (.int s), .val (.int m[s]), .un] := by
    have hk := cut_drop hs
    rcases hx with rfl | rfl <;> simp [mSeqI, mSl, mVar, mPart, mNoP, mB, mC, R.bind, OV.fz, OB.get, ap2, rz, e_add, obI, apSl, hk, esc, itD, Ow.d]
  have hin := ev_inner (x := x) (b := m[s]) (s := s) (ys := m.drop (s + 1)) (acc := acc) (by rw [List.length_drop]; omega)
  have hg : gT [2, 3] (.pair (.int s) (.int m[s])) [.val x, .un, .un, .un, .un] = some [.val x, .un, .val (.int s), .val (.int m[s]), .un] := by
    simp [gT, setAll, canSet]
  unfold evT turn2
  rw [hg]
  simp only [mYes]
  rw [hi]
  simp only
  rw [if_pos (by rfl)]
  have hw : wipeE [.val x, .un, .val (.int s), .val (.int m[s]), .un] [4] = [.val x, .un, .val (.int s), .val (.int m[s]), .un] := rfl
  rw [hw, hin]
  simp only
  rw [if_pos (by rfl)]
  rfl
theorem ev_outer {m : List Int} {x : D} (hx : Hd m x) (h8 : m.length ≤ 8) : ∀ {k s : Nat} {acc : List D}, s + k = m.length → acc.length ≤ 8 * s → ∃ out : List D, out.length = acc.length + inv (m.drop s) ∧ foldT evT (enumL s (zs (m.drop s))) acc [.val x, .un, .un, .un, .un] = .ok out [.val x, .un, .un, .un, .un]
  | 0, s, acc, h, _ => by
    have : m.drop s = [] := List.drop_eq_nil_of_le (by omega)
    rw [this]
    exact ⟨acc, by simp [inv], rfl⟩
  | k + 1, s, acc, h, ha => by
    have hs : s < m.length := by omega
    have hd : m.drop s = m[s] :: m.drop (s + 1) := List.drop_eq_getElem_cons hs
    have ht := ev_turn (x := x) (acc := acc) hx hs (by omega)
    have hcl : ((m.drop (s + 1)).filter fun y => decide (y < m[s])).length ≤ 8 := Nat.le_trans (List.length_filter_le _ _) (by rw [List.length_drop]; omega)
    obtain ⟨out, h1, h2⟩ := ev_outer hx h8 (k := k) (s := s + 1) (acc := acc ++ ((m.drop (s + 1)).filter fun y => decide (y < m[s])).map fun _ => D.int 1) (by omega) (by rw [List.length_append, List.length_map]; omega)
    refine ⟨out, ?_, ?_⟩
    · rw [h1, hd, List.length_append, List.length_map, ← List.countP_eq_length_filter]
      show acc.length + _ + inv (m.drop (s + 1)) = acc.length + ((m.drop (s + 1)).countP (fun b => decide (b < m[s])) + inv (m.drop (s + 1)))
      omega
    · rw [hd]
      show (match evT (.pair (.int s) (.int m[s])) acc [.val x, .un, .un, .un, .un] with | .ok acc ρ => foldT evT (enumL (s + 1) (zs (m.drop (s + 1)))) acc ρ | _ => .bad) = _
      rw [ht]
      exact h2
end K01
set_option Elab.async false
set_option linter.all false
set_option maxRecDepth 100000
set_option maxHeartbeats 4000000
namespace K01
open PySem Mi
theorem even_len {ρ : En} {out : List D} (h : mVar 1 ρ = .ok (.o 1) ρ) (h1 : ρ[1]? = some (.own false (.lst out))) : mRet (mB dEq (mB dMod (mCB (g1 dLen) (mCons (mVar 1) mNil)) (mC (.int 2))) (mC (.int 0))) ρ = .rt (.v (.bl (decide ((out.length : Int) % 2 = 0)))) ρ := by
  refine mRet_d ?_
  simp [mB, mCB, mCons, h, h1, mNil, mC, R.bind, OV.fz, apN, getAll, OB.get, Ow.d, g1, dLen, rz, ap2, e_mod, e_int]
theorem iseven_ok {n : Nat} {m : List Int} {x : D} (h3 : 3 ≤ n) (h8 : n ≤ 8) (hm : Row n m) (hx : Hd m x) : m_is_even [.val x] = .ok (.v (.bl (decide ((inv m : Int) % 2 = 0)))) [] := by
  have hl := hm.len
  have e1 : b_is_even_1 [.val x, .un, .un, .un, .un] = .nx [.val x, .un, .un, .un, .un] := by
    unfold b_is_even_1
    exact drop_ok (call1 (f := m_judge_row) (v := .d x) (var_val (i := 0) rfl) rfl (judge_ok h3 h8 hm hx))
  obtain ⟨out, ho, hf⟩ := ev_outer (x := x) hx (by omega) (k := m.length) (s := 0) (acc := []) (by omega) (by simp)
  have ho' : out.length = inv m := by simpa using ho
  have hi : mEnum (mVar 0) [.val x, .un, .un, .un, .un] = .ok (enumL 0 (zs m)) [.val x, .un, .un, .un, .un] := by
    rcases hx with rfl | rfl <;> simp [mEnum, mVar, R.bind, OV.fz, esc, seqD]
  have hc : mComp2 [2, 3, 4] (mEnum (mVar 0)) (gT [2, 3]) (mYes) (mSeqI (mSl (mVar 0) (mPart (mB dAdd (mVar 2) (mC (.int 1)))) mNoP)) [4] (gN 4) ((mTst (mB dLt (mVar 4) (mVar 3)))) (mC (.int 1)) [.val x, .un, .un, .un, .un] = .ok (.n (.lst out)) [.val x, .un, .un, .un, .un] := by
    have hw : wipeE [Sl.val x, .un, .un, .un, .un] [2, 3, 4] = [.val x, .un, .un, .un, .un] := rfl
    have hr : restE [Sl.val x, .un, .un, .un, .un] [Sl.val x, .un, .un, .un, .un] [2, 3, 4] = [.val x, .un, .un, .un, .un] := rfl
    have hf' : foldT (turn2 [2, 3, 4] (gT [2, 3]) mYes (mSeqI (mSl (mVar 0) (mPart (mB dAdd (mVar 2) (mC (.int 1)))) mNoP)) [4] (gN 4) ((mTst (mB dLt (mVar 4) (mVar 3)))) (mC (.int 1))) (enumL 0 (zs m)) [] [.val x, .un, .un, .un, .un] = .ok out [.val x, .un, .un, .un, .un] := hf
    unfold mComp2
    rw [hi]
    simp only [R.bind]
    rw [if_pos (by rfl), hw, hf']
    simp only [hr]
  have e2 : b_is_even_2 [.val x, .un, .un, .un, .un] = .nx [.val x, .own false (.lst out), .un, .un, .un] := by
    unfold b_is_even_2
    exact set_n hc rfl
  have e3 : b_is_even_3 [.val x, .own false (.lst out), .un, .un, .un] = .rt (.v (.bl (decide ((inv m : Int) % 2 = 0)))) [.val x, .own false (.lst out), .un, .un, .un] := by
    unfold b_is_even_3
    rw [even_len (by simp [mVar]) rfl, ho']
  unfold m_is_even
  refine mDef_rt (ρ := [.val x, .own false (.lst out), .un, .un, .un]) ?_
  show b_is_even [.val x, .un, .un, .un, .un] = _
  unfold b_is_even
  rw [seq_nx e1, seq_nx e2, e3]
end K01
set_option Elab.async false
set_option linter.all false
set_option maxRecDepth 100000
set_option maxHeartbeats 4000000
namespace K01
open PySem Mi
theorem eq_bool {ma mb : EM} {ρ : En} {a b : Bool} (h1 : ma ρ = .ok (.d (.bl a)) ρ) (h2 : mb ρ = .ok (.d (.bl b)) ρ) : mB dEq ma mb ρ = .ok (.d (.bl (a == b))) ρ := by
  have hbl : dEq (.bl a) (.bl b) = some (.bl (a == b)) := by cases a <;> cases b <;> rfl
  unfold mB
  rw [h1]
  simp only [R.bind]
  rw [h2]
  simp only [R.bind, OV.fz, ap2, OB.get]
  rw [hbl]
  rfl
theorem ne_bool {ma mb : EM} {ρ : En} {a : Bool} (h1 : ma ρ = .ok (.d (.bl a)) ρ) (h2 : mb ρ = .ok (.d (.bl a)) ρ) : mB dNe ma mb ρ = .ok (.d (.bl false)) ρ := by
  have hbl : dNe (.bl a) (.bl a) = some (.bl false) := by cases a <;> rfl
  unfold mB
  rw [h1]
  simp only [R.bind]
  rw [h2]
  simp only [R.bind, OV.fz, ap2, OB.get]
  rw [hbl]
  rfl
theorem par3 {a b c : Nat} (hp : a % 2 = (b + c) % 2) : decide ((a : Int) % 2 = 0) = (decide ((b : Int) % 2 = 0) == decide ((c : Int) % 2 = 0)) := by
  by_cases k : (b : Int) % 2 = 0 <;> by_cases d : (c : Int) % 2 = 0
  · have : (a : Int) % 2 = 0 := by omega
    simp [k, d, this]
  · have : ¬ (a : Int) % 2 = 0 := by omega
    simp [k, d, this]
  · have : ¬ (a : Int) % 2 = 0 := by omega
    simp [k, d, this]
  · have : (a : Int) % 2 = 0 := by omega
    simp [k, d, this]
abbrev gr (w : Ow) (r m : List Int) (s3 s4 s5 : Sl) : En := [.own true w, tz r, tz m, s3, s4, s5]
section
variable {ns : List Int} {n : Nat} {r m : List Int} {w : Ow} {s3 s4 : Sl} {x y : D}
theorem told1 (hw : Dr ns w) : ∃ w' s, Dr ns w' ∧ Lo r s ∧ b__law_told_fit_1 (gr w r m .un .un .un) = .nx (gr w' r m s .un .un) := by
  obtain ⟨w', hw', h | h⟩ := hand_ok hw r
  · refine ⟨w', _, hw', .inl rfl, ?_⟩
    unfold b__law_told_fit_1
    simp [mSet, mCall, mLend, isOw, mArg, mVar, mNil, R.bind, R.st, OV.fz, esc, toArgs, ioPos, ioSl, h, putO, rvOV, setSl, canSet, nxt]
  · refine ⟨w', _, hw', .inr rfl, ?_⟩
    unfold b__law_told_fit_1
    simp [mSet, mCall, mLend, isOw, mArg, mVar, mNil, R.bind, R.st, OV.fz, esc, toArgs, ioPos, ioSl, h, putO, rvOV, setSl, canSet, nxt]
theorem told2 (hw : Dr ns w) : ∃ w' s, Dr ns w' ∧ Lo m s ∧ b__law_told_fit_2 (gr w r m s3 .un .un) = .nx (gr w' r m s3 s .un) := by
  obtain ⟨w', hw', h | h⟩ := hand_ok hw m
  · refine ⟨w', _, hw', .inl rfl, ?_⟩
    unfold b__law_told_fit_2
    simp [mSet, mCall, mLend, isOw, mArg, mVar, mNil, R.bind, R.st, OV.fz, esc, toArgs, ioPos, ioSl, h, putO, rvOV, setSl, canSet, nxt]
  · refine ⟨w', _, hw', .inr rfl, ?_⟩
    unfold b__law_told_fit_2
    simp [mSet, mCall, mLend, isOw, mArg, mVar, mNil, R.bind, R.st, OV.fz, esc, toArgs, ioPos, ioSl, h, putO, rvOV, setSl, canSet, nxt]
theorem told3 (h3 : 3 ≤ n) (h8 : n ≤ 8) (hr : Row n r) (hm : Row n m) (k3 : Lo r s3) (k4 : Lo m s4) : ∃ x y, Hd r x ∧ Hd m y ∧ b__law_told_fit_3 (gr w r m s3 s4 .un) = .nx (gr w r m (.val x) (.val y) .un) := by
  obtain ⟨T, hT, H⟩ := home_ex hr h8
  obtain ⟨U, hU, H'⟩ := home_ex hm h8
  obtain ⟨v, x, hx, e1, e2⟩ := slot_row (ρ := gr w r m s3 s4 .un) (i := 3) (s := s3) rfl k3
  obtain ⟨u, y, hy, e3, e4⟩ := slot_row (ρ := gr w r m (.val x) s4 .un) (i := 4) (s := s4) rfl k4
  refine ⟨x, y, hx, hy, ?_⟩
  have a1 := call1' (f := m_order) (ρ := gr w r m s3 s4 .un) e1 e2 (order_ok h3 h8 hr hx H)
  have a2 := call1 (f := m__law_order) (ρ := gr w r m (.val x) s4 .un) (v := .d (.tup (zs r))) (var_val (i := 1) rfl) rfl (lorder_ok h8 hr H (by omega))
  have a3 := call2' (f := m__law_same 4) a1 rfl a2 rfl (same_int 3 T)
  have b1 := call1' (f := m_order) (ρ := gr w r m (.val x) s4 .un) e3 e4 (order_ok h3 h8 hm hy H')
  have b2 := call1 (f := m__law_order) (ρ := gr w r m (.val x) (.val y) .un) (v := .d (.tup (zs m))) (var_val (i := 2) rfl) rfl (lorder_ok h8 hm H' (by omega))
  have b3 := call2' (f := m__law_same 4) b1 rfl b2 rfl (same_int 3 U)
  unfold b__law_told_fit_3
  exact skip_ok (or_ff (not_ok (tst_ok a3)) (not_ok (tst_ok b3)))
variable (h3 : 3 ≤ n) (h8 : n ≤ 8) (hr : Row n r) (hm : Row n m) (hx : Hd r x) (hy : Hd m y)
include h3 h8 hr hm hx hy
theorem told4 : b__law_told_fit_4 (gr w r m (.val x) (.val y) .un) = .nx (gr w r m (.val x) (.val y) .un) := by
  have a1 := call1 (f := m_is_even) (ρ := gr w r m (.val x) (.val y) .un) (v := .d x) (var_val (i := 3) rfl) rfl (iseven_ok h3 h8 hr hx)
  have a2 := call1 (f := m__law_is_even) (ρ := gr w r m (.val x) (.val y) .un) (v := .d (.tup (zs r))) (var_val (i := 1) rfl) rfl (leven_ok (by rw [hr.len]; exact h8))
  have a3 := call2 (f := m__law_same 4) a1 rfl a2 rfl (same_bl 3 _)
  have b1 := call1 (f := m_is_even) (ρ := gr w r m (.val x) (.val y) .un) (v := .d y) (var_val (i := 4) rfl) rfl (iseven_ok h3 h8 hm hy)
  have b2 := call1 (f := m__law_is_even) (ρ := gr w r m (.val x) (.val y) .un) (v := .d (.tup (zs m))) (var_val (i := 2) rfl) rfl (leven_ok (by rw [hm.len]; exact h8))
  have b3 := call2 (f := m__law_same 4) b1 rfl b2 rfl (same_bl 3 _)
  unfold b__law_told_fit_4
  exact skip_ok (or_ff (not_ok (tst_ok a3)) (not_ok (tst_ok b3)))
theorem told5 : b__law_told_fit_5 (gr w r m (.val x) (.val y) .un) = .nx (gr w r m (.val x) (.val y) .un) := by
  have a1 := call2 (f := m_moved) (ρ := gr w r m (.val x) (.val y) .un) (v := .d (.tup (zs r))) (u := .d (.tup (zs m))) (var_val (i := 1) rfl) rfl (var_val (i := 2) rfl) rfl (moved_ok h3 h8 hr hm (.inl rfl) (.inl rfl))
  have a2 := call1 (f := m_is_even) a1 rfl (iseven_ok h3 h8 (hr.comp hm) (.inl rfl))
  have b1 := call1 (f := m__law_is_even) (ρ := gr w r m (.val x) (.val y) .un) (v := .d (.tup (zs r))) (var_val (i := 1) rfl) rfl (leven_ok (by rw [hr.len]; exact h8))
  have b2 := call1 (f := m__law_is_even) (ρ := gr w r m (.val x) (.val y) .un) (v := .d (.tup (zs m))) (var_val (i := 2) rfl) rfl (leven_ok (by rw [hm.len]; exact h8))
  have b3 := eq_bool b1 b2
  rw [← par3 (inv_comp hr hm)] at b3
  unfold b__law_told_fit_5
  exact skip_ok (tst_ok (ne_bool a2 b3))
end
end K01
set_option Elab.async false
set_option linter.all false
set_option maxRecDepth 100000
set_option maxHeartbeats 4000000
namespace K01
open PySem Mi
theorem ne_int {ma mb : EM} {ρ : En} {a : Int} (h1 : ma ρ = .ok (.d (.int a)) ρ) (h2 : mb ρ = .ok (.d (.int a)) ρ) : mTst (mB dNe ma mb) ρ = .ok false ρ := by
  refine tst_ok ?_
  unfold mB
  rw [h1]
  simp only [R.bind]
  rw [h2]
  simp only [R.bind, OV.fz, ap2, OB.get, e_nint]
  simp [rz]
/-- x.index(b) + 1, both in names -/
theorem pos_ok {ρ : En} {i j : Nat} {r : List Int} {x : D} {b : Int} (hi : ρ[i]? = some (.val x)) (hj : ρ[j]? = some (.val (.int b))) (h : Hd r x) (hb : b ∈ r) : mB dAdd (mIndex (mVar i) (mVar j)) (mC (.int 1)) ρ = .ok (.d (.int (pos r b))) ρ :=
  add_ok (index_ok h hb (var_val hi) (var_val hj)) rfl
noncomputable def toldB : SM := mIfS ((mOr (mNot (mTst (mCall [] (m__law_same 4) [] (mArg (mCall [] m_place [] (mArg (mVar 3) (mArg (mVar 5) mNil))) (mArg (mB dAdd (mIndex (mVar 1) (mVar 5)) (mC (.int 1))) mNil))))) (mTst (mB dNe (mCall [] m_place [] (mArg (mVar 4) (mArg (mVar 5) mNil))) (mB dAdd (mIndex (mVar 2) (mVar 5)) (mC (.int 1))))))) (mRet (mC (.bl false))) mNext
section
variable {n : Nat} {r m : List Int} {w : Ow} {x y : D} (h3 : 3 ≤ n) (h8 : n ≤ 8) (hr : Row n r) (hm : Row n m) (hx : Hd r x) (hy : Hd m y)
include h3 h8 hr hm hx hy
theorem told6_step {b : Int} (hb : b ∈ r) : toldB (gr w r m (.val x) (.val y) (.val (.int b))) = .nx (gr w r m (.val x) (.val y) (.val (.int b))) := by
  have hb' : b ∈ m := hm.mem.mpr (hr.mem.mp hb)
  have a1 := call2 (f := m_place) (ρ := gr w r m (.val x) (.val y) (.val (.int b))) (v := .d x) (u := .d (.int b)) (var_val (i := 3) rfl) rfl (var_val (i := 5) rfl) rfl (place_ok h3 h8 hr hx hb)
  have a2 := pos_ok (ρ := gr w r m (.val x) (.val y) (.val (.int b))) (i := 1) (j := 5) (r := r) (b := b) rfl rfl (.inl rfl) hb
  have a3 := call2 (f := m__law_same 4) a1 rfl a2 rfl (same_int 3 _)
  have b1 := call2 (f := m_place) (ρ := gr w r m (.val x) (.val y) (.val (.int b))) (v := .d y) (u := .d (.int b)) (var_val (i := 4) rfl) rfl (var_val (i := 5) rfl) rfl (place_ok h3 h8 hm hy hb')
  have b2 := pos_ok (ρ := gr w r m (.val x) (.val y) (.val (.int b))) (i := 2) (j := 5) (r := m) (b := b) rfl rfl (.inl rfl) hb'
  unfold toldB
  exact skip_ok (or_ff (not_ok (tst_ok a3)) (ne_int b1 b2))
theorem told6_loop : ∀ {l : List Int} {s5 : Sl}, (∀ b ∈ l, b ∈ r) → (s5 = .un ∨ ∃ v, s5 = .val v) → ∃ s5', (s5' = .un ∨ ∃ v, s5' = .val v) ∧ mForL (gN 5) toldB ((zs l).map .one) (gr w r m (.val x) (.val y) s5) = .nx (gr w r m (.val x) (.val y) s5')
  | [], s5, _, h5 => ⟨s5, h5, rfl⟩
  | b :: l, s5, hl, h5 => by
    obtain ⟨s6, h6, h7⟩ := told6_loop (l := l) (s5 := .val (.int b)) (fun c hc => hl c (List.mem_cons_of_mem _ hc)) (.inr ⟨_, rfl⟩)
    refine ⟨s6, h6, ?_⟩
    have g : gN 5 (IV.one (.int b)) (gr w r m (.val x) (.val y) s5) = some (gr w r m (.val x) (.val y) (.val (.int b))) := by
      rcases h5 with rfl | ⟨v, rfl⟩ <;> simp [gN, canSet]
    show mForL (gN 5) toldB (.one (.int b) :: (zs l).map .one) (gr w r m (.val x) (.val y) s5) = _
    unfold mForL
    simp only [g, told6_step h3 h8 hr hm hx hy (hl b (List.mem_cons_self ..))]
    exact h7
theorem told6 : ∃ s5', (s5' = .un ∨ ∃ v, s5' = .val v) ∧ b__law_told_fit_6 (gr w r m (.val x) (.val y) .un) = .nx (gr w r m (.val x) (.val y) s5') := by
  obtain ⟨s5, h5, h⟩ := told6_loop (w := w) h3 h8 hr hm hx hy (l := r) (s5 := .un) (fun b hb => hb) (.inl rfl)
  refine ⟨s5, h5, ?_⟩
  have hi : mSeqI (mVar 1) (gr w r m (.val x) (.val y) .un) = .ok ((zs r).map .one) (gr w r m (.val x) (.val y) .un) := by
    simp [mSeqI, mVar, R.bind, OV.fz, esc, itD]
  unfold b__law_told_fit_6 mFor
  rw [hi]
  exact h
end
end K01
set_option Elab.async false
set_option linter.all false
set_option maxRecDepth 100000
set_option maxHeartbeats 4000000
namespace K01
open PySem Mi
theorem told8 {n : Nat} {r m : List Int} {w : Ow} {x y : D} {s5 : Sl} (h8 : n ≤ 8) (hr : Row n r) (hm : Row n m) (hx : Hd r x) (hy : Hd m y) : b__law_told_fit_8 (gr w r m (.val x) (.val y) s5) = .rt (.v (.bl true)) (gr w r m (.val x) (.val y) s5) := by
  have k1 := call1n (f := m__law_listed 3) (ρ := gr w r m (.val x) (.val y) s5) (v := .d x) (var_val (i := 3) rfl) rfl (listed_row 1 hx (by rw [hr.len]; exact h8))
  have k2 := call1n (f := m__law_listed 3) (ρ := gr w r m (.val x) (.val y) s5) (v := .d y) (var_val (i := 4) rfl) rfl (listed_row 1 hy (by rw [hm.len]; exact h8))
  unfold b__law_told_fit_8
  exact mRet_d (andV_tt (eqb_same k1 (list_ok (var_val (i := 1) rfl) (.inl rfl))) (eqb_same k2 (list_ok (var_val (i := 2) rfl) (.inl rfl))))
end K01
set_option Elab.async false
set_option linter.all false
set_option maxRecDepth 100000
set_option maxHeartbeats 4000000
namespace K01
open PySem Mi
open Classical in
/-- how many turns bring p back -/
noncomputable def len1 (u : List Int) (p : Int) : Nat := if h : ∃ k, Per u p k then Classical.choose h else 0
/-- the bells that p comes to -/
noncomputable def orb (u : List Int) (p : Int) : List Int := (List.range (len1 u p)).map fun t => it u t p
theorem it_last (u : List Int) (t : Nat) (p : Int) : it u (t + 1) p = nth u (it u t p) := by
  rw [show t + 1 = 1 + t by omega, it_add]
  rfl
section
variable {n : Nat} {u : List Int} (hu : Row n u) {p : Int} (hp : 1 ≤ p ∧ p ≤ n)
include hu hp
theorem len1_ok : Per u p (len1 u p) ∧ len1 u p ≤ n := by
  obtain ⟨k, h1, h2⟩ := per_ex hu hp
  have hx : ∃ k, Per u p k := ⟨k, h2⟩
  have e : len1 u p = Classical.choose hx := dif_pos hx
  have h3 : Per u p (len1 u p) := by
    rw [e]
    exact Classical.choose_spec hx
  exact ⟨h3, by rw [h3.one h2]; exact h1⟩
theorem orb_nd : (orb u p).Nodup := orb_nodup hu hp (len1_ok hu hp).1
theorem orb_in {q : Int} (h : q ∈ orb u p) : 1 ≤ q ∧ q ≤ n := by
  obtain ⟨t, _, rfl⟩ := List.mem_map.mp h
  exact it_in hu t hp
end
theorem orb_len (u : List Int) (p : Int) : (orb u p).length = len1 u p := by simp [orb]
theorem ne_ints {ρ : En} {i j : Nat} {a b : Int} (h1 : ρ[i]? = some (.val (.int a))) (h2 : ρ[j]? = some (.val (.int b))) : mTst (mB dNe (mVar i) (mVar j)) ρ = .ok (!decide (a = b)) ρ := by
  refine tst_ok ?_
  unfold mB
  rw [var_val h1]
  simp only [R.bind]
  rw [var_val h2]
  simp only [R.bind, OV.fz, ap2, OB.get, e_nint, rz]
/-- a row at a place -/
theorem ix_ok {ρ : En} {i j : Nat} {u : List Int} {q : Int} (h1 : ρ[i]? = some (tz u)) (h2 : ρ[j]? = some (.val (.int q))) (hq : 1 ≤ q ∧ q ≤ u.length) : mB dIx (mVar i) (mB dSub (mVar j) (mC (.int 1))) ρ = .ok (.d (.int (nth u q))) ρ := by
  have hat := at_nth (r := u) hq.1 hq.2
  unfold mB
  rw [var_val h1]
  simp only [R.bind]
  rw [var_val h2]
  simp only [R.bind, mC, OV.fz, ap2, OB.get, e_sub, rz, dIx, hat]
noncomputable def cfB : SM := mSeq (mDrop (mAppend 2 (mVar 3))) (mSet 3 (mB dIx (mVar 0) (mB dSub (mVar 3) (mC (.int 1)))))
noncomputable def cfC : TM := mTst (mB dNe (mVar 3) (mVar 1))
theorem cf_turn {n : Nat} {u acc : List Int} {p q : Int} (hu : Row n u) (hq : 1 ≤ q ∧ q ≤ n) (ha : acc.length < 1000) : cfB [tz u, .val (.int p), .own false (.lst (zs acc)), .val (.int q)] = .nx [tz u, .val (.int p), .own false (.lst (zs (acc ++ [q]))), .val (.int (nth u q))] := by
  have hb : acc.length < BIG := by unfold BIG; omega
  have k1 : mDrop (mAppend 2 (mVar 3)) [tz u, .val (.int p), .own false (.lst (zs acc)), .val (.int q)] = .nx [tz u, .val (.int p), .own false (.lst (zs (acc ++ [q]))), .val (.int q)] := by
    simp [mDrop, mAppend, isOwL, mVar, R.bind, R.st, OV.fz, esc, chg, fApp, hb]
  unfold cfB
  rw [seq_nx k1]
  exact set_d (ix_ok (u := u) (q := q) rfl rfl (by rw [hu.len]; exact hq)) rfl
theorem cf_loop {n : Nat} {u : List Int} {p : Int} (h8 : n ≤ 8) (hu : Row n u) (hp : 1 ≤ p ∧ p ≤ n) : ∀ {j t : Nat}, t + j = len1 u p → 1 ≤ t → mWhN cfC cfB (j + 1) [tz u, .val (.int p), .own false (.lst (zs ((List.range t).map fun s => it u s p))), .val (.int (it u t p))] = .nx [tz u, .val (.int p), .own false (.lst (zs (orb u p))), .val (.int p)]
  | 0, t, hk, h1 => by
    have e : t = len1 u p := by omega
    have hper := (len1_ok hu hp).1
    have hit : it u t p = p := by rw [e]; exact hper.2.1
    have c := ne_ints (ρ := [tz u, .val (.int p), .own false (.lst (zs ((List.range t).map fun s => it u s p))), .val (.int (it u t p))]) (i := 3) (j := 1) (a := it u t p) (b := p) rfl rfl
    rw [decide_eq_true hit] at c
    rw [mWhN]
    have c' : cfC [tz u, .val (.int p), .own false (.lst (zs ((List.range t).map fun s => it u s p))), .val (.int (it u t p))] = .ok false [tz u, .val (.int p), .own false (.lst (zs ((List.range t).map fun s => it u s p))), .val (.int (it u t p))] := c
    rw [c']
    simp only [hit]
    rw [e]
    rfl
  | j + 1, t, hk, h1 => by
    have hper := len1_ok hu hp
    have hit : ¬ it u t p = p := hper.1.2.2 t h1 (by omega)
    have c := ne_ints (ρ := [tz u, .val (.int p), .own false (.lst (zs ((List.range t).map fun s => it u s p))), .val (.int (it u t p))]) (i := 3) (j := 1) (a := it u t p) (b := p) rfl rfl
    rw [decide_eq_false hit] at c
    rw [mWhN]
    have c' : cfC [tz u, .val (.int p), .own false (.lst (zs ((List.range t).map fun s => it u s p))), .val (.int (it u t p))] = .ok true [tz u, .val (.int p), .own false (.lst (zs ((List.range t).map fun s => it u s p))), .val (.int (it u t p))] := c
    rw [c']
    simp only
    have hl := hper.2
    rw [cf_turn hu (it_in hu t hp) (by simp; omega)]
    simp only
    have ih := cf_loop h8 hu hp (j := j) (t := t + 1) (by omega) (by omega)
    rw [List.range_succ, List.map_append, it_last] at ih
    exact ih
theorem cyclefrom_ok {n : Nat} {u : List Int} {p : Int} (h8 : n ≤ 8) (hu : Row n u) (hp : 1 ≤ p ∧ p ≤ n) : m_cycle_from [tz u, .val (.int p)] = .ok (.v (.tup (zs (orb u p)))) [] := by
  have hper := (len1_ok hu hp).1
  have e1 : b_cycle_from_1 [tz u, .val (.int p), .un, .un] = .nx [tz u, .val (.int p), .own false (.lst [.int p]), .un] := by
    unfold b_cycle_from_1
    simp [mSet, mLst, mCons, mNil, mVar, R.bind, R.st, OV.fz, escs, esc, BIG, setSl, canSet, nxt]
  have e2 : b_cycle_from_2 [tz u, .val (.int p), .own false (.lst [.int p]), .un] = .nx [tz u, .val (.int p), .own false (.lst [.int p]), .val (.int (nth u p))] := by
    unfold b_cycle_from_2
    exact set_d (ix_ok (u := u) (q := p) (i := 0) (j := 1) rfl rfl (by rw [hu.len]; exact hp)) rfl
  have e3 : b_cycle_from_3 [tz u, .val (.int p), .own false (.lst [.int p]), .val (.int (nth u p))] = .nx [tz u, .val (.int p), .own false (.lst (zs (orb u p))), .val (.int p)] := by
    have hw := cf_loop h8 hu hp (j := len1 u p - 1) (t := 1) (by have := hper.1; omega) (by omega)
    have hne : mWhN cfC cfB (len1 u p - 1 + 1) [tz u, .val (.int p), .own false (.lst (zs ((List.range 1).map fun s => it u s p))), .val (.int (it u 1 p))] ≠ .bad := by
      rw [hw]
      intro z
      cases z
    have := mWhile_eq hne
    rw [hw] at this
    exact this
  have e4 : b_cycle_from_4 [tz u, .val (.int p), .own false (.lst (zs (orb u p))), .val (.int p)] = .rt (.v (.tup (zs (orb u p)))) [tz u, .val (.int p), .own false (.lst (zs (orb u p))), .val (.int p)] := by
    unfold b_cycle_from_4
    refine mRet_d ?_
    simp [mCB, mCons, mVar, mNil, R.bind, OV.fz, apN, getAll, OB.get, Ow.d, g1, dTupOf, rz]
  unfold m_cycle_from
  refine mDef_rt (ρ := [tz u, .val (.int p), .own false (.lst (zs (orb u p))), .val (.int p)]) ?_
  show b_cycle_from [tz u, .val (.int p), .un, .un] = _
  unfold b_cycle_from
  rw [seq_nx e1, seq_nx e2, seq_nx e3, e4]
end K01
set_option Elab.async false
set_option linter.all false
set_option maxRecDepth 100000
set_option maxHeartbeats 4000000
namespace K01
open PySem Mi
/-- what is met and what is found -/
noncomputable def cyS (u : List Int) (s : List Int × List (List Int)) (p : Int) : List Int × List (List Int) := if p ∈ s.1 then s else (s.1 ++ orb u p, s.2 ++ [orb u p])
noncomputable def cyF (u : List Int) (ps : List Int) (s : List Int × List (List Int)) : List Int × List (List Int) := ps.foldl (cyS u) s
/-- the members that are marked -/
def Mk (kvs : List (L2.Key × D)) (met : List Int) : Prop := ∀ x : Int, (lookK kvs (.inl x)).isSome = decide (x ∈ met)
theorem lookK_put {kvs : List (L2.Key × D)} {k j : L2.Key} {d : D} : (lookK (putD kvs k d) j).isSome = ((lookK kvs j).isSome || decide (j = k)) := by
  unfold putD lookK
  by_cases c : (kvs.any fun kv => decide (kv.1 = k)) = true
  · rw [if_pos c]
    simp only [Option.isSome_map, List.find?_isSome]
    rw [Bool.eq_iff_iff]
    simp only [Bool.or_eq_true, List.find?_isSome, decide_eq_true_eq, List.mem_map]
    constructor
    · rintro ⟨x, ⟨y, hy, rfl⟩, hx⟩
      refine .inl ⟨y, hy, ?_⟩
      by_cases e : y.1 = k
      · rw [if_pos e] at hx; exact hx
      · rw [if_neg e] at hx; exact hx
    · rintro (⟨y, hy, hx⟩ | rfl)
      · refine ⟨_, ⟨y, hy, rfl⟩, ?_⟩
        by_cases e : y.1 = k
        · rw [if_pos e]; exact hx
        · rw [if_neg e]; exact hx
      · obtain ⟨y, hy, hx⟩ := List.any_eq_true.mp c
        refine ⟨_, ⟨y, hy, rfl⟩, ?_⟩
        have e : y.1 = j := of_decide_eq_true hx
        rw [if_pos e]
        exact e
  · rw [if_neg c]
    simp only [Option.isSome_map, List.find?_append, Option.isSome_or]
    congr 1
    by_cases e : k = j
    · subst e; simp
    · have e' : ¬ j = k := fun h => e h.symm
      simp [e, e']
theorem putD_len {kvs : List (L2.Key × D)} {k : L2.Key} {d : D} : (putD kvs k d).length ≤ kvs.length + 1 := by
  unfold putD
  by_cases c : (kvs.any fun kv => decide (kv.1 = k)) = true
  · rw [if_pos c]; simp
  · rw [if_neg c]; simp
abbrev cr (x : D) (u : List Int) (kvs : List (L2.Key × D)) (out : List (List Int)) (s4 s5 s6 : Sl) : En := [.val x, tz u, .own false (.dk kvs), .own false (.lst (out.map fun r => D.tup (zs r))), s4, s5, s6]
/-- the members of a cycle are marked -/
theorem mark_loop {x : D} {u : List Int} {out : List (List Int)} {s4 s5 : Sl} : ∀ {ys met : List Int} {kvs : List (L2.Key × D)} {s6 : Sl}, Mk kvs met → kvs.length + ys.length ≤ 1000 → (s6 = .un ∨ ∃ v, s6 = .val v) →
    ∃ kvs' s6', Mk kvs' (met ++ ys) ∧ kvs'.length ≤ kvs.length + ys.length ∧ (s6' = .un ∨ ∃ v, s6' = .val v) ∧ mForL (gN 6) (mPut 2 (mVar 6) (mC (.bl true))) ((zs ys).map .one) (cr x u kvs out s4 s5 s6) = .nx (cr x u kvs' out s4 s5 s6')
  | [], met, kvs, s6, hm, hl, h6 => ⟨kvs, s6, by simpa using hm, by simp, h6, rfl⟩
  | y :: ys, met, kvs, s6, hm, hl, h6 => by
    have hl' : kvs.length + (ys.length + 1) ≤ 1000 := hl
    have hp := putD_len (kvs := kvs) (k := .inl y) (d := .bl true)
    have hm' : Mk (putD kvs (.inl y) (.bl true)) (met ++ [y]) := fun z => by
      rw [lookK_put, hm z]
      rw [Bool.eq_iff_iff]
      simp
    obtain ⟨kvs', s6', h1, h2, h3, h4⟩ := mark_loop (x := x) (u := u) (out := out) (s4 := s4) (s5 := s5) (ys := ys) (s6 := .val (.int y)) hm' (by omega) (.inr ⟨_, rfl⟩)
    refine ⟨kvs', s6', by simpa using h1, by rw [List.length_cons]; omega, h3, ?_⟩
    have g : gN 6 (IV.one (.int y)) (cr x u kvs out s4 s5 s6) = some (cr x u kvs out s4 s5 (.val (.int y))) := by
      rcases h6 with rfl | ⟨v, rfl⟩ <;> simp [gN, canSet]
    have hb : kvs.length < BIG := by unfold BIG; omega
    have e : mPut 2 (mVar 6) (mC (.bl true)) (cr x u kvs out s4 s5 (.val (.int y))) = .nx (cr x u (putD kvs (.inl y) (.bl true)) out s4 s5 (.val (.int y))) := by
      simp [mPut, mC, mVar, R.st, OV.fz, esc, isOw, keyD, hb]
    show mForL (gN 6) (mPut 2 (mVar 6) (mC (.bl true))) (.one (.int y) :: (zs ys).map .one) (cr x u kvs out s4 s5 s6) = _
    unfold mForL
    simp only [g, e]
    exact h4
noncomputable def cyB : SM := mIfS (mTst (mB (dOr dNotIn (dDkIn true)) (mVar 4) (mVar 2))) (mSeq (mSet 5 (mCall [] m_cycle_from [] (mArg (mVar 1) (mArg (mVar 4) mNil)))) (mSeq (mDrop (mAppend 3 (mVar 5))) (mFor (mSeqI (mVar 5)) (gN 6) (mPut 2 (mVar 6) (mC (.bl true)))))) mNext
def Pl (s : Sl) : Prop := s = .un ∨ ∃ v, s = .val v
theorem cy_turn {n : Nat} {x : D} {u met : List Int} {out : List (List Int)} {kvs : List (L2.Key × D)} {p : Int} {s5 s6 : Sl} (h8 : n ≤ 8) (hu : Row n u) (hp : 1 ≤ p ∧ p ≤ n) (hm : Mk kvs met) (hk : kvs.length + n ≤ 1000) (ho : out.length ≤ 100) (h5 : Pl s5) (h6 : Pl s6) :
    ∃ kvs' s5' s6', Mk kvs' (cyS u (met, out) p).1 ∧ kvs'.length ≤ kvs.length + n ∧ Pl s5' ∧ Pl s6' ∧ cyB (cr x u kvs out (.val (.int p)) s5 s6) = .nx (cr x u kvs' (cyS u (met, out) p).2 (.val (.int p)) s5' s6') := by
  have hin : mTst (mB (dOr dNotIn (dDkIn true)) (mVar 4) (mVar 2)) (cr x u kvs out (.val (.int p)) s5 s6) = .ok (!decide (p ∈ met)) (cr x u kvs out (.val (.int p)) s5 s6) := by
    have := hm p
    simp [mTst, mB, mVar, R.bind, OV.fz, OB.get, Ow.d, ap2, dOr, dNotIn, dDkIn, keyD, rz, tb]
    rw [← this]
    simp
  by_cases c : p ∈ met
  · rw [decide_eq_true c] at hin
    have e : cyS u (met, out) p = (met, out) := if_pos c
    rw [e]
    exact ⟨kvs, s5, s6, hm, by omega, h5, h6, skip_ok hin⟩
  · rw [decide_eq_false c] at hin
    have e : cyS u (met, out) p = (met ++ orb u p, out ++ [orb u p]) := if_neg c
    rw [e]
    have hol : (orb u p).length ≤ n := by rw [orb_len]; exact (len1_ok hu hp).2
    have k1 : mSet 5 (mCall [] m_cycle_from [] (mArg (mVar 1) (mArg (mVar 4) mNil))) (cr x u kvs out (.val (.int p)) s5 s6) = .nx (cr x u kvs out (.val (.int p)) (tz (orb u p)) s6) := by
      have kc := call2 (f := m_cycle_from) (ρ := cr x u kvs out (.val (.int p)) s5 s6) (v := .d (.tup (zs u))) (u := .d (.int p)) (var_val (i := 1) rfl) rfl (var_val (i := 4) rfl) rfl (cyclefrom_ok h8 hu hp)
      refine set_d kc ?_
      rcases h5 with rfl | ⟨v, rfl⟩ <;> rfl
    have hob : out.length < BIG := by unfold BIG; omega
    have k2 : mDrop (mAppend 3 (mVar 5)) (cr x u kvs out (.val (.int p)) (tz (orb u p)) s6) = .nx (cr x u kvs (out ++ [orb u p]) (.val (.int p)) (tz (orb u p)) s6) := by
      simp [mDrop, mAppend, isOwL, mVar, R.bind, R.st, OV.fz, esc, chg, fApp, hob]
    obtain ⟨kvs', s6', h1, h2, h3, h4⟩ := mark_loop (x := x) (u := u) (out := out ++ [orb u p]) (s4 := .val (.int p)) (s5 := tz (orb u p)) (ys := orb u p) (s6 := s6) hm (by omega) h6
    refine ⟨kvs', tz (orb u p), s6', h1, by omega, .inr ⟨_, rfl⟩, h3, ?_⟩
    unfold cyB
    rw [if_tt hin, seq_nx k1, seq_nx k2]
    unfold mFor
    have hi : mSeqI (mVar 5) (cr x u kvs (out ++ [orb u p]) (.val (.int p)) (tz (orb u p)) s6) = .ok ((zs (orb u p)).map .one) (cr x u kvs (out ++ [orb u p]) (.val (.int p)) (tz (orb u p)) s6) := by
      simp [mSeqI, mVar, R.bind, OV.fz, esc, itD]
    rw [hi]
    exact h4
theorem cyS_len (u : List Int) (s : List Int × List (List Int)) (p : Int) : (cyS u s p).2.length ≤ s.2.length + 1 := by
  unfold cyS
  by_cases c : p ∈ s.1
  · rw [if_pos c]; omega
  · rw [if_neg c]; simp
theorem cyF_len (u : List Int) : ∀ (ps : List Int) (s : List Int × List (List Int)), (cyF u ps s).2.length ≤ s.2.length + ps.length
  | [], s => Nat.le_refl _
  | p :: ps, s => by
    have h1 := cyF_len u ps (cyS u s p)
    have h2 := cyS_len u s p
    show (cyF u ps (cyS u s p)).2.length ≤ s.2.length + (ps.length + 1)
    omega
theorem cy_loop {n : Nat} {x : D} {u : List Int} (h8 : n ≤ 8) (hu : Row n u) : ∀ {ps met : List Int} {out : List (List Int)} {kvs : List (L2.Key × D)} {s4 s5 s6 : Sl}, (∀ p ∈ ps, 1 ≤ p ∧ p ≤ (n : Int)) → Mk kvs met → kvs.length + n * ps.length ≤ 1000 → out.length + ps.length ≤ 100 → Pl s4 → Pl s5 → Pl s6 →
    ∃ kvs' s4' s5' s6', mForL (gN 4) cyB ((zs ps).map .one) (cr x u kvs out s4 s5 s6) = .nx (cr x u kvs' (cyF u ps (met, out)).2 s4' s5' s6')
  | [], met, out, kvs, s4, s5, s6, _, _, _, _, _, _, _ => ⟨kvs, s4, s5, s6, rfl⟩
  | p :: ps, met, out, kvs, s4, s5, s6, hps, hm, hk, ho, h4, h5, h6 => by
    have hk' : kvs.length + n * (ps.length + 1) ≤ 1000 := hk
    rw [Nat.mul_succ] at hk'
    have ho' : out.length + (ps.length + 1) ≤ 100 := ho
    obtain ⟨kvs1, t5, t6, g1, g2, g3, g4, g5⟩ := cy_turn (x := x) (out := out) (s5 := s5) (s6 := s6) h8 hu (hps p (List.mem_cons_self ..)) hm (by omega) (by omega) h5 h6
    have hlen := cyS_len u (met, out) p
    obtain ⟨kvs2, q4, q5, q6, e⟩ := cy_loop (x := x) h8 hu (ps := ps) (met := (cyS u (met, out) p).1) (out := (cyS u (met, out) p).2) (s4 := .val (.int p)) (fun q hq => hps q (List.mem_cons_of_mem _ hq)) g1 (by omega) (by simp at hlen; omega) (.inr ⟨_, rfl⟩) g3 g4
    refine ⟨kvs2, q4, q5, q6, ?_⟩
    have g : gN 4 (IV.one (.int p)) (cr x u kvs out s4 s5 s6) = some (cr x u kvs out (.val (.int p)) s5 s6) := by
      rcases h4 with rfl | ⟨v, rfl⟩ <;> simp [gN, canSet]
    show mForL (gN 4) cyB (.one (.int p) :: (zs ps).map .one) (cr x u kvs out s4 s5 s6) = _
    unfold mForL
    simp only [g, g5]
    exact e
/-- the cycles told -/
noncomputable def cyc (n : Nat) (m : List Int) : List (List Int) := (cyF (und n m) (up n) ([], [])).2
theorem rng2_up {n : Nat} (h8 : n ≤ 8) {ma mb : EM} {ρ : En} (h1 : ma ρ = .ok (.d (.int 1)) ρ) (h2 : mb ρ = .ok (.d (.int ((n : Int) + 1))) ρ) : mRng2 ma mb ρ = .ok ((zs (up n)).map .one) ρ := by
  rw [rng2_k (by omega) (by omega) h1 h2, rgD_n]
theorem cycles_ok {n : Nat} {m : List Int} {x : D} (h3 : 3 ≤ n) (h8 : n ≤ 8) (hm : Row n m) (hx : Hd m x) : m_cycles [.val x] = .ok (.v (.tup ((cyc n m).map fun r => D.tup (zs r)))) [] := by
  have hl := hm.len
  subst hl
  have e1 : b_cycles_1 [.val x, .un, .un, .un, .un, .un, .un] = .nx [.val x, .un, .un, .un, .un, .un, .un] := by
    unfold b_cycles_1
    exact drop_ok (call1 (f := m_judge_row) (v := .d x) (var_val (i := 0) rfl) rfl (judge_ok h3 h8 hm hx))
  have e2 : b_cycles_2 [.val x, .un, .un, .un, .un, .un, .un] = .nx [.val x, tz (und m.length m), .un, .un, .un, .un, .un] := by
    unfold b_cycles_2
    exact set_d (call1 (f := m_inverse) (v := .d x) (var_val (i := 0) rfl) rfl (inverse_ok h8 hm hx)) rfl
  have e3 : b_cycles_3 [.val x, tz (und m.length m), .un, .un, .un, .un, .un] = .nx [.val x, tz (und m.length m), .own false (.dk []), .un, .un, .un, .un] := by
    unfold b_cycles_3
    exact set_n (ρ' := [.val x, tz (und m.length m), .un, .un, .un, .un, .un]) rfl rfl
  have e4 : b_cycles_4 [.val x, tz (und m.length m), .own false (.dk []), .un, .un, .un, .un] = .nx (cr x (und m.length m) [] [] .un .un .un) := by
    unfold b_cycles_4
    refine (set_n (o := .lst []) (ρ' := [.val x, tz (und m.length m), .own false (.dk []), .un, .un, .un, .un]) ?_ rfl).trans rfl
    simp [mLst, mNil, R.bind, escs]
  obtain ⟨kvs, s4, s5, s6, hloop⟩ := cy_loop (x := x) h8 (und_row hm) (ps := up m.length) (met := []) (out := []) (kvs := []) (s4 := .un) (s5 := .un) (s6 := .un) (fun p hp => (row_up m.length).mem.mp hp) (fun z => by simp [lookK]) (by rw [up_len]; have : m.length * m.length ≤ 8 * 8 := Nat.mul_le_mul h8 h8; simp; omega) (by simp [up_len]; omega) (.inl rfl) (.inl rfl) (.inl rfl)
  have e5 : b_cycles_5 (cr x (und m.length m) [] [] .un .un .un) = .nx (cr x (und m.length m) kvs (cyc m.length m) s4 s5 s6) := by
    have hlen := len_ok (r := m) (x := x) (var_val (ρ := cr x (und m.length m) [] [] .un .un .un) (i := 0) rfl) hx
    have hr := rng2_up (ma := mC (.int 1)) h8 (ρ := cr x (und m.length m) [] [] .un .un .un) rfl (add_ok (mb := mC (.int 1)) (b := 1) hlen rfl)
    unfold b_cycles_5 mFor
    rw [hr]
    exact hloop
  have hcl : (cyc m.length m).length ≤ m.length := by
    have := cyF_len (und m.length m) (up m.length) ([], [])
    rw [up_len] at this
    simpa [cyc] using this
  have e6 : b_cycles_6 (cr x (und m.length m) kvs (cyc m.length m) s4 s5 s6) = .rt (.v (.tup ((cyc m.length m).map fun r => D.tup (zs r)))) (cr x (und m.length m) kvs (cyc m.length m) s4 s5 s6) := by
    unfold b_cycles_6
    refine mRet_d ?_
    simp [mCB, mCons, mVar, mNil, R.bind, OV.fz, apN, getAll, OB.get, Ow.d, g1, dTupOf, rz]
  unfold m_cycles
  refine mDef_rt (ρ := cr x (und m.length m) kvs (cyc m.length m) s4 s5 s6) ?_
  show b_cycles [.val x, .un, .un, .un, .un, .un, .un] = _
  unfold b_cycles
  rw [seq_nx e1, seq_nx e2, seq_nx e3, seq_nx e4, seq_nx e5, e6]
end K01
set_option Elab.async false
set_option linter.all false
set_option maxRecDepth 100000
set_option maxHeartbeats 4000000
namespace K01
open PySem Mi
theorem nth_und {n : Nat} {m : List Int} {q : Int} (h : 1 ≤ q ∧ q ≤ n) : nth (und n m) q = pos m q := by
  have hp : (q - 1).toNat < (up n).length := by rw [up_len]; omega
  unfold und way
  rw [nth, List.getD_eq_getElem?_getD, List.getElem?_map, List.getElem?_eq_getElem hp]
  show pos m (up n)[(q - 1).toNat] = _
  rw [up_at (by omega)]
  congr 1
  omega
theorem notin_zs (g : Int) (ys : List Int) : dNotIn (.int g) (.lst (zs ys)) = some (.bl (!decide (g ∈ ys))) := by
  show (if ((D.int g).flat && (zs ys).all D.flat) = true then some (D.bl !(zs ys).any fun y => y.eqf (.int g)) else none) = _
  rw [flat_zs]
  have : (zs ys).any (fun y => y.eqf (.int g)) = decide (g ∈ ys) := by
    rw [Bool.eq_iff_iff]
    simp only [List.any_eq_true, decide_eq_true_eq]
    constructor
    · rintro ⟨y, hy, e⟩
      obtain ⟨a, ha, rfl⟩ := List.mem_map.mp hy
      have : a = g := by simpa [D.eqf] using e
      exact this ▸ ha
    · intro h
      exact ⟨.int g, List.mem_map.mpr ⟨g, h, rfl⟩, by simp [D.eqf]⟩
  rw [this]
  rfl
/-- the first bells that p comes to -/
def ringT (u : List Int) (p : Int) (c : Nat) : List Int := (List.range c).map fun t => it u t p
theorem ring_last {u : List Int} {p : Int} {c : Nat} (h : 1 ≤ c) : L2.atI (zs (ringT u p c)) (-1) = some (.int (it u (c - 1) p)) := by
  have hl : (zs (ringT u p c)).length = c := by simp [ringT]
  unfold L2.atI L2.ixN
  rw [hl, if_neg (by omega), if_pos (by omega)]
  have e : (-1 + (c : Int)).toNat = c - 1 := by omega
  show (zs (ringT u p c))[(-1 + (c : Int)).toNat]? = _
  rw [e]
  have hc : c - 1 < c := by omega
  simp [ringT, hc]
abbrev lr (m met : List Int) (out : List (List Int)) (s3 s4 s5 s6 : Sl) : En := [tz m, .own false (.lst (out.map fun r => D.tup (zs r))), .own false (.lst (zs met)), s3, s4, s5, s6]
noncomputable def lcI : SM := mSeq (mSet 6 (mB dAdd (mIndex (mVar 0) (mB dIx (mVar 4) (mU dNeg (mC (.int 1))))) (mC (.int 1)))) (mIfS (mTst (mB (dOr dNotIn (dDkIn true)) (mVar 6) (mVar 4))) (mDrop (mAppend 4 (mVar 6))) mNext)
theorem lc_turn {n : Nat} {m met : List Int} {out : List (List Int)} {p : Int} {s3 s5 s6 : Sl} {j : Nat} (h8 : n ≤ 8) (hm : Row n m) (hp : 1 ≤ p ∧ p ≤ n) (h6 : Pl s6) :
    ∃ s6', Pl s6' ∧ lcI (lr m met out s3 (.own false (.lst (zs (ringT (und n m) p (min (j + 1) (len1 (und n m) p)))))) s5 s6) = .nx (lr m met out s3 (.own false (.lst (zs (ringT (und n m) p (min (j + 2) (len1 (und n m) p)))))) s5 s6') := by
  have hu := und_row hm
  have hper := len1_ok hu hp
  generalize hk : len1 (und n m) p = k at *
  have hk1 := hper.1.1
  have hc1 : 1 ≤ min (j + 1) k := by omega
  have hlast := it_in hu (min (j + 1) k - 1) hp
  have hgoal : pos m (it (und n m) (min (j + 1) k - 1) p) = it (und n m) (min (j + 1) k) p := by
    rw [← nth_und hlast, ← it_last]
    congr 1
    omega
  have hlm : it (und n m) (min (j + 1) k - 1) p ∈ m := hm.mem.mpr hlast
  refine ⟨.val (.int (it (und n m) (min (j + 1) k) p)), .inr ⟨_, rfl⟩, ?_⟩
  have hix : mB dIx (mVar 4) (mU dNeg (mC (.int 1))) (lr m met out s3 (.own false (.lst (zs (ringT (und n m) p (min (j + 1) k))))) s5 s6) = .ok (.d (.int (it (und n m) (min (j + 1) k - 1) p))) (lr m met out s3 (.own false (.lst (zs (ringT (und n m) p (min (j + 1) k))))) s5 s6) := by
    have := ring_last (u := und n m) (p := p) hc1
    simp [mB, mU, mVar, mC, R.bind, OV.fz, OB.get, Ow.d, ap1, ap2, e_neg, rz, dIx, this]
  have k0 := add_ok (index_ok (ρ := lr m met out s3 (.own false (.lst (zs (ringT (und n m) p (min (j + 1) k))))) s5 s6) (mo := mVar 0) (x := .tup (zs m)) (.inl rfl) hlm (var_val rfl) hix) (mb := mC (.int 1)) (b := 1) rfl
  have hg2 : ((m.idxOf (it (und n m) (min (j + 1) k - 1) p) : Nat) : Int) + 1 = it (und n m) (min (j + 1) k) p := hgoal
  rw [hg2] at k0
  have k1 : mSet 6 (mB dAdd (mIndex (mVar 0) (mB dIx (mVar 4) (mU dNeg (mC (.int 1))))) (mC (.int 1))) (lr m met out s3 (.own false (.lst (zs (ringT (und n m) p (min (j + 1) k))))) s5 s6) = .nx (lr m met out s3 (.own false (.lst (zs (ringT (und n m) p (min (j + 1) k))))) s5 (.val (.int (it (und n m) (min (j + 1) k) p)))) := by
    refine set_d k0 ?_
    rcases h6 with rfl | ⟨v, rfl⟩ <;> rfl
  have k2 : mTst (mB (dOr dNotIn (dDkIn true)) (mVar 6) (mVar 4)) (lr m met out s3 (.own false (.lst (zs (ringT (und n m) p (min (j + 1) k))))) s5 (.val (.int (it (und n m) (min (j + 1) k) p)))) = .ok (!decide (it (und n m) (min (j + 1) k) p ∈ ringT (und n m) p (min (j + 1) k))) (lr m met out s3 (.own false (.lst (zs (ringT (und n m) p (min (j + 1) k))))) s5 (.val (.int (it (und n m) (min (j + 1) k) p)))) := by
    have := notin_zs (it (und n m) (min (j + 1) k) p) (ringT (und n m) p (min (j + 1) k))
    simp [mTst, mB, mVar, R.bind, OV.fz, OB.get, Ow.d, ap2, dOr, this, rz, tb]
  unfold lcI
  rw [seq_nx k1]
  by_cases c : j + 1 < k
  · have e1 : min (j + 1) k = j + 1 := by omega
    have e2 : min (j + 2) k = j + 1 + 1 := by omega
    rw [e1] at k2 ⊢
    rw [e2]
    have hnot : ¬ it (und n m) (j + 1) p ∈ ringT (und n m) p (j + 1) := by
      intro h
      obtain ⟨t, ht, e⟩ := List.mem_map.mp h
      have ht' := List.mem_range.mp ht
      have e3 : it (und n m) t (it (und n m) (j + 1 - t) p) = it (und n m) t p := by
        rw [← it_add, show t + (j + 1 - t) = j + 1 by omega]
        exact e.symm
      exact hper.1.2.2 (j + 1 - t) (by omega) (by omega) (it_inj hu t (it_in hu _ hp) hp e3)
    rw [decide_eq_false hnot] at k2
    rw [if_tt k2]
    have hb : (zs (ringT (und n m) p (j + 1))).length < BIG := by
      have := hper.2
      simp [ringT]
      unfold BIG
      omega
    have hr : zs (ringT (und n m) p (j + 1)) ++ [D.int (it (und n m) (j + 1) p)] = zs (ringT (und n m) p (j + 1 + 1)) := by
      unfold ringT
      rw [List.range_succ (n := j + 1)]
      simp
    simp [mDrop, mAppend, isOwL, mVar, R.bind, R.st, OV.fz, esc, chg, fApp]
    rw [if_pos (by simpa using hb)]
    simp [hr]
  · have e1 : min (j + 1) k = k := by omega
    have e2 : min (j + 2) k = k := by omega
    rw [e1] at k2 ⊢
    rw [e2]
    have hin : it (und n m) k p ∈ ringT (und n m) p k := by
      rw [hper.1.2.1]
      exact List.mem_map.mpr ⟨0, List.mem_range.mpr (by omega), rfl⟩
    rw [decide_eq_true hin] at k2
    rw [skip_ok k2]
theorem lc_loop {n : Nat} {m met : List Int} {out : List (List Int)} {p : Int} {s3 : Sl} (h8 : n ≤ 8) (hm : Row n m) (hp : 1 ≤ p ∧ p ≤ n) : ∀ {k j : Nat} {s5 s6 : Sl}, Pl s5 → Pl s6 → ∃ s5' s6', Pl s5' ∧ Pl s6' ∧ mForL (gN 5) lcI ((List.range' j k).map fun (i : Nat) => IV.one (.int (i : Int))) (lr m met out s3 (.own false (.lst (zs (ringT (und n m) p (min (j + 1) (len1 (und n m) p)))))) s5 s6) = .nx (lr m met out s3 (.own false (.lst (zs (ringT (und n m) p (min (j + k + 1) (len1 (und n m) p)))))) s5' s6')
  | 0, j, s5, s6, h5, h6 => ⟨s5, s6, h5, h6, rfl⟩
  | k + 1, j, s5, s6, h5, h6 => by
    obtain ⟨t6, g6, e⟩ := lc_turn (met := met) (out := out) (s3 := s3) (s5 := .val (.int (j : Int))) (j := j) h8 hm hp h6
    obtain ⟨q5, q6, a5, a6, e2⟩ := lc_loop (met := met) (out := out) (s3 := s3) h8 hm hp (k := k) (j := j + 1) (s5 := .val (.int (j : Int))) (s6 := t6) (.inr ⟨_, rfl⟩) g6
    refine ⟨q5, q6, a5, a6, ?_⟩
    rw [List.range'_succ, List.map_cons]
    unfold mForL
    have g : gN 5 (IV.one (.int (j : Int))) (lr m met out s3 (.own false (.lst (zs (ringT (und n m) p (min (j + 1) (len1 (und n m) p)))))) s5 s6) = some (lr m met out s3 (.own false (.lst (zs (ringT (und n m) p (min (j + 1) (len1 (und n m) p)))))) (.val (.int (j : Int))) s6) := by
      rcases h5 with rfl | ⟨v, rfl⟩ <;> simp [gN, canSet]
    simp only [g, e]
    have e3 : j + (k + 1) + 1 = j + 1 + k + 1 := by omega
    rw [e3]
    exact e2
/-- what can be set anew -/
def Cs (s : Sl) : Prop := s = .un ∨ (∃ v, s = .val v) ∨ ∃ o, s = .own false o
theorem Pl.cs {s : Sl} (h : Pl s) : Cs s := by
  rcases h with rfl | ⟨v, rfl⟩
  · exact .inl rfl
  · exact .inr (.inl ⟨v, rfl⟩)
noncomputable def lcB : SM := mIfS (mTst (mB (dOr dNotIn (dDkIn true)) (mVar 3) (mVar 2))) (mSeq (mSet 4 (mLst (mCons (mVar 3) mNil))) (mSeq (mFor (mRng1 (mCB (g1 dLen) (mCons (mVar 0) mNil))) (gN 5) lcI) (mSeq (mDrop (mExtend 2 (mVar 4))) (mDrop (mAppend 1 (mCB (g1 dTupOf) (mCons (mVar 4) mNil))))))) mNext
theorem lcB_turn {n : Nat} {m met : List Int} {out : List (List Int)} {p : Int} {s4 s5 s6 : Sl} (h8 : n ≤ 8) (hm : Row n m) (hp : 1 ≤ p ∧ p ≤ n) (hml : met.length + n ≤ 1000) (ho : out.length ≤ 100) (h4 : Cs s4) (h5 : Pl s5) (h6 : Pl s6) :
    ∃ s4' s5' s6', Cs s4' ∧ Pl s5' ∧ Pl s6' ∧ lcB (lr m met out (.val (.int p)) s4 s5 s6) = .nx (lr m (cyS (und n m) (met, out) p).1 (cyS (und n m) (met, out) p).2 (.val (.int p)) s4' s5' s6') := by
  have hl := hm.len
  have hu := und_row hm
  have hin : mTst (mB (dOr dNotIn (dDkIn true)) (mVar 3) (mVar 2)) (lr m met out (.val (.int p)) s4 s5 s6) = .ok (!decide (p ∈ met)) (lr m met out (.val (.int p)) s4 s5 s6) := by
    have := notin_zs p met
    simp [mTst, mB, mVar, R.bind, OV.fz, OB.get, Ow.d, ap2, dOr, this, rz, tb]
  by_cases c : p ∈ met
  · rw [decide_eq_true c] at hin
    have e : cyS (und n m) (met, out) p = (met, out) := if_pos c
    rw [e]
    exact ⟨s4, s5, s6, h4, h5, h6, skip_ok hin⟩
  · rw [decide_eq_false c] at hin
    have e : cyS (und n m) (met, out) p = (met ++ orb (und n m) p, out ++ [orb (und n m) p]) := if_neg c
    rw [e]
    have hper := len1_ok hu hp
    have k1 : mSet 4 (mLst (mCons (mVar 3) mNil)) (lr m met out (.val (.int p)) s4 s5 s6) = .nx (lr m met out (.val (.int p)) (.own false (.lst (zs (ringT (und n m) p (min (0 + 1) (len1 (und n m) p)))))) s5 s6) := by
      have e0 : min (0 + 1) (len1 (und n m) p) = 1 := by have := hper.1.1; omega
      rw [e0]
      have em : mLst (mCons (mVar 3) mNil) (lr m met out (.val (.int p)) s4 s5 s6) = .ok (.n (.lst (zs (ringT (und n m) p 1)))) (lr m met out (.val (.int p)) s4 s5 s6) := by
        simp [mLst, mCons, mNil, mVar, R.bind, OV.fz, escs, esc, BIG, ringT, it]
      refine set_n em ?_
      rcases h4 with rfl | ⟨v, rfl⟩ | ⟨o, rfl⟩ <;> rfl
    obtain ⟨q5, q6, a5, a6, hloop⟩ := lc_loop (met := met) (out := out) (s3 := .val (.int p)) h8 hm hp (k := n) (j := 0) (s5 := s5) (s6 := s6) h5 h6
    have ering : zs (ringT (und n m) p (min (0 + n + 1) (len1 (und n m) p))) = zs (orb (und n m) p) := by
      have e1 : min (0 + n + 1) (len1 (und n m) p) = len1 (und n m) p := by have := hper.2; omega
      rw [e1]
      rfl
    rw [ering] at hloop
    have k2 : mFor (mRng1 (mCB (g1 dLen) (mCons (mVar 0) mNil))) (gN 5) lcI (lr m met out (.val (.int p)) (.own false (.lst (zs (ringT (und n m) p (min (0 + 1) (len1 (und n m) p)))))) s5 s6) = .nx (lr m met out (.val (.int p)) (.own false (.lst (zs (orb (und n m) p)))) q5 q6) := by
      have hlen := len_ok (r := m) (x := .tup (zs m)) (var_val (ρ := lr m met out (.val (.int p)) (.own false (.lst (zs (ringT (und n m) p (min (0 + 1) (len1 (und n m) p)))))) s5 s6) (i := 0) rfl) (.inl rfl)
      rw [hl] at hlen
      unfold mFor
      rw [rng1_ok (by omega) hlen]
      exact hloop
    have hol : (orb (und n m) p).length ≤ n := by rw [orb_len]; exact hper.2
    have hb1 : (zs met).length + (zs (orb (und n m) p)).length ≤ BIG := by simp; unfold BIG; omega
    have k3 : mDrop (mExtend 2 (mVar 4)) (lr m met out (.val (.int p)) (.own false (.lst (zs (orb (und n m) p)))) q5 q6) = .nx (lr m (met ++ orb (und n m) p) out (.val (.int p)) (.own false (.lst (zs (orb (und n m) p)))) q5 q6) := by
      simp only [mDrop, mExtend, isOwL, mVar, R.bind, R.st, OV.fz, OB.get, Ow.d, chg, fExt, List.getElem?_cons_succ, List.getElem?_cons_zero, if_true]
      rw [if_pos hb1]
      simp [zs]
    have hb2 : (out.map fun r => D.tup (zs r)).length < BIG := by simp; unfold BIG; omega
    have k4 : mDrop (mAppend 1 (mCB (g1 dTupOf) (mCons (mVar 4) mNil))) (lr m (met ++ orb (und n m) p) out (.val (.int p)) (.own false (.lst (zs (orb (und n m) p)))) q5 q6) = .nx (lr m (met ++ orb (und n m) p) (out ++ [orb (und n m) p]) (.val (.int p)) (.own false (.lst (zs (orb (und n m) p)))) q5 q6) := by
      simp only [mDrop, mAppend, isOwL, mCB, mCons, mNil, mVar, R.bind, R.st, OV.fz, apN, getAll, OB.get, Ow.d, g1, dTupOf, rz, esc, chg, fApp, List.getElem?_cons_succ, List.getElem?_cons_zero, if_true]
      rw [if_pos hb2]
      simp
    refine ⟨.own false (.lst (zs (orb (und n m) p))), q5, q6, .inr (.inr ⟨_, rfl⟩), a5, a6, ?_⟩
    unfold lcB
    rw [if_tt hin, seq_nx k1, seq_nx k2, seq_nx k3, k4]
theorem lcB_loop {n : Nat} {m : List Int} (h8 : n ≤ 8) (hm : Row n m) : ∀ {ps met : List Int} {out : List (List Int)} {s3 s4 s5 s6 : Sl}, (∀ p ∈ ps, 1 ≤ p ∧ p ≤ (n : Int)) → met.length + n * ps.length ≤ 1000 → out.length + ps.length ≤ 100 → Pl s3 → Cs s4 → Pl s5 → Pl s6 →
    ∃ met' s3' s4' s5' s6', mForL (gN 3) lcB ((zs ps).map .one) (lr m met out s3 s4 s5 s6) = .nx (lr m met' (cyF (und n m) ps (met, out)).2 s3' s4' s5' s6')
  | [], met, out, s3, s4, s5, s6, _, _, _, _, _, _, _ => ⟨met, s3, s4, s5, s6, rfl⟩
  | p :: ps, met, out, s3, s4, s5, s6, hps, hk, ho, h3, h4, h5, h6 => by
    have hk' : met.length + n * (ps.length + 1) ≤ 1000 := hk
    rw [Nat.mul_succ] at hk'
    have ho' : out.length + (ps.length + 1) ≤ 100 := ho
    have hp := hps p (List.mem_cons_self ..)
    obtain ⟨t4, t5, t6, g4, g5, g6, ge⟩ := lcB_turn (met := met) (out := out) (s4 := s4) (s5 := s5) (s6 := s6) h8 hm hp (by omega) (by omega) h4 h5 h6
    have hlen := cyS_len (und n m) (met, out) p
    have hml : (cyS (und n m) (met, out) p).1.length ≤ met.length + n := by
      unfold cyS
      by_cases c : p ∈ met
      · rw [if_pos c]; simp
      · rw [if_neg c]
        have := (len1_ok (und_row hm) hp).2
        simp [orb_len]
        exact this
    obtain ⟨met', q3, q4, q5, q6, e⟩ := lcB_loop h8 hm (ps := ps) (met := (cyS (und n m) (met, out) p).1) (out := (cyS (und n m) (met, out) p).2) (s3 := .val (.int p)) (fun q hq => hps q (List.mem_cons_of_mem _ hq)) (by omega) (by simp at hlen; omega) (.inr ⟨_, rfl⟩) g4 g5 g6
    refine ⟨met', q3, q4, q5, q6, ?_⟩
    have g : gN 3 (IV.one (.int p)) (lr m met out s3 s4 s5 s6) = some (lr m met out (.val (.int p)) s4 s5 s6) := by
      rcases h3 with rfl | ⟨v, rfl⟩ <;> simp [gN, canSet]
    show mForL (gN 3) lcB (.one (.int p) :: (zs ps).map .one) (lr m met out s3 s4 s5 s6) = _
    unfold mForL
    simp only [g, ge]
    exact e
theorem cyc_len (n : Nat) (m : List Int) : (cyc n m).length ≤ n := by
  have := cyF_len (und n m) (up n) ([], [])
  rw [up_len] at this
  simpa [cyc] using this
theorem lcycles_ok {n : Nat} {m : List Int} (h8 : n ≤ 8) (hm : Row n m) : m__law_cycles [tz m] = .ok (.v (.tup ((cyc n m).map fun r => D.tup (zs r)))) [] := by
  have hl := hm.len
  subst hl
  have e1 : b__law_cycles_1 [tz m, .un, .un, .un, .un, .un, .un] = .nx [tz m, .own false (.lst []), .un, .un, .un, .un, .un] := by
    unfold b__law_cycles_1
    refine (set_n (o := .lst []) (ρ' := [tz m, .un, .un, .un, .un, .un, .un]) ?_ rfl).trans rfl
    simp [mLst, mNil, R.bind, escs]
  have e2 : b__law_cycles_2 [tz m, .own false (.lst []), .un, .un, .un, .un, .un] = .nx (lr m [] [] .un .un .un .un) := by
    unfold b__law_cycles_2
    refine (set_n (o := .lst []) (ρ' := [tz m, .own false (.lst []), .un, .un, .un, .un, .un]) ?_ rfl).trans rfl
    simp [mLst, mNil, R.bind, escs]
  obtain ⟨met', s3, s4, s5, s6, hloop⟩ := lcB_loop h8 hm (ps := up m.length) (met := []) (out := []) (s3 := .un) (s4 := .un) (s5 := .un) (s6 := .un) (fun p hp => (row_up m.length).mem.mp hp) (by rw [up_len]; have : m.length * m.length ≤ 8 * 8 := Nat.mul_le_mul h8 h8; simp; omega) (by simp [up_len]; omega) (.inl rfl) (.inl rfl) (.inl rfl) (.inl rfl)
  have e3 : b__law_cycles_3 (lr m [] [] .un .un .un .un) = .nx (lr m met' (cyc m.length m) s3 s4 s5 s6) := by
    have hlen := len_ok (r := m) (x := .tup (zs m)) (var_val (ρ := lr m [] [] .un .un .un .un) (i := 0) rfl) (.inl rfl)
    have hr := rng2_up (ma := mC (.int 1)) h8 (ρ := lr m [] [] .un .un .un .un) rfl (add_ok (mb := mC (.int 1)) (b := 1) hlen rfl)
    unfold b__law_cycles_3 mFor
    rw [hr]
    exact hloop
  have e4 : b__law_cycles_4 (lr m met' (cyc m.length m) s3 s4 s5 s6) = .rt (.v (.tup ((cyc m.length m).map fun r => D.tup (zs r)))) (lr m met' (cyc m.length m) s3 s4 s5 s6) := by
    unfold b__law_cycles_4
    refine mRet_d ?_
    simp [mCB, mCons, mVar, mNil, R.bind, OV.fz, apN, getAll, OB.get, Ow.d, g1, dTupOf, rz]
  unfold m__law_cycles
  refine mDef_rt (ρ := lr m met' (cyc m.length m) s3 s4 s5 s6) ?_
  show b__law_cycles [tz m, .un, .un, .un, .un, .un, .un] = _
  unfold b__law_cycles
  rw [seq_nx e1, seq_nx e2, seq_nx e3, e4]
end K01
set_option Elab.async false
set_option linter.all false
set_option maxRecDepth 100000
set_option maxHeartbeats 4000000
namespace K01
open PySem Mi
theorem cyF_mem (u : List Int) : ∀ {ps : List Int} {s : List Int × List (List Int)} {r : List Int}, r ∈ (cyF u ps s).2 → r ∈ s.2 ∨ ∃ p ∈ ps, r = orb u p
  | [], s, r, h => .inl h
  | p :: ps, s, r, h => by
    rcases cyF_mem u (ps := ps) (s := cyS u s p) h with h | ⟨q, hq, e⟩
    · unfold cyS at h
      by_cases c : p ∈ s.1
      · rw [if_pos c] at h
        exact .inl h
      · rw [if_neg c] at h
        rcases List.mem_append.mp h with h | h
        · exact .inl h
        · exact .inr ⟨p, List.mem_cons_self .., by simpa using h⟩
    · exact .inr ⟨q, List.mem_cons_of_mem _ hq, e⟩
theorem cyc_same {n : Nat} {m : List Int} (h8 : n ≤ 8) (hm : Row n m) : Same1 4 (.tup ((cyc n m).map fun r => D.tup (zs r))) := by
  refine same_tup (k := 3) (fun d hd => ?_) (by have := cyc_len n m; simp; unfold BIG; omega)
  obtain ⟨r, hr, rfl⟩ := List.mem_map.mp hd
  refine same_row 1 ?_
  rcases cyF_mem _ hr with h | ⟨p, hp, rfl⟩
  · cases h
  · have := (len1_ok (und_row hm) ((row_up n).mem.mp hp)).2
    rw [orb_len]
    omega
section
variable {ns : List Int} {n : Nat} {r m : List Int} {w : Ow} {x y : D} {s5 : Sl}
theorem told7 (h3 : 3 ≤ n) (h8 : n ≤ 8) (hr : Row n r) (hm : Row n m) (hx : Hd r x) (hy : Hd m y) : b__law_told_fit_7 (gr w r m (.val x) (.val y) s5) = .nx (gr w r m (.val x) (.val y) s5) := by
  have a1 := call1 (f := m_cycles) (ρ := gr w r m (.val x) (.val y) s5) (v := .d x) (var_val (i := 3) rfl) rfl (cycles_ok h3 h8 hr hx)
  have a2 := call1 (f := m__law_cycles) (ρ := gr w r m (.val x) (.val y) s5) (v := .d (.tup (zs r))) (var_val (i := 1) rfl) rfl (lcycles_ok h8 hr)
  have a3 := call2 (f := m__law_same 4) a1 rfl a2 rfl (cyc_same h8 hr)
  have b1 := call1 (f := m_cycles) (ρ := gr w r m (.val x) (.val y) s5) (v := .d y) (var_val (i := 4) rfl) rfl (cycles_ok h3 h8 hm hy)
  have b2 := call1 (f := m__law_cycles) (ρ := gr w r m (.val x) (.val y) s5) (v := .d (.tup (zs m))) (var_val (i := 2) rfl) rfl (lcycles_ok h8 hm)
  have b3 := call2 (f := m__law_same 4) b1 rfl b2 rfl (cyc_same h8 hm)
  unfold b__law_told_fit_7
  exact skip_ok (or_ff (not_ok (tst_ok a3)) (not_ok (tst_ok b3)))
/-- the second part of the law holds -/
theorem told_fit (hw : Dr ns w) (h3 : 3 ≤ n) (h8 : n ≤ 8) (hr : Row n r) (hm : Row n m) : ∃ w', Dr ns w' ∧ m__law_told_fit [.own true w, tz r, tz m] = .ok (.v (.bl true)) [w'] := by
  obtain ⟨w1, s3, hw1, hs3, e1⟩ := told1 (m := m) (r := r) hw
  obtain ⟨w2, s4, hw2, hs4, e2⟩ := told2 (m := m) (r := r) (s3 := s3) hw1
  obtain ⟨x, y, hx, hy, e3⟩ := told3 (w := w2) h3 h8 hr hm hs3 hs4
  obtain ⟨s5, h5, e6⟩ := told6 (w := w2) h3 h8 hr hm hx hy
  refine ⟨w2, hw2, ?_⟩
  unfold m__law_told_fit
  refine mDef_io (ρ := gr w2 r m (.val x) (.val y) s5) (io := true) ?_ rfl
  show b__law_told_fit (gr w r m .un .un .un) = _
  unfold b__law_told_fit
  rw [seq_nx e1, seq_nx e2, seq_nx e3, seq_nx (told4 h3 h8 hr hm hx hy), seq_nx (told5 h3 h8 hr hm hx hy), seq_nx e6, seq_nx (told7 h3 h8 hr hm hx hy), told8 h8 hr hm hx hy]
end
end K01
set_option Elab.async false
set_option linter.all false
set_option maxRecDepth 100000
set_option maxHeartbeats 4000000
namespace K01
open PySem Mi
/-- what can stand in a thing that is no row -/
def Sm (d : D) : Prop := (∃ i, d = .int i) ∨ (∃ b, d = .bl b) ∨ (∃ s, d = .str s) ∨ d = .non ∨ ∃ xs, d = .tup xs
def isI : D → Bool
  | .int _ => true
  | _ => false
theorem isint_sm {d : D} (h : Sm d) : m_is_integer [.val d] = .ok (.v (.bl (isI d))) [] := by
  unfold m_is_integer mDef b_is_integer
  rcases h with ⟨i, rfl⟩ | ⟨b, rfl⟩ | ⟨s, rfl⟩ | rfl | ⟨xs, rfl⟩ <;> simp [isI, mRet, mAndV, mNotV, mTst, mIsi, mVar, R.bind, R.st, OV.fz, OB.get, Tst.of, tst_int, tst_bool, tb, bD, retV, okD, ioOf]
theorem within_sm {d : D} (h : Sm d) {a b : Int} : m_is_within [.val d, .val (.int a), .val (.int b)] = .ok (.v (.bl (match d with | .int i => decide (a ≤ i ∧ i ≤ b) | _ => false))) [] := by
  have hi := isint_sm h
  rcases h with ⟨i, rfl⟩ | ⟨c, rfl⟩ | ⟨s, rfl⟩ | rfl | ⟨xs, rfl⟩
  · exact within_ok i a b
  all_goals
    unfold m_is_within mDef b_is_within
    simp [mRet, mAndV, mTst, mVar, R.bind, R.st, OV.fz, OB.get, tb, bD, retV, okD, ioOf, mCall, mArg, mNil, esc, toArgs, ioPos, ioSl, hi, isI, putO, rvOV]
theorem stage_sm {d : D} (h : Sm d) : m_is_stage [.val d] = .ok (.v (.bl (match d with | .int i => decide (3 ≤ i ∧ i ≤ 8) | _ => false))) [] := by
  have hw := within_sm h (a := 3) (b := 8)
  unfold m_is_stage mDef b_is_stage
  simp [mRet, mVar, mC, R.bind, R.st, OV.fz, retV, okD, ioOf, mCall, mArg, mNil, esc, toArgs, ioPos, ioSl, hw, putO, rvOV]
/-- a tuple or a list -/
def Sq (ds : List D) (x : D) : Prop := x = .tup ds ∨ x = .lst ds
theorem istuple_sq {ds : List D} {x : D} (h : Sq ds x) : m_is_tuple [.val x] = .ok (.v (.bl true)) [] := by
  unfold m_is_tuple mDef b_is_tuple
  rcases h with rfl | rfl <;> simp [mRet, mVar, mIsi, R.bind, R.st, OV.fz, OB.get, Tst.of, tst_tuple_list, retV, okD, ioOf]
theorem istuple_no {x : D} (h : tst_tuple_list.of x = some false) : m_is_tuple [.val x] = .ok (.v (.bl false)) [] := by
  unfold m_is_tuple mDef b_is_tuple
  simp [mRet, mVar, mIsi, R.bind, R.st, OV.fz, OB.get, h, retV, okD, ioOf]
theorem or_tt {a b : TM} {ρ ρ1 : En} (h1 : a ρ = .ok true ρ1) : mOr a b ρ = .ok true ρ1 := by
  unfold mOr
  rw [h1]
  rfl
theorem or_f {a b : TM} {ρ ρ1 ρ2 : En} {c : Bool} (h1 : a ρ = .ok false ρ1) (h2 : b ρ1 = .ok c ρ2) : mOr a b ρ = .ok c ρ2 := by
  unfold mOr
  rw [h1]
  simp only [R.bind]
  exact h2
theorem ret_ff {ρ : En} : mRet (mC (.bl false)) ρ = .rt (.v (.bl false)) ρ := rfl
/-- a thing that is no tuple is no row -/
theorem isrow_nt {x : D} {k : Int} (h : tst_tuple_list.of x = some false) : m_is_row [.val x, .val (.int k)] = .ok (.v (.bl false)) [] := by
  have e1 : b_is_row_1 [.val x, .val (.int k), .un] = .rt (.v (.bl false)) [.val x, .val (.int k), .un] := by
    have k1 := call1 (f := m_is_stage) (ρ := [.val x, .val (.int k), .un]) (v := .d (.int k)) (var_val (i := 1) rfl) rfl (stage_ok k)
    have k2 := call1 (f := m_is_tuple) (ρ := [.val x, .val (.int k), .un]) (v := .d x) (var_val (i := 0) rfl) rfl (istuple_no h)
    unfold b_is_row_1
    by_cases c : (3 ≤ k ∧ k ≤ 8)
    · rw [decide_eq_true c] at k1
      rw [if_tt (or_f (not_ok (tst_ok k1)) (or_tt (not_ok (tst_ok k2))))]
      rfl
    · rw [decide_eq_false c] at k1
      rw [if_tt (or_tt (not_ok (tst_ok k1)))]
      rfl
  unfold m_is_row
  refine mDef_rt (ρ := [.val x, .val (.int k), .un]) ?_
  show b_is_row [.val x, .val (.int k), .un] = _
  unfold b_is_row
  rw [seq_rt e1]
theorem ints_of : ∀ {ds : List D}, (∀ d ∈ ds, Sm d) → ds.all isI = true → ∃ l, ds = zs l
  | [], _, _ => ⟨[], rfl⟩
  | d :: ds, h, ha => by
    rw [List.all_cons, Bool.and_eq_true] at ha
    obtain ⟨l, e⟩ := ints_of (fun e he => h e (List.mem_cons_of_mem _ he)) ha.2
    rcases h d (List.mem_cons_self ..) with ⟨i, rfl⟩ | ⟨b, rfl⟩ | ⟨s, rfl⟩ | rfl | ⟨xs, rfl⟩
    · exact ⟨i :: l, by rw [e]; rfl⟩
    all_goals exact absurd ha.1 (by simp [isI])
theorem len_sq {ρ : En} {m : EM} {x : D} {ds : List D} (h : m ρ = .ok (.d x) ρ) (hx : Sq ds x) : mCB (g1 dLen) (mCons m mNil) ρ = .ok (.d (.int ds.length)) ρ := by
  rcases hx with rfl | rfl <;> simp [mCB, mCons, mNil, h, R.bind, OV.fz, apN, getAll, OB.get, g1, dLen, rz]
theorem ne_i {ma mb : EM} {ρ : En} {a b : Int} (h1 : ma ρ = .ok (.d (.int a)) ρ) (h2 : mb ρ = .ok (.d (.int b)) ρ) : mTst (mB dNe ma mb) ρ = .ok (!decide (a = b)) ρ := by
  refine tst_ok ?_
  unfold mB
  rw [h1]
  simp only [R.bind]
  rw [h2]
  simp only [R.bind, OV.fz, ap2, OB.get, e_nint, rz]
/-- a tuple or a list that is no row -/
theorem isrow_sq {ds : List D} {x : D} {k : Nat} (hx : Sq ds x) (hs : ∀ d ∈ ds, Sm d) (hl : ds.length ≤ 100) (hno : 3 ≤ k → k ≤ 8 → ds.length = k → ∀ l, ds = zs l → ¬ l.Perm (up k)) : m_is_row [.val x, .val (.int k)] = .ok (.v (.bl false)) [] := by
  have k1 := call1 (f := m_is_stage) (ρ := [.val x, .val (.int k), .un]) (v := .d (.int k)) (var_val (i := 1) rfl) rfl (stage_ok k)
  have k2 := call1 (f := m_is_tuple) (ρ := [.val x, .val (.int k), .un]) (v := .d x) (var_val (i := 0) rfl) rfl (istuple_sq hx)
  have k3 := ne_i (ρ := [.val x, .val (.int k), .un]) (len_sq (var_val (i := 0) rfl) hx) (var_val (i := 1) rfl)
  unfold m_is_row
  refine mDef_rt (ρ := [.val x, .val (.int k), .un]) ?_
  show b_is_row [.val x, .val (.int k), .un] = _
  unfold b_is_row
  by_cases c : ((3 : Int) ≤ k ∧ (k : Int) ≤ 8)
  · rw [decide_eq_true c] at k1
    by_cases cl : ds.length = k
    · have cl' : (ds.length : Int) = (k : Int) := by omega
      rw [decide_eq_true cl'] at k3
      have e1 : b_is_row_1 [.val x, .val (.int k), .un] = .nx [.val x, .val (.int k), .un] := by
        unfold b_is_row_1
        exact skip_ok (or_ff (not_ok (tst_ok k1)) (or_ff (not_ok (tst_ok k2)) k3))
      have hb : ds.length ≤ BIG := by unfold BIG; omega
      have e2c : mComp [2] (mSeqI (mVar 0)) (gN 2) mYes (mCall [] m_is_integer [] (mArg (mVar 2) mNil)) [.val x, .val (.int k), .un] = .ok (.n (.lst (ds.map fun d => D.bl (isI d)))) [.val x, .val (.int k), .un] :=
        comp_map (f := fun d => D.bl (isI d)) rfl (by rcases hx with rfl | rfl <;> simp [mSeqI, mVar, R.bind, OV.fz, esc, itD]) (fun d hd => ⟨.d (.bl (isI d)), call1 (v := .d d) (a := d) rfl rfl (isint_sm (hs d hd)), rfl⟩) hb
      have e2a : dAll (.lst (ds.map fun d => D.bl (isI d))) = some (.bl (ds.all isI)) := by
        have : ds.map (fun d => D.bl (isI d)) = (ds.map isI).map D.bl := by simp
        rw [this, all_lst]
        simp [List.all_map]
      have e2t : mTst (mCB (g1 dAll) (mCons (mComp [2] (mSeqI (mVar 0)) (gN 2) mYes (mCall [] m_is_integer [] (mArg (mVar 2) mNil))) mNil)) [.val x, .val (.int k), .un] = .ok (ds.all isI) [.val x, .val (.int k), .un] := by
        simp only [mTst, mCB, mCons, e2c, mNil, R.bind, OV.fz, apN, getAll, OB.get, Ow.d, g1, e2a, rz, tb]
      by_cases ca : ds.all isI = true
      · rw [ca] at e2t
        have e2 : b_is_row_2 [.val x, .val (.int k), .un] = .nx [.val x, .val (.int k), .un] := by
          unfold b_is_row_2
          exact skip_ok (not_ok e2t)
        obtain ⟨l, rfl⟩ := ints_of hs ca
        have hsort : dSorted x = some (.lst (zs (sortI l))) := by
          have hq : seqD x = some (zs l) := by rcases hx with rfl | rfl <;> rfl
          unfold dSorted
          rw [hq, Option.bind_some, intsD_zs, Option.map_some]
        have e3b : mCBn (g1n dSorted) (mCons (mVar 0) mNil) [.val x, .val (.int k), .un] = .ok (.n (.lst (zs (sortI l)))) [.val x, .val (.int k), .un] := by
          simp [mCBn, mCons, mVar, mNil, R.bind, OV.fz, apNn, getAll, OB.get, g1n, hsort, rn]
        have h8 : k ≤ 8 := by omega
        rw [seq_nx e1, seq_nx e2]
        unfold b_is_row_3
        rw [eq_expr e3b (isrow_3a h8)]
        have hne : ¬ sortI l = up k := fun e => hno (by omega) h8 cl l rfl (by rw [← e]; exact (sortI_perm l).symm)
        rw [decide_eq_false hne]
      · have ca' : ds.all isI = false := by simpa using ca
        rw [ca'] at e2t
        have e2 : b_is_row_2 [.val x, .val (.int k), .un] = .rt (.v (.bl false)) [.val x, .val (.int k), .un] := by
          unfold b_is_row_2
          rw [if_tt (not_ok e2t)]
          rfl
        rw [seq_nx e1, seq_rt e2]
    · have cl' : ¬ (ds.length : Int) = (k : Int) := by omega
      rw [decide_eq_false cl'] at k3
      have e1 : b_is_row_1 [.val x, .val (.int k), .un] = .rt (.v (.bl false)) [.val x, .val (.int k), .un] := by
        unfold b_is_row_1
        rw [if_tt (or_f (not_ok (tst_ok k1)) (or_f (not_ok (tst_ok k2)) k3))]
        rfl
      rw [seq_rt e1]
  · rw [decide_eq_false c] at k1
    have e1 : b_is_row_1 [.val x, .val (.int k), .un] = .rt (.v (.bl false)) [.val x, .val (.int k), .un] := by
      unfold b_is_row_1
      rw [if_tt (or_tt (not_ok (tst_ok k1)))]
      rfl
    rw [seq_rt e1]
abbrev XR (x : D) : Xc := ⟨"BadRow", [("row", x)]⟩
theorem mDef_ex {n : Nat} {b : SM} {as : List Sl} {r : Xc} {ρ : En} (h : b (as ++ List.replicate (n - as.length) .un) = .ex r ρ) : mDef n [] b as = .ex r [] := by
  unfold mDef
  rw [h]
  rfl
theorem judge_nt {x : D} (h : tst_tuple_list.of x = some false) : m_judge_row [.val x] = .ex (XR x) [] := by
  have k2 := call1 (f := m_is_tuple) (ρ := [.val x]) (v := .d x) (var_val (i := 0) rfl) rfl (istuple_no h)
  unfold m_judge_row
  refine mDef_ex (ρ := [.val x]) ?_
  show b_judge_row [.val x] = _
  unfold b_judge_row
  rw [if_tt (or_tt (not_ok (tst_ok k2)))]
  rfl
theorem judge_sq {ds : List D} {x : D} (hx : Sq ds x) (hs : ∀ d ∈ ds, Sm d) (hl : ds.length ≤ 100) (hno : 3 ≤ ds.length → ds.length ≤ 8 → ∀ l, ds = zs l → ¬ l.Perm (up ds.length)) : m_judge_row [.val x] = .ex (XR x) [] := by
  have k2 := call1 (f := m_is_tuple) (ρ := [.val x]) (v := .d x) (var_val (i := 0) rfl) rfl (istuple_sq hx)
  have k3 := call2 (f := m_is_row) (ρ := [.val x]) (v := .d x) (u := .d (.int ds.length)) (var_val (i := 0) rfl) rfl (len_sq (var_val (i := 0) rfl) hx) rfl (isrow_sq hx hs hl fun a b _ => hno a b)
  unfold m_judge_row
  refine mDef_ex (ρ := [.val x]) ?_
  show b_judge_row [.val x] = _
  unfold b_judge_row
  rw [if_tt (or_f (not_ok (tst_ok k2)) (not_ok (tst_ok k3)))]
  rfl
end K01
set_option Elab.async false
set_option linter.all false
set_option maxRecDepth 100000
set_option maxHeartbeats 4000000
namespace K01
open PySem Mi
/-! calls that raise -/
theorem call1x {f : List Sl → DR} {ma : EM} {ρ : En} {v : OV} {a : D} {r : Xc} (h1 : ma ρ = .ok v ρ) (e1 : esc v.fz ρ = some (a, ρ)) (hf : f [.val a] = .ex r []) : mCall [] f [] (mArg ma mNil) ρ = .ex r ρ := by
  simp [mCall, mArg, mNil, R.bind, h1, e1, toArgs, ioPos, ioSl, hf, putO]
theorem call2x {f : List Sl → DR} {ma mb : EM} {ρ : En} {v u : OV} {a b : D} {r : Xc} (h1 : ma ρ = .ok v ρ) (e1 : esc v.fz ρ = some (a, ρ)) (h2 : mb ρ = .ok u ρ) (e2 : esc u.fz ρ = some (b, ρ)) (hf : f [.val a, .val b] = .ex r []) : mCall [] f [] (mArg ma (mArg mb mNil)) ρ = .ex r ρ := by
  simp [mCall, mArg, mNil, R.bind, h1, e1, h2, e2, toArgs, ioPos, ioSl, hf, putO]
theorem call3x {f : List Sl → DR} {ma mb mc : EM} {ρ : En} {v u t : OV} {a b c : D} {r : Xc} (h1 : ma ρ = .ok v ρ) (e1 : esc v.fz ρ = some (a, ρ)) (h2 : mb ρ = .ok u ρ) (e2 : esc u.fz ρ = some (b, ρ)) (h3 : mc ρ = .ok t ρ) (e3 : esc t.fz ρ = some (c, ρ)) (hf : f [.val a, .val b, .val c] = .ex r []) : mCall [] f [] (mArg ma (mArg mb (mArg mc mNil))) ρ = .ex r ρ := by
  simp [mCall, mArg, mNil, R.bind, h1, e1, h2, e2, h3, e3, toArgs, ioPos, ioSl, hf, putO]
theorem ret_x {m : EM} {ρ ρ' : En} {r : Xc} (h : m ρ = .ex r ρ') : mRet m ρ = .ex r ρ' := by
  unfold mRet
  rw [h]
  rfl
theorem drop_x {m : EM} {ρ ρ' : En} {r : Xc} (h : m ρ = .ex r ρ') : mDrop m ρ = .ex r ρ' := by
  unfold mDrop
  rw [h]
  rfl
theorem seq_x {a b : SM} {ρ ρ' : En} {r : Xc} (h : a ρ = .ex r ρ') : mSeq a b ρ = .ex r ρ' := by
  unfold mSeq
  rw [h]
/-! the refusals of the program -/
/-- it is judged to be no row -/
def J (x : D) : Prop := m_judge_row [.val x] = .ex (XR x) []
abbrev XU : Xc := ⟨"Unlike", [("word", .str "stage")]⟩
abbrev XB (x : D) : Xc := ⟨"BadBell", [("bell", x)]⟩
theorem judges_1 {x y : D} (h : J x) : m_judge_rows [.val x, .val y] = .ex (XR x) [] := by
  unfold m_judge_rows
  refine mDef_ex (ρ := [.val x, .val y]) ?_
  show b_judge_rows [.val x, .val y] = _
  unfold b_judge_rows b_judge_rows_1
  exact seq_x (drop_x (call1x (f := m_judge_row) (v := .d x) (var_val (i := 0) rfl) rfl h))
theorem judges_2 {n : Nat} {r : List Int} {x y : D} (h3 : 3 ≤ n) (h8 : n ≤ 8) (hr : Row n r) (hx : Hd r x) (h : J y) : m_judge_rows [.val x, .val y] = .ex (XR y) [] := by
  have e1 : b_judge_rows_1 [.val x, .val y] = .nx [.val x, .val y] := by
    unfold b_judge_rows_1
    exact drop_ok (call1 (f := m_judge_row) (v := .d x) (var_val (i := 0) rfl) rfl (judge_ok h3 h8 hr hx))
  unfold m_judge_rows
  refine mDef_ex (ρ := [.val x, .val y]) ?_
  show b_judge_rows [.val x, .val y] = _
  unfold b_judge_rows
  rw [seq_nx e1]
  unfold b_judge_rows_2
  exact seq_x (drop_x (call1x (f := m_judge_row) (v := .d y) (var_val (i := 1) rfl) rfl h))
theorem judges_3 {n k : Nat} {r m : List Int} {x y : D} (h3 : 3 ≤ n) (h8 : n ≤ 8) (k3 : 3 ≤ k) (k8 : k ≤ 8) (hnk : n ≠ k) (hr : Row n r) (hx : Hd r x) (hm : Row k m) (hy : Hd m y) : m_judge_rows [.val x, .val y] = .ex XU [] := by
  have e1 : b_judge_rows_1 [.val x, .val y] = .nx [.val x, .val y] := by
    unfold b_judge_rows_1
    exact drop_ok (call1 (f := m_judge_row) (v := .d x) (var_val (i := 0) rfl) rfl (judge_ok h3 h8 hr hx))
  have e2 : b_judge_rows_2 [.val x, .val y] = .nx [.val x, .val y] := by
    unfold b_judge_rows_2
    exact drop_ok (call1 (f := m_judge_row) (v := .d y) (var_val (i := 1) rfl) rfl (judge_ok k3 k8 hm hy))
  have hne := ne_i (ρ := [.val x, .val y]) (len_ok (r := r) (x := x) (var_val (i := 0) rfl) hx) (len_ok (r := m) (x := y) (var_val (i := 1) rfl) hy)
  have hd : ¬ (r.length : Int) = (m.length : Int) := by
    rw [hr.len, hm.len]
    omega
  rw [decide_eq_false hd] at hne
  unfold m_judge_rows
  refine mDef_ex (ρ := [.val x, .val y]) ?_
  show b_judge_rows [.val x, .val y] = _
  unfold b_judge_rows
  rw [seq_nx e1, seq_nx e2]
  unfold b_judge_rows_3
  rw [if_tt hne]
  rfl
section
variable {x y : D} {r : Xc}
theorem moved_x (h : m_judge_rows [.val x, .val y] = .ex r []) : m_moved [.val x, .val y] = .ex r [] := by
  unfold m_moved
  refine mDef_ex (ρ := [.val x, .val y]) ?_
  show b_moved [.val x, .val y] = _
  unfold b_moved b_moved_1
  exact seq_x (drop_x (call2x (f := m_judge_rows) (v := .d x) (u := .d y) (var_val (i := 0) rfl) rfl (var_val (i := 1) rfl) rfl h))
theorem step_x (h : m_judge_rows [.val x, .val y] = .ex r []) : m_step [.val x, .val y] = .ex r [] := by
  unfold m_step
  refine mDef_ex (ρ := [.val x, .val y]) ?_
  show b_step [.val x, .val y] = _
  unfold b_step b_step_1
  exact seq_x (drop_x (call2x (f := m_judge_rows) (v := .d x) (u := .d y) (var_val (i := 0) rfl) rfl (var_val (i := 1) rfl) rfl h))
theorem renamed_x (h : m_judge_rows [.val x, .val y] = .ex r []) : m_renamed [.val x, .val y] = .ex r [] := by
  unfold m_renamed
  refine mDef_ex (ρ := [.val x, .val y]) ?_
  show b_renamed [.val x, .val y] = _
  unfold b_renamed b_renamed_1
  exact seq_x (drop_x (call2x (f := m_judge_rows) (v := .d x) (u := .d y) (var_val (i := 0) rfl) rfl (var_val (i := 1) rfl) rfl h))
theorem undone_x (h : J x) : m_undone [.val x] = .ex (XR x) [] := by
  unfold m_undone
  refine mDef_ex (ρ := [.val x]) ?_
  show b_undone [.val x] = _
  unfold b_undone b_undone_1
  exact seq_x (drop_x (call1x (f := m_judge_row) (v := .d x) (var_val (i := 0) rfl) rfl h))
theorem order_x (h : J x) : m_order [.val x] = .ex (XR x) [] := by
  unfold m_order
  refine mDef_ex (ρ := [.val x, .un, .un, .un]) ?_
  show b_order [.val x, .un, .un, .un] = _
  unfold b_order b_order_1
  exact seq_x (drop_x (call1x (f := m_judge_row) (v := .d x) (var_val (i := 0) rfl) rfl h))
theorem even_x (h : J x) : m_is_even [.val x] = .ex (XR x) [] := by
  unfold m_is_even
  refine mDef_ex (ρ := [.val x, .un, .un, .un, .un]) ?_
  show b_is_even [.val x, .un, .un, .un, .un] = _
  unfold b_is_even b_is_even_1
  exact seq_x (drop_x (call1x (f := m_judge_row) (v := .d x) (var_val (i := 0) rfl) rfl h))
theorem cycles_x (h : J x) : m_cycles [.val x] = .ex (XR x) [] := by
  unfold m_cycles
  refine mDef_ex (ρ := [.val x, .un, .un, .un, .un, .un, .un]) ?_
  show b_cycles [.val x, .un, .un, .un, .un, .un, .un] = _
  unfold b_cycles b_cycles_1
  exact seq_x (drop_x (call1x (f := m_judge_row) (v := .d x) (var_val (i := 0) rfl) rfl h))
theorem place_x (h : J x) : m_place [.val x, .val y] = .ex (XR x) [] := by
  unfold m_place
  refine mDef_ex (ρ := [.val x, .val y]) ?_
  show b_place [.val x, .val y] = _
  unfold b_place b_place_1
  exact seq_x (drop_x (call1x (f := m_judge_row) (v := .d x) (var_val (i := 0) rfl) rfl h))
theorem place_b {n : Nat} {m : List Int} (h3 : 3 ≤ n) (h8 : n ≤ 8) (hm : Row n m) (hx : Hd m x) (hy : Sm y) (hno : ∀ i, y = .int i → ¬ (1 ≤ i ∧ i ≤ n)) : m_place [.val x, .val y] = .ex (XB y) [] := by
  have hl := hm.len
  subst hl
  have hlen := len_ok (r := m) (x := x) (var_val (ρ := [.val x, .val y]) (i := 0) rfl) hx
  have e1 : b_place_1 [.val x, .val y] = .nx [.val x, .val y] := by
    unfold b_place_1
    exact drop_ok (call1 (f := m_judge_row) (v := .d x) (var_val (i := 0) rfl) rfl (judge_ok h3 h8 hm hx))
  have hw : m_is_within [.val y, .val (.int 1), .val (.int m.length)] = .ok (.v (.bl false)) [] := by
    have := within_sm hy (a := 1) (b := (m.length : Int))
    rcases hy with ⟨i, rfl⟩ | ⟨c, rfl⟩ | ⟨s, rfl⟩ | rfl | ⟨xs, rfl⟩
    · simp only at this
      rw [decide_eq_false (hno i rfl)] at this
      exact this
    all_goals exact this
  unfold m_place
  refine mDef_ex (ρ := [.val x, .val y]) ?_
  show b_place [.val x, .val y] = _
  unfold b_place
  rw [seq_nx e1]
  unfold b_place_2
  refine seq_x ?_
  rw [if_tt (not_ok (tst_ok (call3 (f := m_is_within) (mb := mC (.int 1)) (v := .d y) (u := .d (.int 1)) (t := .d (.int m.length)) (var_val (i := 1) rfl) rfl rfl rfl hlen rfl hw)))]
  rfl
end
/-! the law's calls by number -/
noncomputable def lcF (a b : D) : Nat → DR
  | 0 => m_moved [.val a, .val b]
  | 1 => m_step [.val a, .val b]
  | 2 => m_renamed [.val a, .val b]
  | 3 => m_undone [.val a]
  | 4 => m_order [.val a]
  | 5 => m_is_even [.val a]
  | 6 => m_cycles [.val a]
  | _ => m_place [.val a, .val b]
def Out (R : DR) : Prop := (∃ d, R = .ok (.v d) []) ∨ ∃ x, R = .ex x []
def srOf (R : DR) (ρ : En) : SR := match R with
  | .ok r _ => .rt r ρ
  | .ex x _ => .ex x ρ
  | .bad => .bad
theorem seq_sr {a b : SM} {ρ ρ' : En} {R : DR} (hR : Out R) (h : a ρ = srOf R ρ') : mSeq a b ρ = srOf R ρ' := by
  rcases hR with ⟨d, rfl⟩ | ⟨x, rfl⟩
  · exact seq_rt h
  · exact seq_x h
theorem mDef_sr {n : Nat} {b : SM} {as : List Sl} {ρ : En} {R : DR} (hR : Out R) (h : b (as ++ List.replicate (n - as.length) .un) = srOf R ρ) : mDef n [] b as = R := by
  rcases hR with ⟨d, rfl⟩ | ⟨x, rfl⟩
  · exact mDef_rt h
  · exact mDef_ex h
section
variable {a b : D} {R : DR}
theorem arm1 {k : Int} {f : List Sl → DR} (hR : Out R) (h : f [.val a] = R) : mRet (mCall [] f [] (mArg (mVar 1) mNil)) [.val (.int k), .val a, .val b] = srOf R [.val (.int k), .val a, .val b] := by
  rcases hR with ⟨d, rfl⟩ | ⟨x, rfl⟩
  · exact mRet_d (call1 (f := f) (v := .d a) (var_val (i := 1) rfl) rfl h)
  · exact ret_x (call1x (f := f) (v := .d a) (var_val (i := 1) rfl) rfl h)
theorem arm2 {k : Int} {f : List Sl → DR} (hR : Out R) (h : f [.val a, .val b] = R) : mRet (mCall [] f [] (mArg (mVar 1) (mArg (mVar 2) mNil))) [.val (.int k), .val a, .val b] = srOf R [.val (.int k), .val a, .val b] := by
  rcases hR with ⟨d, rfl⟩ | ⟨x, rfl⟩
  · exact mRet_d (call2 (f := f) (v := .d a) (u := .d b) (var_val (i := 1) rfl) rfl (var_val (i := 2) rfl) rfl h)
  · exact ret_x (call2x (f := f) (v := .d a) (u := .d b) (var_val (i := 1) rfl) rfl (var_val (i := 2) rfl) rfl h)
theorem arm_no {k j : Int} {A : SM} (h : ¬ k = j) : mIfS (mTst (mB dEq (mVar 0) (mC (.int j)))) A mNext [.val (.int k), .val a, .val b] = .nx [.val (.int k), .val a, .val b] := by
  have := eq_int (ρ := [.val (.int k), .val a, .val b]) (i := 0) (p := k) (k := j) rfl
  rw [decide_eq_false h] at this
  exact skip_ok this
theorem arm_yes {k : Int} {A : SM} {s : SR} (h : A [.val (.int k), .val a, .val b] = s) : mIfS (mTst (mB dEq (mVar 0) (mC (.int k)))) A mNext [.val (.int k), .val a, .val b] = s := by
  have := eq_int (ρ := [.val (.int k), .val a, .val b]) (i := 0) (p := k) (k := k) rfl
  rw [decide_eq_true rfl] at this
  rw [if_tt this]
  exact h
theorem lcall {k : Nat} (hk : k ≤ 7) (hR : Out R) (h : lcF a b k = R) : m__law_call [.val (.int k), .val a, .val b] = R := by
  unfold m__law_call
  refine mDef_sr (ρ := [.val (.int k), .val a, .val b]) hR ?_
  show b__law_call [.val (.int k), .val a, .val b] = _
  unfold b__law_call b__law_call_1 b__law_call_2 b__law_call_3 b__law_call_4 b__law_call_5 b__law_call_6 b__law_call_7 b__law_call_8
  have hc : k = 0 ∨ k = 1 ∨ k = 2 ∨ k = 3 ∨ k = 4 ∨ k = 5 ∨ k = 6 ∨ k = 7 := by omega
  rcases hc with rfl | rfl | rfl | rfl | rfl | rfl | rfl | rfl
  · exact seq_sr hR (arm_yes (arm2 hR h))
  · rw [seq_nx (arm_no (by decide))]
    exact seq_sr hR (arm_yes (arm2 hR h))
  · rw [seq_nx (arm_no (by decide)), seq_nx (arm_no (by decide))]
    exact seq_sr hR (arm_yes (arm2 hR h))
  · rw [seq_nx (arm_no (by decide)), seq_nx (arm_no (by decide)), seq_nx (arm_no (by decide))]
    exact seq_sr hR (arm_yes (arm1 hR h))
  · rw [seq_nx (arm_no (by decide)), seq_nx (arm_no (by decide)), seq_nx (arm_no (by decide)), seq_nx (arm_no (by decide))]
    exact seq_sr hR (arm_yes (arm1 hR h))
  · rw [seq_nx (arm_no (by decide)), seq_nx (arm_no (by decide)), seq_nx (arm_no (by decide)), seq_nx (arm_no (by decide)), seq_nx (arm_no (by decide))]
    exact seq_sr hR (arm_yes (arm1 hR h))
  · rw [seq_nx (arm_no (by decide)), seq_nx (arm_no (by decide)), seq_nx (arm_no (by decide)), seq_nx (arm_no (by decide)), seq_nx (arm_no (by decide)), seq_nx (arm_no (by decide))]
    exact seq_sr hR (arm_yes (arm1 hR h))
  · rw [seq_nx (arm_no (by decide)), seq_nx (arm_no (by decide)), seq_nx (arm_no (by decide)), seq_nx (arm_no (by decide)), seq_nx (arm_no (by decide)), seq_nx (arm_no (by decide)), seq_nx (arm_no (by decide))]
    exact arm2 hR h
end
end K01
set_option Elab.async false
set_option linter.all false
set_option maxRecDepth 100000
set_option maxHeartbeats 4000000
namespace K01
open PySem Mi
theorem isE_ok {tbl : List (Str × Bool)} {k : Ck} {i : Nat} {ρ : En} {fs : List (Str × D)} {b : Bool} (h : ρ[i]? = some (.val (.exc k.a k.d k.c fs))) (hb : tbl.lookup k.c = some b) : mIsE tbl k (mVar i) ρ = .ok (.d (.bl b)) ρ := by
  unfold mIsE
  rw [var_val h]
  simp only [R.bind, OV.fz, OB.get]
  rw [if_pos ⟨trivial, trivial, trivial⟩, hb]
theorem xf_ok {tbl : List (Str × Str)} {k : Ck} {f : Str} {i : Nat} {ρ : En} {fs : List (Str × D)} {y : D} (h : ρ[i]? = some (.val (.exc k.a k.d k.c fs))) (ht : tbl.contains (k.c, f) = true) (hf : fldD fs f = some y) : mXf tbl k f (mVar i) ρ = .ok (.d y) ρ := by
  unfold mXf
  rw [var_val h]
  simp only [R.bind, OV.fz, OB.get]
  rw [if_pos ⟨trivial, trivial, trivial, ht⟩, hf]
theorem int_bl {m : EM} {ρ : En} {b : Bool} (h : m ρ = .ok (.d (.bl b)) ρ) : mCB (g1 dInt) (mCons m mNil) ρ = .ok (.d (.int (if b then 1 else 0))) ρ := by
  simp only [mCB, mCons, h, mNil, R.bind, OV.fz, apN, getAll, OB.get, g1, dInt, rz]
theorem cl (c : Str) (f : Str) (y : D) : fldD [(f, y)] f = some y := by
  unfold fldD
  rw [if_pos rfl]
theorem pick2_ok {m : EM} {ρ : En} {s t : Str} (h : m ρ = .ok (.d (.int 0)) ρ) : mB dIx (mLst (mCons (mC (.str s)) (mCons (mC (.str t)) mNil))) m ρ = .ok (.d (.str s)) ρ := by
  have hl : mLst (mCons (mC (.str s)) (mCons (mC (.str t)) mNil)) ρ = .ok (.n (.lst [.str s, .str t])) ρ := by
    simp [mLst, mCons, mNil, mC, R.bind, OV.fz, escs, esc, BIG]
  unfold mB
  rw [hl]
  simp only [R.bind]
  rw [h]
  simp only [R.bind, OV.fz, Ow.d, ap2, OB.get]
  rfl
theorem lst2_ok {ma mb : EM} {ρ : En} {x y : D} (h1 : ma ρ = .ok (.d x) ρ) (h2 : mb ρ = .ok (.d y) ρ) : mLst (mCons ma (mCons mb mNil)) ρ = .ok (.n (.lst [x, y])) ρ := by
  simp [mLst, mCons, mNil, h1, h2, R.bind, OV.fz, escs, esc, BIG]
theorem ret_n {m : EM} {ρ ρ' : En} {o : Ow} (h : m ρ = .ok (.n o) ρ') : mRet m ρ = .rt (.w o) ρ' := by
  unfold mRet
  rw [h]
  rfl
section
variable {a b : D} {k : Int}
theorem try_x {cat : List (Str × Bool)} {i : Nat} {mb : SM} {ms : Ck → SM} {ρ ρ1 ρ2 : En} {x : Xc} {r : RV} (h : mb ρ = .ex x ρ1) (hc : cat.lookup x.c = some true) (h1 : canSet ρ1 i = true) (hs : ms ⟨0, 0, x.c⟩ (ρ1.set i (.val (.exc 0 0 x.c x.fs))) = .rt r ρ2) (h2 : canSet ρ2 i = true) : mTry cat i mb ms ρ = .rt r (ρ2.set i .un) := by
  unfold mTry
  rw [h]
  simp only
  rw [hc]
  simp only
  unfold mSuite
  rw [if_pos h1, hs]
  simp only [unslot, goneS]
  rw [if_pos h2]
theorem ref_ok {d : D} (h : m__law_call [.val (.int k), .val a, .val b] = .ok (.v d) []) : m__law_refusal [.val (.int k), .val a, .val b] = .ok (.w (.lst [])) [] := by
  have e1 : b__law_refusal_1 [.val (.int k), .val a, .val b, .un] = .nx [.val (.int k), .val a, .val b, .un] := by
    have hd := drop_ok (call3 (f := m__law_call) (ρ := [.val (.int k), .val a, .val b, .un]) (v := .d (.int k)) (u := .d a) (t := .d b) (var_val (i := 0) rfl) rfl (var_val (i := 1) rfl) rfl (var_val (i := 2) rfl) rfl h)
    unfold b__law_refusal_1 mTry
    rw [hd]
  unfold m__law_refusal
  refine mDef_rt (ρ := [.val (.int k), .val a, .val b, .un]) ?_
  show b__law_refusal [.val (.int k), .val a, .val b, .un] = _
  unfold b__law_refusal
  rw [seq_nx e1]
  unfold b__law_refusal_2
  refine ret_n ?_
  simp [mLst, mNil, R.bind, escs]
theorem ref_x {x : Xc} {os : Ow} {ρ2 : En} (h : m__law_call [.val (.int k), .val a, .val b] = .ex x []) (hc : (catOf exs).lookup x.c = some true) (hs : su__law_refusal ⟨0, 0, x.c⟩ [.val (.int k), .val a, .val b, .val (.exc 0 0 x.c x.fs)] = .rt (.w os) ρ2) (h2 : canSet ρ2 3 = true) : m__law_refusal [.val (.int k), .val a, .val b] = .ok (.w os) [] := by
  have e1 : b__law_refusal_1 [.val (.int k), .val a, .val b, .un] = .rt (.w os) (ρ2.set 3 .un) := by
    have hd := drop_x (call3x (f := m__law_call) (ρ := [.val (.int k), .val a, .val b, .un]) (v := .d (.int k)) (u := .d a) (t := .d b) (var_val (i := 0) rfl) rfl (var_val (i := 1) rfl) rfl (var_val (i := 2) rfl) rfl h)
    unfold b__law_refusal_1
    exact try_x hd hc rfl hs h2
  unfold m__law_refusal
  refine mDef_rt (ρ := ρ2.set 3 .un) ?_
  show b__law_refusal [.val (.int k), .val a, .val b, .un] = _
  unfold b__law_refusal
  rw [seq_rt e1]
abbrev fx (k : Int) (a b : D) (c : Str) (fs : List (Str × D)) : En := [.val (.int k), .val a, .val b, .val (.exc 0 0 c fs)]
theorem ref_row {y : D} (h : m__law_call [.val (.int k), .val a, .val b] = .ex (XR y) []) : m__law_refusal [.val (.int k), .val a, .val b] = .ok (.w (.lst [.str "row", y])) [] := by
  refine ref_x h (show (catOf exs).lookup ("BadRow" : Str) = some true from by decide) (ρ2 := fx k a b "BadRow" [("row", y)]) ?_ rfl
  have i1 := isE_ok (tbl := tblOf exs sub ["BadStage"]) (k := ⟨0, 0, "BadRow"⟩) (ρ := fx k a b "BadRow" [("row", y)]) (i := 3) (b := false) rfl (by decide)
  have i2 := isE_ok (tbl := tblOf exs sub ["BadRow"]) (k := ⟨0, 0, "BadRow"⟩) (ρ := fx k a b "BadRow" [("row", y)]) (i := 3) (b := true) rfl (by decide)
  have i3 := isE_ok (tbl := tblOf exs sub ["Unlike", "BadBell"]) (k := ⟨0, 0, "BadRow"⟩) (ρ := fx k a b "BadRow" [("row", y)]) (i := 3) (b := false) rfl (by decide)
  have i4 := xf_ok (tbl := exs) (k := ⟨0, 0, "BadRow"⟩) (f := "row") (ρ := fx k a b "BadRow" [("row", y)]) (i := 3) (y := y) rfl (by decide) (cl "" "row" y)
  unfold su__law_refusal
  refine (seq_nx (skip_ok (tst_ok i1))).trans (seq_rt ?_)
  rw [if_tt (tst_ok i2)]
  exact ret_n (lst2_ok (pick2_ok (int_bl i3)) i4)
theorem ref_unlike (h : m__law_call [.val (.int k), .val a, .val b] = .ex XU []) : m__law_refusal [.val (.int k), .val a, .val b] = .ok (.w (.lst [.str "unlike", .str "stage"])) [] := by
  refine ref_x h (show (catOf exs).lookup ("Unlike" : Str) = some true from by decide) (ρ2 := fx k a b "Unlike" [("word", .str "stage")]) ?_ rfl
  have i1 := isE_ok (tbl := tblOf exs sub ["BadStage"]) (k := ⟨0, 0, "Unlike"⟩) (ρ := fx k a b "Unlike" [("word", .str "stage")]) (i := 3) (b := false) rfl (by decide)
  have i2 := isE_ok (tbl := tblOf exs sub ["BadRow"]) (k := ⟨0, 0, "Unlike"⟩) (ρ := fx k a b "Unlike" [("word", .str "stage")]) (i := 3) (b := false) rfl (by decide)
  have i3 := isE_ok (tbl := tblOf exs sub ["Unlike"]) (k := ⟨0, 0, "Unlike"⟩) (ρ := fx k a b "Unlike" [("word", .str "stage")]) (i := 3) (b := true) rfl (by decide)
  have i5 := isE_ok (tbl := tblOf exs sub ["BadBell"]) (k := ⟨0, 0, "Unlike"⟩) (ρ := fx k a b "Unlike" [("word", .str "stage")]) (i := 3) (b := false) rfl (by decide)
  have i4 := xf_ok (tbl := exs) (k := ⟨0, 0, "Unlike"⟩) (f := "word") (ρ := fx k a b "Unlike" [("word", .str "stage")]) (i := 3) (y := .str "stage") rfl (by decide) (cl "" "word" _)
  unfold su__law_refusal
  refine (seq_nx (skip_ok (tst_ok i1))).trans ((seq_nx (skip_ok (tst_ok i2))).trans (seq_rt ?_))
  rw [if_tt (tst_ok i3)]
  exact ret_n (lst2_ok (pick2_ok (int_bl i5)) i4)
theorem ref_bell {y : D} (h : m__law_call [.val (.int k), .val a, .val b] = .ex (XB y) []) : m__law_refusal [.val (.int k), .val a, .val b] = .ok (.w (.lst [.str "bell", y])) [] := by
  refine ref_x h (show (catOf exs).lookup ("BadBell" : Str) = some true from by decide) (ρ2 := fx k a b "BadBell" [("bell", y)]) ?_ rfl
  have i1 := isE_ok (tbl := tblOf exs sub ["BadStage"]) (k := ⟨0, 0, "BadBell"⟩) (ρ := fx k a b "BadBell" [("bell", y)]) (i := 3) (b := false) rfl (by decide)
  have i2 := isE_ok (tbl := tblOf exs sub ["BadRow"]) (k := ⟨0, 0, "BadBell"⟩) (ρ := fx k a b "BadBell" [("bell", y)]) (i := 3) (b := false) rfl (by decide)
  have i3 := isE_ok (tbl := tblOf exs sub ["Unlike"]) (k := ⟨0, 0, "BadBell"⟩) (ρ := fx k a b "BadBell" [("bell", y)]) (i := 3) (b := false) rfl (by decide)
  have i5 := isE_ok (tbl := tblOf exs sub ["BadBell"]) (k := ⟨0, 0, "BadBell"⟩) (ρ := fx k a b "BadBell" [("bell", y)]) (i := 3) (b := true) rfl (by decide)
  have i4 := xf_ok (tbl := exs) (k := ⟨0, 0, "BadBell"⟩) (f := "bell") (ρ := fx k a b "BadBell" [("bell", y)]) (i := 3) (y := y) rfl (by decide) (cl "" "bell" _)
  unfold su__law_refusal
  refine (seq_nx (skip_ok (tst_ok i1))).trans ((seq_nx (skip_ok (tst_ok i2))).trans ((seq_nx (skip_ok (tst_ok i3))).trans (seq_rt ?_)))
  rw [if_tt (tst_ok i5)]
  exact ret_n (lst2_ok rfl i4)
end
/-! a stage that is none -/
theorem eqv_cmp {d : D} {n : Nat} (h : d.cmp n = true) : PyData.eqv d.py d.py = true := PySem.SeqAt.eqv_refl d.py (cmp_lay n d h).1
theorem eq_self {d : D} (h : d.cmp 40 = true) : dEq d d = some (.bl true) := by
  unfold dEq
  rw [h, eqv_cmp h]
  rfl
theorem ne_self {d : D} (h : d.cmp 40 = true) : dNe d d = some (.bl false) := by
  unfold dNe
  rw [h, eqv_cmp h]
  rfl
theorem stref {x : D} (hs : Sm x) (hc : x.cmp 40 = true) (hno : ∀ i, x = .int i → ¬ (3 ≤ i ∧ i ≤ 8)) : m__law_stage_refused [.val x] = .ok (.v (.bl true)) [] := by
  have hst : m_is_stage [.val x] = .ok (.v (.bl false)) [] := by
    have := stage_sm hs
    rcases hs with ⟨i, rfl⟩ | ⟨c, rfl⟩ | ⟨s, rfl⟩ | rfl | ⟨xs, rfl⟩
    · simp only at this
      rw [decide_eq_false (hno i rfl)] at this
      exact this
    all_goals exact this
  have hr : m_rounds [.val x] = .ex ⟨"BadStage", [("stage", x)]⟩ [] := by
    unfold m_rounds
    refine mDef_ex (ρ := [.val x]) ?_
    show b_rounds [.val x] = _
    unfold b_rounds b_rounds_1
    refine seq_x ?_
    rw [if_tt (not_ok (tst_ok (call1 (f := m_is_stage) (v := .d x) (var_val (i := 0) rfl) rfl hst)))]
    rfl
  have hd := drop_x (call1x (f := m_rounds) (ρ := [.val x, .un]) (v := .d x) (var_val (i := 0) rfl) rfl hr)
  have i1 := isE_ok (tbl := tblOf exs sub ["BadStage"]) (k := ⟨0, 0, "BadStage"⟩) (ρ := [.val x, .val (.exc 0 0 "BadStage" [("stage", x)])]) (i := 1) (b := true) rfl (by decide)
  have i2 := isE_ok (tbl := tblOf exs sub ["BadRow", "BadBell", "Unlike"]) (k := ⟨0, 0, "BadStage"⟩) (ρ := [.val x, .val (.exc 0 0 "BadStage" [("stage", x)])]) (i := 1) (b := false) rfl (by decide)
  have i4 := xf_ok (tbl := exs) (k := ⟨0, 0, "BadStage"⟩) (f := "stage") (ρ := [.val x, .val (.exc 0 0 "BadStage" [("stage", x)])]) (i := 1) (y := x) rfl (by decide) (cl "" "stage" _)
  have hsu : su__law_stage_refused ⟨0, 0, "BadStage"⟩ [.val x, .val (.exc 0 0 "BadStage" [("stage", x)])] = .rt (.v (.bl true)) [.val x, .val (.exc 0 0 "BadStage" [("stage", x)])] := by
    unfold su__law_stage_refused
    refine (seq_nx (skip_ok (or_ff (not_ok (tst_ok i1)) (tst_ok i2)))).trans ?_
    refine mRet_d ?_
    have he := eq_self hc
    unfold mB
    rw [i4]
    simp only [R.bind]
    rw [var_val (d := x) rfl]
    simp only [R.bind, OV.fz, ap2, OB.get]
    rw [he]
    rfl
  have e1 : b__law_stage_refused_1 [.val x, .un] = .rt (.v (.bl true)) [.val x, .un] := by
    unfold b__law_stage_refused_1
    exact try_x (i := 1) (ρ1 := [.val x, .un]) (ρ2 := [.val x, .val (.exc 0 0 "BadStage" [("stage", x)])]) hd (show (catOf exs).lookup ("BadStage" : Str) = some true from by decide) rfl hsu rfl
  unfold m__law_stage_refused
  refine mDef_rt (ρ := [.val x, .un]) ?_
  show b__law_stage_refused [.val x, .un] = _
  unfold b__law_stage_refused
  rw [seq_rt e1]
end K01
set_option Elab.async false
set_option linter.all false
set_option maxRecDepth 100000
set_option maxHeartbeats 4000000
namespace K01
open PySem Mi
/-! things that are no rows -/
theorem zs_inj : ∀ {a b : List Int}, zs a = zs b → a = b
  | [], [], _ => rfl
  | [], b :: bs, h => by cases h
  | a :: as, [], h => by cases h
  | a :: as, b :: bs, h => by
    have h' : D.int a :: zs as = D.int b :: zs bs := h
    injection h' with h1 h2
    injection h1 with h3
    rw [h3, zs_inj h2]
theorem zs_int {l : List Int} {d : D} (h : d ∈ zs l) : ∃ i, d = .int i := by
  obtain ⟨i, _, rfl⟩ := List.mem_map.mp h
  exact ⟨i, rfl⟩
theorem cmps_all {n : Nat} : ∀ {ds : List D}, (∀ d ∈ ds, d.cmp n = true) → D.cmps n ds = true
  | [], _ => by cases n <;> simp [D.cmps]
  | d :: ds, h => by
    have h1 := h d (List.mem_cons_self ..)
    have h2 := cmps_all (ds := ds) fun e he => h e (List.mem_cons_of_mem _ he)
    simp only [D.cmps, h1, h2, Bool.and_self]
structure BadS (n : Nat) (ds : List D) : Prop where
  sm : ∀ d ∈ ds, Sm d
  len : ds.length ≤ 9
  no : ∀ k : Nat, 3 ≤ k → k ≤ 8 → ∀ l, ds = zs l → ¬ l.Perm (up k)
  cm : ∀ d ∈ ds, d.cmp 38 = true
structure Bad (n : Nat) (x : D) : Prop where
  j : J x
  i : m_is_row [.val x, .val (.int n)] = .ok (.v (.bl false)) []
  c : x.cmp 39 = true
theorem BadS.bad {n : Nat} {ds : List D} (h : BadS n ds) {x : D} (hx : Sq ds x) : Bad n x := by
  have hl := h.len
  refine ⟨judge_sq hx h.sm (by omega) fun a b => h.no _ a b, isrow_sq hx h.sm (by omega) fun a b _ => h.no _ a b, ?_⟩
  have hc : D.cmps 38 ds = true := cmps_all h.cm
  rcases hx with rfl | rfl
  · exact hc
  · exact hc
theorem bad_nt {n : Nat} {x : D} (h : tst_tuple_list.of x = some false) (hc : x.cmp 39 = true) : Bad n x := ⟨judge_nt h, isrow_nt h, hc⟩
theorem bad_len {n : Nat} {l : List Int} (h3 : 3 ≤ n) (h8 : n ≤ 8) (hl : l.length < 3 ∨ (l.length = 9)) : Bad n (.tup (zs l)) := by
  have hs : ∀ d ∈ zs l, Sm d := fun d hd => .inl (zs_int hd)
  have hz : (zs l).length = l.length := by simp
  refine ⟨judge_sq (.inl rfl) hs (by rw [hz]; omega) fun a b => ?_, isrow_sq (.inl rfl) hs (by rw [hz]; omega) fun a b c => ?_, ?_⟩
  · rw [hz] at a b
    omega
  · rw [hz] at c
    omega
  · exact cmps_zs 38 l
theorem set_bad {n : Nat} {r : List Int} {s : Nat} {d : D} (h8 : n ≤ 8) (hr : Row n r) (hs : s < r.length) (hd : Sm d) (hc : d.cmp 38 = true) (hno : ∀ v, d = .int v → v ≠ r[s]) : BadS n (zs (r.take s) ++ [d] ++ zs (r.drop (s + 1))) := by
  have hl := hr.len
  have hmem : ∀ e ∈ zs (r.take s) ++ [d] ++ zs (r.drop (s + 1)), (∃ i, e = .int i) ∨ e = d := by
    intro e he
    rw [List.append_assoc] at he
    rcases List.mem_append.mp he with h | h
    · exact .inl (zs_int h)
    · rcases List.mem_cons.mp h with h | h
      · exact .inr h
      · exact .inl (zs_int h)
  refine ⟨fun e he => ?_, ?_, fun k h3 hk l hz hp => ?_, fun e he => ?_⟩
  · rcases hmem e he with h | h
    · exact .inl h
    · exact h ▸ hd
  · simp
    omega
  · have hdl : d ∈ zs l := by
      rw [← hz]
      simp
    obtain ⟨v, rfl⟩ := zs_int hdl
    have hv := hno v rfl
    have e : zs (r.take s) ++ [D.int v] ++ zs (r.drop (s + 1)) = zs (r.take s ++ v :: r.drop (s + 1)) := by simp
    rw [e] at hz
    have hz' := zs_inj hz
    subst hz'
    have hlen : (r.take s ++ v :: r.drop (s + 1)).length = k := by rw [hp.length_eq, up_len]
    have hkn : k = n := by
      simp at hlen
      omega
    subst hkn
    have hin : r[s] ∈ r.take s ++ v :: r.drop (s + 1) := hp.mem_iff.mpr (hr.mem_iff.mp (List.getElem_mem hs))
    have hnd := hr.nodup
    have hsplit : r = r.take s ++ r[s] :: r.drop (s + 1) := by
      rw [← List.drop_eq_getElem_cons hs, List.take_append_drop]
    rw [hsplit] at hnd
    have hnd' := (List.perm_middle.nodup_iff).mp hnd
    have hnot := (List.nodup_cons.mp hnd').1
    rcases List.mem_append.mp hin with h | h
    · exact hnot (List.mem_append.mpr (.inl h))
    · rcases List.mem_cons.mp h with h | h
      · exact hv h.symm
      · exact hnot (List.mem_append.mpr (.inr h))
  · rcases hmem e he with ⟨i, rfl⟩ | h
    · rfl
    · exact h ▸ hc
theorem one_up {k : Nat} (h : 3 ≤ k) : (1 : Int) ∈ up k := (row_up k).mem.mpr (by omega)
theorem less_bad {n : Nat} {r : List Int} (h8 : n ≤ 8) (hr : Row n r) : BadS n (zs (r.filter fun b => decide (1 < b))) := by
  refine ⟨fun d hd => .inl (zs_int hd), ?_, fun k h3 hk l hz hp => ?_, fun d hd => ?_⟩
  · have h1 := List.length_filter_le (fun b => decide (1 < b)) r
    have h2 := hr.len
    simp
    omega
  · have hz' := zs_inj hz
    subst hz'
    have h1 := hp.mem_iff.mpr (one_up h3)
    have h2 := (List.mem_filter.mp h1).2
    simp at h2
  · obtain ⟨i, rfl⟩ := zs_int hd
    rfl
theorem more_bad {n : Nat} {r : List Int} {s : Nat} (h8 : n ≤ 8) (hr : Row n r) (hs : s < r.length) : BadS n (zs (r ++ [r[s]])) := by
  refine ⟨fun d hd => .inl (zs_int hd), ?_, fun k h3 hk l hz hp => ?_, fun d hd => ?_⟩
  · have h2 := hr.len
    simp
    omega
  · have hz' := zs_inj hz
    subst hz'
    have hnd := hp.nodup_iff.mpr (up_nodup k)
    have := (List.nodup_append.mp hnd).2.2 r[s] (List.getElem_mem hs) r[s] (List.mem_singleton.mpr rfl)
    exact this rfl
  · obtain ⟨i, rfl⟩ := zs_int hd
    rfl
def tru (b : Int) : D := if 1 < b then .int b else .bl true
theorem true_bad {n : Nat} {r : List Int} (h3 : 3 ≤ n) (h8 : n ≤ 8) (hr : Row n r) : BadS n (r.map tru) := by
  have hmem : ∀ d ∈ r.map tru, (∃ i, d = .int i) ∨ d = .bl true := by
    intro d hd
    obtain ⟨b, _, rfl⟩ := List.mem_map.mp hd
    unfold tru
    by_cases c : 1 < b
    · rw [if_pos c]
      exact .inl ⟨b, rfl⟩
    · rw [if_neg c]
      exact .inr rfl
  refine ⟨fun d hd => ?_, ?_, fun k k3 hk l hz hp => ?_, fun d hd => ?_⟩
  · rcases hmem d hd with h | h
    · exact .inl h
    · exact .inr (.inl ⟨true, h⟩)
  · have h2 := hr.len
    simp
    omega
  · have h1 : (1 : Int) ∈ r := hr.mem.mpr (by omega)
    have h2 : D.bl true ∈ zs l := by
      rw [← hz]
      exact List.mem_map.mpr ⟨1, h1, rfl⟩
    obtain ⟨i, hi⟩ := zs_int h2
    cases hi
  · rcases hmem d hd with ⟨i, rfl⟩ | rfl
    · rfl
    · rfl
end K01
set_option Elab.async false
set_option linter.all false
set_option maxRecDepth 100000
set_option maxHeartbeats 4000000
namespace K01
open PySem Mi
theorem cut_take {m : List Int} {s : Nat} (hs : s ≤ m.length) : cutL (zs m) none (some (s : Int)) = zs (m.take s) := by
  have h1 : HT.sIx (zs m).length (zs m).length (some (s : Int)) = s := by
    have hneg : ¬ ((s : Int) < 0) := by omega
    unfold HT.sIx
    simp [hneg]
    omega
  have h2 : HT.sIx (zs m).length 0 none = 0 := rfl
  unfold cutL
  rw [h1, h2]
  simp [zs, List.map_take]
theorem at_prev {n : Nat} {r : List Int} {s : Nat} (h3 : 3 ≤ n) (hr : Row n r) (hs : s < r.length) : ∃ p, L2.atI (zs r) ((s : Int) - 1) = some (.int p) ∧ p ≠ r[s] := by
  have hl := hr.len
  by_cases c : s = 0
  · have e : L2.atI (zs r) ((s : Int) - 1) = some (.int (r[r.length - 1]'(by omega))) := by
      have hz : (zs r).length = r.length := by simp
      have e2 : ((s : Int) - 1 + (r.length : Int)).toNat = r.length - 1 := by omega
      unfold L2.atI L2.ixN
      rw [hz, if_neg (by omega), if_pos (by omega)]
      show (zs r)[((s : Int) - 1 + (r.length : Int)).toNat]? = _
      rw [e2]
      have h9 : r.length - 1 < r.length := by omega
      simp [h9]
    refine ⟨_, e, fun h => ?_⟩
    have h1 := List.Nodup.idxOf_getElem hr.nodup (r.length - 1) (by omega)
    have h2 := List.Nodup.idxOf_getElem hr.nodup s hs
    rw [h] at h1
    omega
  · have e := at_ix (r := r) (i := s - 1) (by omega)
    have e3 : ((s - 1 : Nat) : Int) = (s : Int) - 1 := by omega
    rw [e3] at e
    refine ⟨_, e, fun h => ?_⟩
    have h1 := List.Nodup.idxOf_getElem hr.nodup (s - 1) (by omega)
    have h2 := List.Nodup.idxOf_getElem hr.nodup s hs
    rw [h] at h1
    omega
theorem dStr_i (i : Int) : dStr (.int i) = if i.natAbs.log2 < 1920 then some (.str (Str.ofString (toString i))) else none := rfl
theorem str_small {i : Int} (h1 : 1 ≤ i) (h8 : i ≤ 8) : ∃ t : Str, dStr (.int i) = some (.str t) ∧ (D.str t).cmp 38 = true := by
  have hc : i = 1 ∨ i = 2 ∨ i = 3 ∨ i = 4 ∨ i = 5 ∨ i = 6 ∨ i = 7 ∨ i = 8 := by omega
  rcases hc with rfl | rfl | rfl | rfl | rfl | rfl | rfl | rfl <;> exact ⟨_, (dStr_i _).trans (if_pos (by decide +kernel)), by decide +kernel⟩
abbrev br (w : Ow) (r : List Int) (s2 s3 s4 s5 s6 s7 : Sl) : En := [.own true w, tz r, s2, s3, s4, s5, s6, s7, .un]
theorem call_io0 {f : List Sl → DR} {ma : EM} {io : Bool} {ρ : En} {w w' : Ow} {v : OV} {a d : D} (h0 : ρ[0]? = some (.own io w)) (h1 : ma ρ = .ok v ρ) (e1 : esc v.fz ρ = some (a, ρ)) (hf : f [.own true w, .val a] = .ok (.v d) [w']) : mCall [0] f [] (mLend 0 (mArg ma mNil)) ρ = .ok (.d d) (ρ.set 0 (.own io w')) := call_io h0 h1 e1 h0 hf
section
variable {ns : List Int} {n : Nat} {r : List Int} {w : Ow} {s : Nat}
def ents (n : Nat) (p e : Int) (t : Str) : List D := [.int p, .int 0, .int ((n : Int) + 1), .int (-e), .str t, .non, .tup [.int e]]
theorem bad4 {p : Int} {t : Str} (hs : s < r.length) (hp : L2.atI (zs r) ((s : Int) - 1) = some (.int p)) (ht : dStr (.int r[s]) = some (.str t)) {k : Sl} : b__law_bad_row_4 (br w r (.val (.int n)) (.val (.int s)) k .un .un .un) = .nx (br w r (.val (.int n)) (.val (.int s)) k (.own false (.lst (ents n p r[s] t))) .un .un) := by
  have ha := at_ix hs
  unfold b__law_bad_row_4
  refine (set_n (o := .lst (ents n p r[s] t)) (ρ' := br w r (.val (.int n)) (.val (.int s)) k .un .un .un) ?_ rfl).trans rfl
  simp [mLst, mCons, mNil, mB, mU, mCB, mTup, mVar, mC, R.bind, OV.fz, OB.get, ap1, ap2, apN, getAll, g1, dIx, e_sub, e_add, e_neg, rz, hp, ha, ht, escs, esc, BIG, ents]
theorem sl_ok {ρ : En} {i : Nat} {m : List Int} {ml mh : PM} {lo hi : Option Int} (h : ρ[i]? = some (tz m)) (h1 : ml ρ = .ok lo ρ) (h2 : mh ρ = .ok hi ρ) : mSl (mVar i) ml mh ρ = .ok (.d (.tup (cutL (zs m) lo hi))) ρ := by
  unfold mSl
  rw [var_val h]
  simp only [R.bind]
  rw [h1]
  simp only [R.bind]
  rw [h2]
  simp only [R.bind, OV.fz, apSl, OB.get]
theorem part_ok {ρ : En} {m : EM} {i : Int} (h : m ρ = .ok (.d (.int i)) ρ) : mPart m ρ = .ok (some i) ρ := by
  unfold mPart
  rw [h]
  rfl
theorem cat_ok {ρ : En} {ma mb : EM} {a b : List D} (h1 : ma ρ = .ok (.d (.tup a)) ρ) (h2 : mb ρ = .ok (.d (.tup b)) ρ) (hl : a.length + b.length ≤ 1000) : mB dAdd ma mb ρ = .ok (.d (.tup (a ++ b))) ρ := by
  have hb : a.length + b.length ≤ BIG := by unfold BIG; omega
  unfold mB
  rw [h1]
  simp only [R.bind]
  rw [h2]
  simp only [R.bind, OV.fz, ap2, OB.get]
  have : dAdd (.tup a) (.tup b) = some (.tup (a ++ b)) := if_pos hb
  rw [this]
  rfl
theorem lt_i {ma mb : EM} {ρ : En} {a b : Int} (h1 : ma ρ = .ok (.d (.int a)) ρ) (h2 : mb ρ = .ok (.d (.int b)) ρ) : mTst (mB dLt ma mb) ρ = .ok (decide (a < b)) ρ := by
  refine tst_ok ?_
  unfold mB
  rw [h1]
  simp only [R.bind]
  rw [h2]
  simp only [R.bind, OV.fz, ap2, OB.get, e_lt, rz]
theorem ents_bad {p : Int} {t : Str} (h3 : 3 ≤ n) (h8 : n ≤ 8) (hr : Row n r) (hs : s < r.length) (hp : p ≠ r[s]) (ht : (D.str t).cmp 38 = true) {k : Nat} (hk : k < 7) : ∃ d, (ents n p r[s] t)[k]? = some d ∧ BadS n (zs (r.take s) ++ [d] ++ zs (r.drop (s + 1))) := by
  have hm := hr.mem.mp (List.getElem_mem hs)
  have hc : k = 0 ∨ k = 1 ∨ k = 2 ∨ k = 3 ∨ k = 4 ∨ k = 5 ∨ k = 6 := by omega
  rcases hc with rfl | rfl | rfl | rfl | rfl | rfl | rfl
  · exact ⟨_, rfl, set_bad h8 hr hs (.inl ⟨_, rfl⟩) rfl fun v e => by cases e; exact hp⟩
  · exact ⟨_, rfl, set_bad h8 hr hs (.inl ⟨_, rfl⟩) rfl fun v e => by cases e; omega⟩
  · exact ⟨_, rfl, set_bad h8 hr hs (.inl ⟨_, rfl⟩) rfl fun v e => by cases e; omega⟩
  · exact ⟨_, rfl, set_bad h8 hr hs (.inl ⟨_, rfl⟩) rfl fun v e => by cases e; omega⟩
  · exact ⟨_, rfl, set_bad h8 hr hs (.inr (.inr (.inl ⟨_, rfl⟩))) ht fun v e => by cases e⟩
  · exact ⟨_, rfl, set_bad h8 hr hs (.inr (.inr (.inr (.inl rfl)))) rfl fun v e => by cases e⟩
  · exact ⟨_, rfl, set_bad h8 hr hs (.inr (.inr (.inr (.inr ⟨_, rfl⟩)))) rfl fun v e => by cases e⟩
theorem pick_ent {ρ : En} {i j : Nat} {es : List D} {k : Nat} {d : D} (h1 : ρ[i]? = some (.own false (.lst es))) (h2 : ρ[j]? = some (.val (.int k))) (h : es[k]? = some d) : mB dIx (mVar i) (mVar j) ρ = .ok (.d d) ρ := by
  have hk := (List.getElem?_eq_some_iff.mp h).1
  have hat : L2.atI es (k : Int) = some d := by
    unfold L2.atI L2.ixN
    rw [if_pos (by omega), if_pos (by omega)]
    simpa using h
  have hv : mVar i ρ = .ok (.o i) ρ := by
    unfold mVar
    rw [h1]
  unfold mB
  rw [hv]
  simp only [R.bind]
  rw [var_val h2]
  simp only [R.bind, OV.fz, ap2, OB.get]
  rw [h1]
  simp only [Ow.d, dIx]
  rw [hat]
  rfl
theorem tup1_ok {ρ : En} {m : EM} {d : D} (h : m ρ = .ok (.d d) ρ) : mTup (mCons m mNil) ρ = .ok (.d (.tup [d])) ρ := by
  simp [mTup, mCons, mNil, h, R.bind, OV.fz, escs, esc, BIG]
/-- kinds below 7 -/
theorem bad5a {p : Int} {t : Str} (h3 : 3 ≤ n) (h8 : n ≤ 8) (hr : Row n r) (hs : s < r.length) (hp : p ≠ r[s]) (ht : (D.str t).cmp 38 = true) {k : Nat} (hk : k < 7) :
    ∃ ds, BadS n ds ∧ b__law_bad_row_5 (br w r (.val (.int n)) (.val (.int s)) (.val (.int k)) (.own false (.lst (ents n p r[s] t))) .un .un) = .nx (br w r (.val (.int n)) (.val (.int s)) (.val (.int k)) (.own false (.lst (ents n p r[s] t))) (.val (.tup ds)) .un) := by
  obtain ⟨d, hd, hb⟩ := ents_bad h3 h8 hr hs hp ht hk
  have hl := hr.len
  refine ⟨_, hb, ?_⟩
  have hc := lt_i (ρ := br w r (.val (.int n)) (.val (.int s)) (.val (.int k)) (.own false (.lst (ents n p r[s] t))) .un .un) (ma := mVar 4) (mb := mC (.int 7)) (a := (k : Int)) (b := 7) rfl rfl
  rw [decide_eq_true (by omega)] at hc
  have e1 := sl_ok (ρ := br w r (.val (.int n)) (.val (.int s)) (.val (.int k)) (.own false (.lst (ents n p r[s] t))) .un .un) (i := 1) (m := r) (ml := mNoP) (mh := mPart (mVar 3)) rfl rfl (part_ok (i := (s : Int)) rfl)
  rw [cut_take (by omega)] at e1
  have e2 := tup1_ok (pick_ent (ρ := br w r (.val (.int n)) (.val (.int s)) (.val (.int k)) (.own false (.lst (ents n p r[s] t))) .un .un) (i := 5) (j := 4) rfl rfl hd)
  have e3 := sl_ok (ρ := br w r (.val (.int n)) (.val (.int s)) (.val (.int k)) (.own false (.lst (ents n p r[s] t))) .un .un) (i := 1) (m := r) (ml := mPart (mB dAdd (mVar 3) (mC (.int 1)))) (mh := mNoP) rfl (part_ok (add_ok (a := (s : Int)) (b := 1) rfl rfl)) rfl
  rw [cut_drop hs] at e3
  have hb9 := hb.len
  simp at hb9
  have e4 := cat_ok (cat_ok e1 e2 (by simp; omega)) e3 (by simp; omega)
  unfold b__law_bad_row_5
  rw [if_tt hc]
  exact set_d e4 rfl
theorem eq_no {ρ : En} {i : Nat} {k p : Int} (h : ρ[i]? = some (.val (.int p))) (hne : ¬ p = k) : mTst (mB dEq (mVar i) (mC (.int k))) ρ = .ok false ρ := by
  rw [eq_int h, decide_eq_false hne]
theorem eq_yes {ρ : En} {i : Nat} {k : Int} (h : ρ[i]? = some (.val (.int k))) : mTst (mB dEq (mVar i) (mC (.int k))) ρ = .ok true ρ := by
  rw [eq_int h, decide_eq_true rfl]
theorem if_ff {c : TM} {a b : SM} {ρ ρ' : En} (h : c ρ = .ok false ρ') : mIfS c a b ρ = b ρ' := by
  unfold mIfS
  rw [h]
  rfl
theorem bad7 {s3 s5 : Sl} (h8 : n ≤ 8) (hr : Row n r) : ∃ ds, BadS n ds ∧ b__law_bad_row_5 (br w r (.val (.int n)) s3 (.val (.int 7)) s5 .un .un) = .nx (br w r (.val (.int n)) s3 (.val (.int 7)) s5 (.val (.tup ds)) .un) := by
  refine ⟨_, less_bad h8 hr, ?_⟩
  have hl := hr.len
  have hc := lt_i (ρ := br w r (.val (.int n)) s3 (.val (.int 7)) s5 .un .un) (ma := mVar 4) (mb := mC (.int 7)) (a := 7) (b := 7) rfl rfl
  rw [decide_eq_false (by omega)] at hc
  have hcomp := comp_filter (v := 8) (im := mSeqI (mVar 1)) (tt := mTst (mB dGt (mVar 8) (mC (.int 1)))) (te := mVar 8) (ρ := br w r (.val (.int n)) s3 (.val (.int 7)) s5 .un .un)
    (c := fun d => match d with | .int b => decide (1 < b) | _ => false) (f := id) (ys := zs r) rfl (by simp [mSeqI, mVar, R.bind, OV.fz, esc, itD]) (fun d hd => by
      obtain ⟨b, _, rfl⟩ := List.mem_map.mp hd
      simp [mTst, mB, mVar, mC, R.bind, OV.fz, OB.get, ap2, rz, e_gt, tb]) (fun d hd => ⟨.d d, by simp [mVar], rfl⟩) (by simp; unfold BIG; omega)
  have hf : ∀ l : List Int, ((zs l).filter (fun d => match d with | .int b => decide (1 < b) | _ => false)).map id = zs (l.filter fun b => decide (1 < b)) := by
    intro l
    rw [List.map_id, zs, List.filter_map]
    rfl
  rw [hf] at hcomp
  unfold b__law_bad_row_5
  rw [if_ff hc, if_tt (eq_yes rfl)]
  refine set_d (ρ' := br w r (.val (.int n)) s3 (.val (.int 7)) s5 .un .un) ?_ rfl
  simp only [mCB, mCons, hcomp, mNil, R.bind, OV.fz, apN, getAll, OB.get, Ow.d, g1, dTupOf, rz]
theorem bad8 {s5 : Sl} (h8 : n ≤ 8) (hr : Row n r) (hs : s < r.length) : ∃ ds, BadS n ds ∧ b__law_bad_row_5 (br w r (.val (.int n)) (.val (.int s)) (.val (.int 8)) s5 .un .un) = .nx (br w r (.val (.int n)) (.val (.int s)) (.val (.int 8)) s5 (.val (.tup ds)) .un) := by
  refine ⟨_, more_bad h8 hr hs, ?_⟩
  have hl := hr.len
  have hc := lt_i (ρ := br w r (.val (.int n)) (.val (.int s)) (.val (.int 8)) s5 .un .un) (ma := mVar 4) (mb := mC (.int 7)) (a := 8) (b := 7) rfl rfl
  rw [decide_eq_false (by omega)] at hc
  have ha := at_ix hs
  have e2 : mTup (mCons (mB dIx (mVar 1) (mVar 3)) mNil) (br w r (.val (.int n)) (.val (.int s)) (.val (.int 8)) s5 .un .un) = .ok (.d (.tup [.int r[s]])) (br w r (.val (.int n)) (.val (.int s)) (.val (.int 8)) s5 .un .un) := by
    refine tup1_ok ?_
    simp [mB, mVar, R.bind, OV.fz, OB.get, ap2, dIx, ha, rz]
  have e4 := cat_ok (ma := mVar 1) (a := zs r) rfl e2 (by simp; omega)
  unfold b__law_bad_row_5
  rw [if_ff hc, if_ff (eq_no (p := 8) rfl (by decide)), if_tt (eq_yes rfl)]
  have : zs r ++ [D.int r[s]] = zs (r ++ [r[s]]) := by simp
  rw [this] at e4
  exact set_d e4 rfl
theorem bad9 {s3 s5 : Sl} (h3 : 3 ≤ n) (h8 : n ≤ 8) (hr : Row n r) : ∃ ds, BadS n ds ∧ b__law_bad_row_5 (br w r (.val (.int n)) s3 (.val (.int 9)) s5 .un .un) = .nx (br w r (.val (.int n)) s3 (.val (.int 9)) s5 (.val (.tup ds)) .un) := by
  refine ⟨_, true_bad h3 h8 hr, ?_⟩
  have hl := hr.len
  have hc := lt_i (ρ := br w r (.val (.int n)) s3 (.val (.int 9)) s5 .un .un) (ma := mVar 4) (mb := mC (.int 7)) (a := 9) (b := 7) rfl rfl
  rw [decide_eq_false (by omega)] at hc
  have hcomp : mComp [8] (mSeqI (mVar 1)) (gN 8) (mYes) (mB dIx (mLst (mCons (mC (.bl true)) (mCons (mVar 8) mNil))) (mCB (g1 dInt) (mCons (mB dGt (mVar 8) (mC (.int 1))) mNil))) (br w r (.val (.int n)) s3 (.val (.int 9)) s5 .un .un) = .ok (.n (.lst ((zs r).map fun d => match d with | .int b => tru b | _ => .non))) (br w r (.val (.int n)) s3 (.val (.int 9)) s5 .un .un) :=
    comp_map rfl (by simp [mSeqI, mVar, R.bind, OV.fz, esc, itD]) (fun d hd => by
      obtain ⟨b, _, rfl⟩ := List.mem_map.mp hd
      refine ⟨.d (tru b), ?_, rfl⟩
      have hrow := (br w r (.val (.int n)) s3 (.val (.int 9)) s5 .un .un)
      by_cases c : 1 < b
      · have et : tru b = .int b := if_pos c
        rw [et]
        simp [mB, mLst, mCB, mCons, mNil, mVar, mC, R.bind, OV.fz, OB.get, Ow.d, ap2, apN, getAll, g1, e_gt, c, rz, dInt, dIx, escs, esc, BIG, L2.atI, L2.ixN]
      · have et : tru b = .bl true := if_neg c
        rw [et]
        simp [mB, mLst, mCB, mCons, mNil, mVar, mC, R.bind, OV.fz, OB.get, Ow.d, ap2, apN, getAll, g1, e_gt, c, rz, dInt, dIx, escs, esc, BIG, L2.atI, L2.ixN]) (by simp; unfold BIG; omega)
  have hf : ((zs r).map fun d => match d with | .int b => tru b | _ => .non) = r.map tru := by simp
  rw [hf] at hcomp
  unfold b__law_bad_row_5
  rw [if_ff hc, if_ff (eq_no (p := 9) rfl (by decide)), if_ff (eq_no (p := 9) rfl (by decide)), if_tt (eq_yes rfl)]
  refine set_d (ρ' := br w r (.val (.int n)) s3 (.val (.int 9)) s5 .un .un) ?_ rfl
  simp only [mCB, mCons, hcomp, mNil, R.bind, OV.fz, apN, getAll, OB.get, Ow.d, g1, dTupOf, rz]
end
end K01
set_option Elab.async false
set_option linter.all false
set_option maxRecDepth 100000
set_option maxHeartbeats 4000000
namespace K01
open PySem Mi
section
variable {ns : List Int} {n : Nat} {r : List Int} {w : Ow}
def whole : List D := [.tup (zs [1, 2]), .tup (zs [9, 8, 7, 6, 5, 4, 3, 2, 1]), .str "1234", .non, .int 5, .tup (zs []), .bl true, .str "", .int (-3)]
theorem whole_bad (h3 : 3 ≤ n) (h8 : n ≤ 8) {k : Nat} (hk : k < 9) : ∃ d, whole[k]? = some d ∧ Bad n d := by
  have hc : k = 0 ∨ k = 1 ∨ k = 2 ∨ k = 3 ∨ k = 4 ∨ k = 5 ∨ k = 6 ∨ k = 7 ∨ k = 8 := by omega
  rcases hc with rfl | rfl | rfl | rfl | rfl | rfl | rfl | rfl | rfl
  · exact ⟨_, rfl, bad_len h3 h8 (.inl (by decide))⟩
  · exact ⟨_, rfl, bad_len h3 h8 (.inr (by decide))⟩
  · exact ⟨_, rfl, bad_nt rfl (by decide +kernel)⟩
  · exact ⟨_, rfl, bad_nt rfl rfl⟩
  · exact ⟨_, rfl, bad_nt rfl rfl⟩
  · exact ⟨_, rfl, bad_len h3 h8 (.inl (by decide))⟩
  · exact ⟨_, rfl, bad_nt rfl rfl⟩
  · exact ⟨_, rfl, bad_nt rfl (by decide +kernel)⟩
  · exact ⟨_, rfl, bad_nt rfl rfl⟩
/-- an entry of an own list at a place drawn -/
theorem ix_draw {ρ : En} {i : Nat} {es : List D} {k : Nat} {d : D} {m : EM} {w' : Ow} (h1 : ρ[i]? = some (.own false (.lst es))) (hm : m ρ = .ok (.d (.int k)) (ρ.set 0 (.own true w'))) (h2 : (ρ.set 0 (.own true w'))[i]? = some (.own false (.lst es))) (h : es[k]? = some d) : mB dIx (mVar i) m ρ = .ok (.d d) (ρ.set 0 (.own true w')) := by
  have hk := (List.getElem?_eq_some_iff.mp h).1
  have hat : L2.atI es (k : Int) = some d := by
    unfold L2.atI L2.ixN
    rw [if_pos (by omega), if_pos (by omega)]
    simpa using h
  have hv : mVar i ρ = .ok (.o i) ρ := by
    unfold mVar
    rw [h1]
  unfold mB
  rw [hv]
  simp only [R.bind]
  rw [hm]
  simp only [R.bind, OV.fz, ap2, OB.get]
  rw [h2]
  simp only [Ow.d, dIx]
  rw [hat]
  rfl
theorem whole_ok {ρ : En} : mLst (mCons (mTup (mCons (mC (.int 1)) (mCons (mC (.int 2)) mNil))) (mCons (mTup (mCons (mC (.int 9)) (mCons (mC (.int 8)) (mCons (mC (.int 7)) (mCons (mC (.int 6)) (mCons (mC (.int 5)) (mCons (mC (.int 4)) (mCons (mC (.int 3)) (mCons (mC (.int 2)) (mCons (mC (.int 1)) mNil)))))))))) (mCons (mC (.str "1234")) (mCons (mC .non) (mCons (mC (.int 5)) (mCons (mTup mNil) (mCons (mC (.bl true)) (mCons (mC (.str "")) (mCons (mU dNeg (mC (.int 3))) mNil))))))))) ρ = .ok (.n (.lst whole)) ρ := by
  simp [mLst, mTup, mCons, mNil, mC, mU, R.bind, OV.fz, OB.get, ap1, e_neg, rz, escs, esc, BIG, whole]
theorem bad10 {s3 s5 : Sl} (hw : Dr ns w) (h3 : 3 ≤ n) (h8 : n ≤ 8) (hr : Row n r) {k : Int} (hk : 9 < k) : ∃ w' x ρ', Dr ns w' ∧ Bad n x ∧ ρ'[0]? = some (.own true w') ∧ b__law_bad_row_5 (br w r (.val (.int n)) s3 (.val (.int k)) s5 .un .un) = .rt (.v x) ρ' := by
  obtain ⟨p, w', hw', h0, h1, hp⟩ := pick_ok hw (many := 9) (by omega) (by omega)
  obtain ⟨x, hx, hb⟩ := whole_bad (k := p.toNat) h3 h8 (by omega)
  have hc := lt_i (ρ := br w r (.val (.int n)) s3 (.val (.int k)) s5 .un .un) (ma := mVar 4) (mb := mC (.int 7)) (a := k) (b := 7) rfl rfl
  rw [decide_eq_false (by omega)] at hc
  have e7 : mSet 7 (mLst (mCons (mTup (mCons (mC (.int 1)) (mCons (mC (.int 2)) mNil))) (mCons (mTup (mCons (mC (.int 9)) (mCons (mC (.int 8)) (mCons (mC (.int 7)) (mCons (mC (.int 6)) (mCons (mC (.int 5)) (mCons (mC (.int 4)) (mCons (mC (.int 3)) (mCons (mC (.int 2)) (mCons (mC (.int 1)) mNil)))))))))) (mCons (mC (.str "1234")) (mCons (mC .non) (mCons (mC (.int 5)) (mCons (mTup mNil) (mCons (mC (.bl true)) (mCons (mC (.str "")) (mCons (mU dNeg (mC (.int 3))) mNil)))))))))) (br w r (.val (.int n)) s3 (.val (.int k)) s5 .un .un) = .nx (br w r (.val (.int n)) s3 (.val (.int k)) s5 .un (.own false (.lst whole))) := set_n whole_ok rfl
  have hpn : ((p.toNat : Nat) : Int) = p := by omega
  have hd := call_io0 (f := m__law_pick) (ρ := br w r (.val (.int n)) s3 (.val (.int k)) s5 .un (.own false (.lst whole))) (io := true) (w := w) (w' := w') (v := .d (.int 9)) (ma := mC (.int 9)) rfl rfl rfl hp
  rw [← hpn] at hd
  have e8 := ix_draw (i := 7) (es := whole) rfl hd rfl hx
  refine ⟨w', x, br w' r (.val (.int n)) s3 (.val (.int k)) s5 .un (.own false (.lst whole)), hw', hb, rfl, ?_⟩
  · unfold b__law_bad_row_5
    rw [if_ff hc, if_ff (eq_no (p := k) rfl (by omega)), if_ff (eq_no (p := k) rfl (by omega)), if_ff (eq_no (p := k) rfl (by omega)), seq_nx e7]
    exact mRet_d e8
theorem br_mid {s2 s3 s4 s5 : Sl} {ds : List D} (hw : Dr ns w) (hb : BadS n ds) : ∃ w' x ρ', Dr ns w' ∧ Bad n x ∧ ρ'[0]? = some (.own true w') ∧ (mSeq b__law_bad_row_6 b__law_bad_row_7 (br w r s2 s3 s4 s5 (.val (.tup ds)) .un) = .rt (.v x) ρ' ∨ ∃ es, x = .lst es ∧ mSeq b__law_bad_row_6 b__law_bad_row_7 (br w r s2 s3 s4 s5 (.val (.tup ds)) .un) = .rt (.w (.lst es)) ρ') := by
  obtain ⟨p, w', hw', h0, h1, hp⟩ := pick_ok hw (many := 2) (by omega) (by omega)
  have hd := call_io0 (f := m__law_pick) (ρ := br w r s2 s3 s4 s5 (.val (.tup ds)) .un) (io := true) (w := w) (w' := w') (v := .d (.int 2)) (ma := mC (.int 2)) rfl rfl rfl hp
  have ht : mTst (mB dEq (mCall [0] m__law_pick [] (mLend 0 (mArg (mC (.int 2)) mNil))) (mC (.int 1))) (br w r s2 s3 s4 s5 (.val (.tup ds)) .un) = .ok (decide (p = 1)) (br w' r s2 s3 s4 s5 (.val (.tup ds)) .un) := by
    refine tst_ok ?_
    unfold mB
    rw [hd]
    simp only [R.bind, mC, OV.fz, ap2, OB.get, e_int, rz]
    rfl
  by_cases c : p = 1
  · rw [decide_eq_true c] at ht
    refine ⟨w', .lst ds, br w' r s2 s3 s4 s5 (.val (.tup ds)) .un, hw', hb.bad (.inr rfl), rfl, .inr ⟨ds, rfl, ?_⟩⟩
    refine seq_rt ?_
    unfold b__law_bad_row_6
    rw [if_tt ht]
    refine ret_n ?_
    simp [mCBn, mCons, mNil, mVar, R.bind, OV.fz, apNn, getAll, OB.get, g1n, dListOf, seqD, rn]
  · rw [decide_eq_false c] at ht
    refine ⟨w', .tup ds, br w' r s2 s3 s4 s5 (.val (.tup ds)) .un, hw', hb.bad (.inl rfl), rfl, .inl ?_⟩
    have e6 : b__law_bad_row_6 (br w r s2 s3 s4 s5 (.val (.tup ds)) .un) = .nx (br w' r s2 s3 s4 s5 (.val (.tup ds)) .un) := by
      unfold b__law_bad_row_6
      exact skip_ok ht
    rw [seq_nx e6]
    unfold b__law_bad_row_7
    exact mRet_d (var_val rfl)
theorem badrow_ok (hw : Dr ns w) (h3 : 3 ≤ n) (h8 : n ≤ 8) (hr : Row n r) : ∃ w' x, Dr ns w' ∧ Bad n x ∧ (m__law_bad_row [.own true w, tz r] = .ok (.v x) [w'] ∨ ∃ es, x = .lst es ∧ m__law_bad_row [.own true w, tz r] = .ok (.w (.lst es)) [w']) := by
  have hl := hr.len
  have e1 : b__law_bad_row_1 (br w r .un .un .un .un .un .un) = .nx (br w r (.val (.int n)) .un .un .un .un .un) := by
    have hlen := len_ok (r := r) (x := .tup (zs r)) (var_val (ρ := br w r .un .un .un .un .un .un) (i := 1) rfl) (.inl rfl)
    rw [hl] at hlen
    unfold b__law_bad_row_1
    exact set_d hlen rfl
  obtain ⟨a, w1, hw1, a0, a1, ha⟩ := pick_ok hw (many := (n : Int)) (by omega) (by omega)
  have e2 : b__law_bad_row_2 (br w r (.val (.int n)) .un .un .un .un .un) = .nx (br w1 r (.val (.int n)) (.val (.int a)) .un .un .un .un) := by
    unfold b__law_bad_row_2
    exact set_d (call_io0 (f := m__law_pick) (ρ := br w r (.val (.int n)) .un .un .un .un .un) (io := true) (w := w) (v := .d (.int n)) rfl (var_val (i := 2) rfl) rfl ha) rfl
  obtain ⟨kd, w2, hw2, k0, k1, hk⟩ := pick_ok hw1 (many := 11) (by omega) (by omega)
  have e3 : b__law_bad_row_3 (br w1 r (.val (.int n)) (.val (.int a)) .un .un .un .un) = .nx (br w2 r (.val (.int n)) (.val (.int a)) (.val (.int kd)) .un .un .un) := by
    unfold b__law_bad_row_3
    exact set_d (call_io0 (f := m__law_pick) (ρ := br w1 r (.val (.int n)) (.val (.int a)) .un .un .un .un) (io := true) (w := w1) (v := .d (.int 11)) (ma := mC (.int 11)) rfl rfl rfl hk) rfl
  obtain ⟨s, rfl⟩ : ∃ s : Nat, a = s := ⟨a.toNat, by omega⟩
  obtain ⟨kn, rfl⟩ : ∃ s : Nat, kd = s := ⟨kd.toNat, by omega⟩
  have hs : s < r.length := by omega
  obtain ⟨p, hp, hpne⟩ := at_prev h3 hr hs
  have hm := hr.mem.mp (List.getElem_mem hs)
  obtain ⟨t, ht, htc⟩ := str_small (i := r[s]) hm.1 (by omega)
  have e4 := bad4 (w := w2) (n := n) (k := .val (.int kn)) hs hp ht
  have fin : ∀ {ds : List D}, BadS n ds → b__law_bad_row_5 (br w2 r (.val (.int n)) (.val (.int s)) (.val (.int kn)) (.own false (.lst (ents n p r[s] t))) .un .un) = .nx (br w2 r (.val (.int n)) (.val (.int s)) (.val (.int kn)) (.own false (.lst (ents n p r[s] t))) (.val (.tup ds)) .un) → ∃ w' x, Dr ns w' ∧ Bad n x ∧ (m__law_bad_row [.own true w, tz r] = .ok (.v x) [w'] ∨ ∃ es, x = .lst es ∧ m__law_bad_row [.own true w, tz r] = .ok (.w (.lst es)) [w']) := by
    intro ds hb e5
    obtain ⟨w', x, ρ', hw', hbx, hρ, h⟩ := br_mid (r := r) (s2 := .val (.int n)) (s3 := .val (.int s)) (s4 := .val (.int kn)) (s5 := .own false (.lst (ents n p r[s] t))) hw2 hb
    refine ⟨w', x, hw', hbx, ?_⟩
    have hall : ∀ {z : SR}, mSeq b__law_bad_row_6 b__law_bad_row_7 (br w2 r (.val (.int n)) (.val (.int s)) (.val (.int kn)) (.own false (.lst (ents n p r[s] t))) (.val (.tup ds)) .un) = z → b__law_bad_row (br w r .un .un .un .un .un .un) = z := by
      intro z hz
      unfold b__law_bad_row
      rw [seq_nx e1, seq_nx e2, seq_nx e3, seq_nx e4, seq_nx e5]
      exact hz
    rcases h with h | ⟨es, hx, h⟩
    · refine .inl ?_
      unfold m__law_bad_row
      exact mDef_io (io := true) (hall h) hρ
    · refine .inr ⟨es, hx, ?_⟩
      unfold m__law_bad_row
      exact mDef_io (io := true) (hall h) hρ
  by_cases c7 : kn < 7
  · obtain ⟨ds, hb, e5⟩ := bad5a (w := w2) h3 h8 hr hs hpne htc c7
    exact fin hb e5
  by_cases c8 : kn = 7
  · subst c8
    obtain ⟨ds, hb, e5⟩ := bad7 (w := w2) (s3 := .val (.int s)) (s5 := .own false (.lst (ents n p r[s] t))) h8 hr
    exact fin hb e5
  by_cases c9 : kn = 8
  · subst c9
    obtain ⟨ds, hb, e5⟩ := bad8 (w := w2) (s5 := .own false (.lst (ents n p r[s] t))) h8 hr hs
    exact fin hb e5
  by_cases c10 : kn = 9
  · subst c10
    obtain ⟨ds, hb, e5⟩ := bad9 (w := w2) (s3 := .val (.int s)) (s5 := .own false (.lst (ents n p r[s] t))) h3 h8 hr
    exact fin hb e5
  obtain ⟨w', x, ρ', hw', hbx, hρ, e5⟩ := bad10 (s3 := .val (.int s)) (s5 := .own false (.lst (ents n p r[s] t))) hw2 h3 h8 hr (k := (kn : Int)) (by omega)
  refine ⟨w', x, hw', hbx, .inl ?_⟩
  unfold m__law_bad_row
  refine mDef_io (io := true) ?_ hρ
  show b__law_bad_row (br w r .un .un .un .un .un .un) = _
  unfold b__law_bad_row
  rw [seq_nx e1, seq_nx e2, seq_nx e3, seq_nx e4, seq_rt e5]
end
end K01
set_option Elab.async false
set_option linter.all false
set_option maxRecDepth 100000
set_option maxHeartbeats 4000000
namespace K01
open PySem Mi
def RF (k : Nat) (a b : D) (o : List D) : Prop := m__law_refusal [.val (.int k), .val a, .val b] = .ok (.w (.lst o)) []
section
variable {a b : D} {k : Nat}
theorem rf_row {y : D} (hk : k ≤ 7) (h : lcF a b k = .ex (XR y) []) : RF k a b [.str "row", y] := ref_row (lcall hk (.inr ⟨_, rfl⟩) h)
theorem rf_unlike (hk : k ≤ 7) (h : lcF a b k = .ex XU []) : RF k a b [.str "unlike", .str "stage"] := ref_unlike (lcall hk (.inr ⟨_, rfl⟩) h)
theorem rf_bell {y : D} (hk : k ≤ 7) (h : lcF a b k = .ex (XB y) []) : RF k a b [.str "bell", y] := ref_bell (lcall hk (.inr ⟨_, rfl⟩) h)
theorem rf_ok {d : D} (hk : k ≤ 7) (h : lcF a b k = .ok (.v d) []) : RF k a b [] := ref_ok (lcall hk (.inl ⟨_, rfl⟩) h)
theorem rf_first (hk : k ≤ 7) (h : J a) : RF k a b [.str "row", a] := by
  refine rf_row hk ?_
  have hc : k = 0 ∨ k = 1 ∨ k = 2 ∨ k = 3 ∨ k = 4 ∨ k = 5 ∨ k = 6 ∨ k = 7 := by omega
  rcases hc with rfl | rfl | rfl | rfl | rfl | rfl | rfl | rfl
  · exact moved_x (judges_1 h)
  · exact step_x (judges_1 h)
  · exact renamed_x (judges_1 h)
  · exact undone_x h
  · exact order_x h
  · exact even_x h
  · exact cycles_x h
  · exact place_x h
theorem rf_three {r : Xc} (hk : k ≤ 2) (h : m_judge_rows [.val a, .val b] = .ex r []) : lcF a b k = .ex r [] := by
  have hc : k = 0 ∨ k = 1 ∨ k = 2 := by omega
  rcases hc with rfl | rfl | rfl
  · exact moved_x h
  · exact step_x h
  · exact renamed_x h
theorem rf_good {n : Nat} {r m : List Int} (h3 : 3 ≤ n) (h8 : n ≤ 8) (hr : Row n r) (hm : Row n m) (ha : Hd r a) (hb : Hd m b) (hk : k ≤ 2) : RF k a b [] := by
  have hc : k = 0 ∨ k = 1 ∨ k = 2 := by omega
  rcases hc with rfl | rfl | rfl
  · exact rf_ok (by omega) (moved_ok h3 h8 hr hm ha hb)
  · exact rf_ok (by omega) (step_ok h3 h8 hr hm ha hb)
  · exact rf_ok (by omega) (renamed_ok h3 h8 hr hm ha hb)
theorem rf_good1 {n : Nat} {r : List Int} (h3 : 3 ≤ n) (h8 : n ≤ 8) (hr : Row n r) (ha : Hd r a) (hk : 3 ≤ k) (hk6 : k ≤ 6) : RF k a b [] := by
  have hc : k = 3 ∨ k = 4 ∨ k = 5 ∨ k = 6 := by omega
  obtain ⟨T, _, H⟩ := home_ex hr h8
  rcases hc with rfl | rfl | rfl | rfl
  · exact rf_ok (by omega) (undone_ok h3 h8 hr ha)
  · exact rf_ok (by omega) (order_ok h3 h8 hr ha H)
  · exact rf_ok (by omega) (iseven_ok h3 h8 hr ha)
  · exact rf_ok (by omega) (cycles_ok h3 h8 hr ha)
end
/-- a slot that holds a thing, perhaps as an own list -/
def Sx (x : D) (s : Sl) : Prop := s = .val x ∨ ∃ es, x = .lst es ∧ s = .own false (.lst es)
theorem slot_any {ρ : En} {i : Nat} {x : D} {s : Sl} (h : ρ[i]? = some s) (hs : Sx x s) : ∃ v, mVar i ρ = .ok v ρ ∧ esc v.fz ρ = some (x, ρ.set i (.val x)) := by
  rcases hs with rfl | ⟨es, rfl, rfl⟩
  · refine ⟨.d x, by simp [mVar, h], ?_⟩
    have hv : i < ρ.length := (List.getElem?_eq_some_iff.mp h).1
    have := (List.getElem?_eq_some_iff.mp h).2
    have e : ρ.set i (.val x) = ρ := by rw [← this, List.set_getElem_self]
    rw [e]
    rfl
  · refine ⟨.o i, by simp [mVar, h], ?_⟩
    simp [OV.fz, esc, h, Ow.d]
theorem call3n {f : List Sl → DR} {mk ma mb : EM} {ρ ρ2 ρ3 ρ4 ρ5 : En} {v u : OV} {k a b : D} {o : Ow} (h0 : mk ρ = .ok (.d k) ρ) (h1 : ma ρ = .ok v ρ2) (e1 : esc v.fz ρ2 = some (a, ρ3)) (h2 : mb ρ3 = .ok u ρ4) (e2 : esc u.fz ρ4 = some (b, ρ5)) (hf : f [.val k, .val a, .val b] = .ok (.w o) []) : mCall [] f [] (mArg mk (mArg ma (mArg mb mNil))) ρ = .ok (.n o) ρ5 := by
  have e0 : esc (OV.fz (.d k)) ρ = some (k, ρ) := rfl
  simp [mCall, mArg, mNil, R.bind, h0, e0, h1, e1, h2, e2, toArgs, ioPos, ioSl, hf, putO, rvOV]
theorem ne_n {ma mb : EM} {ρ ρ1 : En} {o : List D} (h1 : ma ρ = .ok (.n (.lst o)) ρ1) (h2 : mb ρ1 = .ok (.n (.lst o)) ρ1) (hc : (D.lst o).cmp 40 = true) : mTst (mB dNe ma mb) ρ = .ok false ρ1 := by
  refine tst_ok ?_
  have hn := ne_self hc
  unfold mB
  rw [h1]
  simp only [R.bind]
  rw [h2]
  simp only [R.bind, OV.fz, Ow.d, ap2, OB.get]
  rw [hn]
  rfl
theorem cmp_pair {s : Str} {x : D} (hs : (D.str s).cmp 39 = true) (hx : x.cmp 39 = true) : (D.lst [.str s, x]).cmp 40 = true := by
  show D.cmps 39 [.str s, x] = true
  exact cmps_all fun d hd => by
    rcases List.mem_cons.mp hd with rfl | hd
    · exact hs
    · rcases List.mem_cons.mp hd with rfl | hd
      · exact hx
      · cases hd
theorem nil_lst {ρ : En} : mLst mNil ρ = .ok (.n (.lst [])) ρ := by
  simp [mLst, mNil, R.bind, escs]
abbrev qr (w : Ow) (r m : List Int) (s3 s4 s5 s6 s7 : Sl) : En := [.own true w, tz r, tz m, s3, s4, s5, s6, s7]
noncomputable def rB1 : SM := mSeq (mIfS ((mOr (mTst (mB dNe (mCall [] m__law_refusal [] (mArg (mVar 6) (mArg (mVar 3) (mArg (mVar 4) mNil)))) (mLst (mCons (mC (.str "row")) (mCons (mVar 3) mNil))))) (mTst (mB dNe (mCall [] m__law_refusal [] (mArg (mVar 6) (mArg (mVar 1) (mArg (mVar 4) mNil)))) (mLst (mCons (mC (.str "row")) (mCons (mVar 4) mNil))))))) (mRet (mC (.bl false))) mNext) (mSeq (mIfS ((mOr (mTst (mB dNe (mCall [] m__law_refusal [] (mArg (mVar 6) (mArg (mVar 3) (mArg (mVar 5) mNil)))) (mLst (mCons (mC (.str "row")) (mCons (mVar 3) mNil))))) (mTst (mB dNe (mCall [] m__law_refusal [] (mArg (mVar 6) (mArg (mVar 3) (mArg (mVar 2) mNil)))) (mLst (mCons (mC (.str "row")) (mCons (mVar 3) mNil))))))) (mRet (mC (.bl false))) mNext) (mIfS ((mOr (mTst (mB dNe (mCall [] m__law_refusal [] (mArg (mVar 6) (mArg (mVar 1) (mArg (mVar 5) mNil)))) (mLst (mCons (mC (.str "unlike")) (mCons (mC (.str "stage")) mNil))))) (mTst (mB dNe (mCall [] m__law_refusal [] (mArg (mVar 6) (mArg (mVar 1) (mArg (mCBn (g1n dListOf) (mCons (mVar 2) mNil)) mNil)))) (mLst mNil))))) (mRet (mC (.bl false))) mNext))
section
variable {ns : List Int} {n q : Nat} {r m o : List Int} {w : Ow} {x y : D} {s3 s4 s6 s7 : Sl}
variable (h3 : 3 ≤ n) (h8 : n ≤ 8) (q3 : 3 ≤ q) (q8 : q ≤ 8) (hq : n ≠ q) (hr : Row n r) (hm : Row n m) (ho : Row q o) (hx : Bad n x) (hy : Bad n y)
include h3 h8 q3 q8 hq hr hm ho hx hy
theorem rB1_ok {k : Nat} (hk : k ≤ 2) (k3 : Sx x s3) (k4 : Sx y s4) : rB1 (qr w r m s3 s4 (tz o) (.val (.int k)) s7) = .nx (qr w r m (.val x) (.val y) (tz o) (.val (.int k)) s7) := by
  have cx := cmp_pair (s := "row") (by decide +kernel) hx.c
  have cy := cmp_pair (s := "row") (by decide +kernel) hy.c
  obtain ⟨v, e1, e2⟩ := slot_any (ρ := qr w r m s3 s4 (tz o) (.val (.int k)) s7) (i := 3) rfl k3
  obtain ⟨u, e3, e4⟩ := slot_any (ρ := qr w r m (.val x) s4 (tz o) (.val (.int k)) s7) (i := 4) rfl k4
  have a1 := ne_n (call3n (f := m__law_refusal) (ρ := qr w r m s3 s4 (tz o) (.val (.int k)) s7) (k := .int k) (var_val (i := 6) rfl) e1 e2 e3 e4 (rf_first (by omega) hx.j)) (lst2_ok (ma := mC (.str "row")) (mb := mVar 3) (x := .str "row") (y := x) rfl (var_val rfl)) cx
  have a2 := ne_n (call3n (f := m__law_refusal) (ρ := qr w r m (.val x) (.val y) (tz o) (.val (.int k)) s7) (k := .int k) (v := .d (.tup (zs r))) (u := .d y) (var_val (i := 6) rfl) (var_val (i := 1) rfl) rfl (var_val (i := 4) rfl) rfl (rf_row (by omega) (rf_three hk (judges_2 h3 h8 hr (.inl rfl) hy.j)))) (lst2_ok (ma := mC (.str "row")) (mb := mVar 4) (x := .str "row") (y := y) rfl (var_val rfl)) cy
  have b1 := ne_n (call3n (f := m__law_refusal) (ρ := qr w r m (.val x) (.val y) (tz o) (.val (.int k)) s7) (k := .int k) (v := .d x) (u := .d (.tup (zs o))) (var_val (i := 6) rfl) (var_val (i := 3) rfl) rfl (var_val (i := 5) rfl) rfl (rf_first (by omega) hx.j)) (lst2_ok (ma := mC (.str "row")) (mb := mVar 3) (x := .str "row") (y := x) rfl (var_val rfl)) cx
  have b2 := ne_n (call3n (f := m__law_refusal) (ρ := qr w r m (.val x) (.val y) (tz o) (.val (.int k)) s7) (k := .int k) (v := .d x) (u := .d (.tup (zs m))) (var_val (i := 6) rfl) (var_val (i := 3) rfl) rfl (var_val (i := 2) rfl) rfl (rf_first (by omega) hx.j)) (lst2_ok (ma := mC (.str "row")) (mb := mVar 3) (x := .str "row") (y := x) rfl (var_val rfl)) cx
  have c1 := ne_n (call3n (f := m__law_refusal) (ρ := qr w r m (.val x) (.val y) (tz o) (.val (.int k)) s7) (k := .int k) (v := .d (.tup (zs r))) (u := .d (.tup (zs o))) (var_val (i := 6) rfl) (var_val (i := 1) rfl) rfl (var_val (i := 5) rfl) rfl (rf_unlike (by omega) (rf_three hk (judges_3 h3 h8 q3 q8 hq hr (.inl rfl) ho (.inl rfl))))) (lst2_ok (ma := mC (.str "unlike")) (mb := mC (.str "stage")) (x := .str "unlike") (y := .str "stage") rfl rfl) (by decide +kernel)
  have c2 := ne_n (call3n (f := m__law_refusal) (ρ := qr w r m (.val x) (.val y) (tz o) (.val (.int k)) s7) (k := .int k) (v := .d (.tup (zs r))) (u := .n (.lst (zs m))) (b := .lst (zs m)) (var_val (i := 6) rfl) (var_val (i := 1) rfl) rfl (list_ok (var_val (i := 2) rfl) (.inl rfl)) rfl (rf_good h3 h8 hr hm (.inl rfl) (.inr rfl) hk)) nil_lst (by decide +kernel)
  unfold rB1
  rw [seq_nx (skip_ok (or_ff a1 a2)), seq_nx (skip_ok (or_ff b1 b2))]
  exact skip_ok (or_ff c1 c2)
theorem rB1_loop : ∀ {j k : Nat} {s3 s4 s6 : Sl}, j + k ≤ 3 → Sx x s3 → Sx y s4 → Pl s6 → ∃ s3' s4' s6', Sx x s3' ∧ Sx y s4' ∧ Pl s6' ∧ mForL (gN 6) rB1 ((List.range' j k).map fun (i : Nat) => IV.one (.int (i : Int))) (qr w r m s3 s4 (tz o) s6 s7) = .nx (qr w r m s3' s4' (tz o) s6' s7)
  | j, 0, s3, s4, s6, _, k3, k4, k6 => ⟨s3, s4, s6, k3, k4, k6, rfl⟩
  | j, k + 1, s3, s4, s6, hk, k3, k4, k6 => by
    obtain ⟨t3, t4, t6, a, b, c, e⟩ := rB1_loop (j := j + 1) (k := k) (s3 := .val x) (s4 := .val y) (s6 := .val (.int j)) (by omega) (.inl rfl) (.inl rfl) (.inr ⟨_, rfl⟩)
    refine ⟨t3, t4, t6, a, b, c, ?_⟩
    rw [List.range'_succ, List.map_cons]
    unfold mForL
    have g : gN 6 (IV.one (.int (j : Int))) (qr w r m s3 s4 (tz o) s6 s7) = some (qr w r m s3 s4 (tz o) (.val (.int j)) s7) := by
      rcases k6 with rfl | ⟨v, rfl⟩ <;> simp [gN, canSet]
    simp only [g, rB1_ok h3 h8 q3 q8 hq hr hm ho hx hy (k := j) (by omega) k3 k4]
    exact e
end
noncomputable def rB2 : SM := mIfS ((mOr (mTst (mB dNe (mCall [] m__law_refusal [] (mArg (mVar 6) (mArg (mVar 3) (mArg (mC (.int 0)) mNil)))) (mLst (mCons (mC (.str "row")) (mCons (mVar 3) mNil))))) (mTst (mB dNe (mCall [] m__law_refusal [] (mArg (mVar 6) (mArg (mCBn (g1n dListOf) (mCons (mVar 5) mNil)) (mArg (mC (.int 0)) mNil)))) (mLst mNil))))) (mRet (mC (.bl false))) mNext
section
variable {ns : List Int} {n q : Nat} {r m o : List Int} {w : Ow} {x : D} {s3 s4 s6 s7 : Sl}
variable (q3 : 3 ≤ q) (q8 : q ≤ 8) (ho : Row q o) (hx : Bad n x)
include q3 q8 ho hx
theorem rB2_ok {k : Nat} (hk : 3 ≤ k) (hk6 : k ≤ 6) (k3 : Sx x s3) : rB2 (qr w r m s3 s4 (tz o) (.val (.int k)) s7) = .nx (qr w r m (.val x) s4 (tz o) (.val (.int k)) s7) := by
  have cx := cmp_pair (s := "row") (by decide +kernel) hx.c
  obtain ⟨v, e1, e2⟩ := slot_any (ρ := qr w r m s3 s4 (tz o) (.val (.int k)) s7) (i := 3) rfl k3
  have a1 := ne_n (call3n (f := m__law_refusal) (ρ := qr w r m s3 s4 (tz o) (.val (.int k)) s7) (k := .int k) (mb := mC (.int 0)) (u := .d (.int 0)) (b := .int 0) (var_val (i := 6) rfl) e1 e2 rfl rfl (rf_first (by omega) hx.j)) (lst2_ok (ma := mC (.str "row")) (mb := mVar 3) (x := .str "row") (y := x) rfl (var_val rfl)) cx
  have a2 := ne_n (call3n (f := m__law_refusal) (ρ := qr w r m (.val x) s4 (tz o) (.val (.int k)) s7) (k := .int k) (mb := mC (.int 0)) (v := .n (.lst (zs o))) (a := .lst (zs o)) (u := .d (.int 0)) (b := .int 0) (var_val (i := 6) rfl) (list_ok (var_val (i := 5) rfl) (.inl rfl)) rfl rfl rfl (rf_good1 q3 q8 ho (.inr rfl) hk hk6)) nil_lst (by decide +kernel)
  unfold rB2
  exact skip_ok (or_ff a1 a2)
theorem rB2_loop : ∀ {j k : Nat} {s3 s6 : Sl}, 3 ≤ j → j + k ≤ 7 → Sx x s3 → Pl s6 → ∃ s3' s6', Sx x s3' ∧ Pl s6' ∧ mForL (gN 6) rB2 ((List.range' j k).map fun (i : Nat) => IV.one (.int (i : Int))) (qr w r m s3 s4 (tz o) s6 s7) = .nx (qr w r m s3' s4 (tz o) s6' s7)
  | j, 0, s3, s6, _, _, k3, k6 => ⟨s3, s6, k3, k6, rfl⟩
  | j, k + 1, s3, s6, hj, hk, k3, k6 => by
    obtain ⟨t3, t6, a, c, e⟩ := rB2_loop (j := j + 1) (k := k) (s3 := .val x) (s6 := .val (.int j)) (by omega) (by omega) (.inl rfl) (.inr ⟨_, rfl⟩)
    refine ⟨t3, t6, a, c, ?_⟩
    rw [List.range'_succ, List.map_cons]
    unfold mForL
    have g : gN 6 (IV.one (.int (j : Int))) (qr w r m s3 s4 (tz o) s6 s7) = some (qr w r m s3 s4 (tz o) (.val (.int j)) s7) := by
      rcases k6 with rfl | ⟨v, rfl⟩ <;> simp [gN, canSet]
    simp only [g, rB2_ok q3 q8 ho hx (k := j) (by omega) (by omega) k3]
    exact e
end
end K01
set_option Elab.async false
set_option linter.all false
set_option maxRecDepth 100000
set_option maxHeartbeats 4000000
namespace K01
open PySem Mi
theorem call_io2 {f : List Sl → DR} {ma : EM} {i : Nat} {io : Bool} {ρ ρ1 ρ2 : En} {w w' : Ow} {v : OV} {a d : D} (h0 : isOw ρ[i]? = true) (h1 : ma ρ = .ok v ρ1) (e1 : esc v.fz ρ1 = some (a, ρ2)) (hp : ρ2[i]? = some (.own io w)) (hf : f [.own true w, .val a] = .ok (.v d) [w']) : mCall [0] f [] (mLend i (mArg ma mNil)) ρ = .ok (.d d) (ρ2.set i (.own io w')) := by
  simp [mCall, mLend, h0, mArg, mNil, R.bind, h1, e1, toArgs, ioPos, ioSl, hp, hf, putO, rvOV]
theorem call_io2w {f : List Sl → DR} {ma : EM} {i : Nat} {io : Bool} {ρ ρ1 ρ2 : En} {w w' o : Ow} {v : OV} {a : D} (h0 : isOw ρ[i]? = true) (h1 : ma ρ = .ok v ρ1) (e1 : esc v.fz ρ1 = some (a, ρ2)) (hp : ρ2[i]? = some (.own io w)) (hf : f [.own true w, .val a] = .ok (.w o) [w']) : mCall [0] f [] (mLend i (mArg ma mNil)) ρ = .ok (.n o) (ρ2.set i (.own io w')) := by
  simp [mCall, mLend, h0, mArg, mNil, R.bind, h1, e1, toArgs, ioPos, ioSl, hp, hf, putO, rvOV]
theorem add2 {ma mb : EM} {ρ ρ1 ρ2 : En} {a b : Int} (h1 : ma ρ = .ok (.d (.int a)) ρ1) (h2 : mb ρ1 = .ok (.d (.int b)) ρ2) : mB dAdd ma mb ρ = .ok (.d (.int (a + b))) ρ2 := by
  unfold mB
  rw [h1]
  simp only [R.bind]
  rw [h2]
  simp only [R.bind, OV.fz, ap2, OB.get, e_add, rz]
theorem sub2 {ma mb : EM} {ρ ρ1 ρ2 : En} {a b : Int} (h1 : ma ρ = .ok (.d (.int a)) ρ1) (h2 : mb ρ1 = .ok (.d (.int b)) ρ2) : mB dSub ma mb ρ = .ok (.d (.int (a - b))) ρ2 := by
  unfold mB
  rw [h1]
  simp only [R.bind]
  rw [h2]
  simp only [R.bind, OV.fz, ap2, OB.get, e_sub, rz]
theorem mod2 {ma mb : EM} {ρ ρ1 ρ2 : En} {a b : Int} (h0 : 0 < b) (h1 : ma ρ = .ok (.d (.int a)) ρ1) (h2 : mb ρ1 = .ok (.d (.int b)) ρ2) : mB dMod ma mb ρ = .ok (.d (.int (a % b))) ρ2 := by
  unfold mB
  rw [h1]
  simp only [R.bind]
  rw [h2]
  simp only [R.bind, OV.fz, ap2, OB.get, e_mod h0, rz]
theorem int2 {m : EM} {ρ ρ1 : En} {a : Int} (h : m ρ = .ok (.d (.int a)) ρ1) : mCB (g1 dInt) (mCons m mNil) ρ = .ok (.d (.int a)) ρ1 := by
  simp only [mCB, mCons, h, mNil, R.bind, OV.fz, apN, getAll, OB.get, g1, dInt, rz]
section
variable {ns : List Int} {n : Nat} {r m : List Int} {w : Ow} {s3 s4 s5 s6 s7 : Sl}
theorem ref1 (hw : Dr ns w) (h3 : 3 ≤ n) (h8 : n ≤ 8) (hr : Row n r) : ∃ w' x s, Dr ns w' ∧ Bad n x ∧ Sx x s ∧ b__law_refusals_fit_1 (qr w r m .un .un .un .un .un) = .nx (qr w' r m s .un .un .un .un) := by
  obtain ⟨w', x, hw', hb, h | ⟨es, rfl, h⟩⟩ := badrow_ok hw h3 h8 hr
  · refine ⟨w', x, .val x, hw', hb, .inl rfl, ?_⟩
    unfold b__law_refusals_fit_1
    exact set_d (call_io2 (f := m__law_bad_row) (i := 0) (io := true) (w := w) (ρ := qr w r m .un .un .un .un .un) (v := .d (.tup (zs r))) rfl (var_val (i := 1) rfl) rfl rfl h) rfl
  · refine ⟨w', .lst es, .own false (.lst es), hw', hb, .inr ⟨es, rfl, rfl⟩, ?_⟩
    unfold b__law_refusals_fit_1
    exact set_n (call_io2w (f := m__law_bad_row) (i := 0) (io := true) (w := w) (ρ := qr w r m .un .un .un .un .un) (v := .d (.tup (zs r))) rfl (var_val (i := 1) rfl) rfl rfl h) rfl
theorem ref2 (hw : Dr ns w) (h3 : 3 ≤ n) (h8 : n ≤ 8) (hm : Row n m) : ∃ w' y s, Dr ns w' ∧ Bad n y ∧ Sx y s ∧ b__law_refusals_fit_2 (qr w r m s3 .un .un .un .un) = .nx (qr w' r m s3 s .un .un .un) := by
  obtain ⟨w', x, hw', hb, h | ⟨es, rfl, h⟩⟩ := badrow_ok hw h3 h8 hm
  · refine ⟨w', x, .val x, hw', hb, .inl rfl, ?_⟩
    unfold b__law_refusals_fit_2
    exact set_d (call_io2 (f := m__law_bad_row) (i := 0) (io := true) (w := w) (ρ := qr w r m s3 .un .un .un .un) (v := .d (.tup (zs m))) rfl (var_val (i := 2) rfl) rfl rfl h) rfl
  · refine ⟨w', .lst es, .own false (.lst es), hw', hb, .inr ⟨es, rfl, rfl⟩, ?_⟩
    unfold b__law_refusals_fit_2
    exact set_n (call_io2w (f := m__law_bad_row) (i := 0) (io := true) (w := w) (ρ := qr w r m s3 .un .un .un .un) (v := .d (.tup (zs m))) rfl (var_val (i := 2) rfl) rfl rfl h) rfl
theorem ref3 (hw : Dr ns w) (h3 : 3 ≤ n) (h8 : n ≤ 8) (hr : Row n r) : ∃ w' q o, Dr ns w' ∧ 3 ≤ q ∧ q ≤ 8 ∧ n ≠ q ∧ Row q o ∧ b__law_refusals_fit_3 (qr w r m s3 s4 .un .un .un) = .nx (qr w' r m s3 s4 (tz o) .un .un) := by
  have hl := hr.len
  obtain ⟨p, w1, hw1, p0, p1, hp⟩ := pick_ok hw (many := 5) (by omega) (by omega)
  have hk : 3 ≤ 3 + ((n : Int) - 2 + p) % 6 ∧ 3 + ((n : Int) - 2 + p) % 6 ≤ 8 ∧ 3 + ((n : Int) - 2 + p) % 6 ≠ n := by omega
  generalize hkk : 3 + ((n : Int) - 2 + p) % 6 = k at hk
  obtain ⟨o, w2, hw2, ho, hrow⟩ := row_ok hw1 (n := k) (by omega) (by omega)
  refine ⟨w2, k.toNat, o, hw2, by omega, by omega, by omega, ho, ?_⟩
  have hlen := len_ok (r := r) (x := .tup (zs r)) (var_val (ρ := qr w r m s3 s4 .un .un .un) (i := 1) rfl) (.inl rfl)
  rw [hl] at hlen
  have hd := call_io0 (f := m__law_pick) (ρ := qr w r m s3 s4 .un .un .un) (io := true) (w := w) (w' := w1) (v := .d (.int 5)) (ma := mC (.int 5)) rfl rfl rfl hp
  have ha := add2 (ma := mC (.int 3)) (a := 3) rfl (mod2 (b := 6) (mb := mC (.int 6)) (by omega) (int2 (add2 (sub2 (b := 2) (mb := mC (.int 2)) hlen rfl) hd)) rfl)
  rw [hkk] at ha
  unfold b__law_refusals_fit_3
  exact set_d (call_io2 (f := m__law_row) (i := 0) (io := true) (w := w1) rfl ha rfl rfl hrow) rfl
def wrongs (n : Nat) : List D := [.int 0, .int ((n : Int) + 1), .bl true, .non, .str "1", .int (-1), .tup [.int 1], .int 1000000000000000000000000000000]
theorem pw30 : dPow (.int 10) (.int 30) = some (.int 1000000000000000000000000000000) := by
  rw [dPow_ii, if_pos (by decide +kernel)]
  rfl
theorem wrong_ok (h8 : n ≤ 8) {k : Nat} (hk : k < 8) : ∃ d, (wrongs n)[k]? = some d ∧ Sm d ∧ (∀ i, d = .int i → ¬ (1 ≤ i ∧ i ≤ n)) ∧ d.cmp 39 = true := by
  have hc : k = 0 ∨ k = 1 ∨ k = 2 ∨ k = 3 ∨ k = 4 ∨ k = 5 ∨ k = 6 ∨ k = 7 := by omega
  rcases hc with rfl | rfl | rfl | rfl | rfl | rfl | rfl | rfl
  · exact ⟨_, rfl, .inl ⟨_, rfl⟩, (fun i e => by cases e; omega), rfl⟩
  · exact ⟨_, rfl, .inl ⟨_, rfl⟩, (fun i e => by cases e; omega), rfl⟩
  · exact ⟨_, rfl, .inr (.inl ⟨_, rfl⟩), (fun i e => by cases e), rfl⟩
  · exact ⟨_, rfl, .inr (.inr (.inr (.inl rfl))), (fun i e => by cases e), rfl⟩
  · exact ⟨_, rfl, .inr (.inr (.inl ⟨_, rfl⟩)), (fun i e => by cases e), by decide +kernel⟩
  · exact ⟨_, rfl, .inl ⟨_, rfl⟩, (fun i e => by cases e; omega), rfl⟩
  · exact ⟨_, rfl, .inr (.inr (.inr (.inr ⟨_, rfl⟩))), (fun i e => by cases e), rfl⟩
  · exact ⟨_, rfl, .inl ⟨_, rfl⟩, (fun i e => by cases e; omega), rfl⟩
/-- an entry of a list at hand, at a place drawn -/
theorem ix_new {ρ ρ1 : En} {es : List D} {k : Nat} {d : D} {ma m : EM} (h1 : ma ρ = .ok (.n (.lst es)) ρ) (hm : m ρ = .ok (.d (.int k)) ρ1) (h : es[k]? = some d) : mB dIx ma m ρ = .ok (.d d) ρ1 := by
  have hk := (List.getElem?_eq_some_iff.mp h).1
  have hat : L2.atI es (k : Int) = some d := by
    unfold L2.atI L2.ixN
    rw [if_pos (by omega), if_pos (by omega)]
    simpa using h
  unfold mB
  rw [h1]
  simp only [R.bind]
  rw [hm]
  simp only [R.bind, OV.fz, Ow.d, ap2, OB.get, dIx]
  rw [hat]
  rfl
theorem ref6 {o : List Int} (hw : Dr ns w) (h3 : 3 ≤ n) (h8 : n ≤ 8) (hr : Row n r) : ∃ w' d, Dr ns w' ∧ Sm d ∧ (∀ i, d = .int i → ¬ (1 ≤ i ∧ i ≤ n)) ∧ d.cmp 39 = true ∧ b__law_refusals_fit_6 (qr w r m s3 s4 (tz o) s6 .un) = .nx (qr w' r m s3 s4 (tz o) s6 (.val d)) := by
  have hl := hr.len
  obtain ⟨p, w1, hw1, p0, p1, hp⟩ := pick_ok hw (many := 8) (by omega) (by omega)
  obtain ⟨d, hd, hs, hno, hc⟩ := wrong_ok (k := p.toNat) h8 (by omega)
  refine ⟨w1, d, hw1, hs, hno, hc, ?_⟩
  have hpn : ((p.toNat : Nat) : Int) = p := by omega
  have hpk := call_io0 (f := m__law_pick) (ρ := qr w r m s3 s4 (tz o) s6 .un) (io := true) (w := w) (w' := w1) (v := .d (.int 8)) (ma := mC (.int 8)) rfl rfl rfl hp
  rw [← hpn] at hpk
  have hlen := len_ok (r := r) (x := .tup (zs r)) (var_val (ρ := qr w r m s3 s4 (tz o) s6 .un) (i := 1) rfl) (.inl rfl)
  rw [hl] at hlen
  have hadd := add_ok hlen (mb := mC (.int 1)) (b := 1) rfl
  have hlst : mLst (mCons (mC (.int 0)) (mCons (mB dAdd (mCB (g1 dLen) (mCons (mVar 1) mNil)) (mC (.int 1))) (mCons (mC (.bl true)) (mCons (mC .non) (mCons (mC (.str "1")) (mCons (mU dNeg (mC (.int 1))) (mCons (mTup (mCons (mC (.int 1)) mNil)) (mCons (mB dPow (mC (.int 10)) (mC (.int 30))) mNil)))))))) (qr w r m s3 s4 (tz o) s6 .un) = .ok (.n (.lst (wrongs n))) (qr w r m s3 s4 (tz o) s6 .un) := by
    have hp30 : mB dPow (mC (.int 10)) (mC (.int 30)) (qr w r m s3 s4 (tz o) s6 .un) = .ok (.d (.int 1000000000000000000000000000000)) (qr w r m s3 s4 (tz o) s6 .un) := by
      simp [mB, mC, R.bind, OV.fz, OB.get, ap2, pw30, rz]
    have hn1 : mU dNeg (mC (.int 1)) (qr w r m s3 s4 (tz o) s6 .un) = .ok (.d (.int (-1))) (qr w r m s3 s4 (tz o) s6 .un) := by
      simp [mU, mC, R.bind, OV.fz, OB.get, ap1, e_neg, rz]
    have ht1 : mTup (mCons (mC (.int 1)) mNil) (qr w r m s3 s4 (tz o) s6 .un) = .ok (.d (.tup [.int 1])) (qr w r m s3 s4 (tz o) s6 .un) := tup1_ok rfl
    simp only [mLst, mCons, mNil, hadd, hp30, hn1, ht1, mC, R.bind, OV.fz, escs, esc]
    rfl
  unfold b__law_refusals_fit_6
  exact set_d (ix_new hlst hpk hd) rfl
theorem isa_ff {ma mb : EM} {ρ : En} {b : Bool} (h1 : ma ρ = .ok (.d (.bl b)) ρ) (h2 : mb ρ = .ok (.d (.bl b)) ρ) : mTst (mB (dIsA true) ma mb) ρ = .ok false ρ := by
  refine tst_ok ?_
  unfold mB
  rw [h1]
  simp only [R.bind]
  rw [h2]
  simp only [R.bind, OV.fz, ap2, OB.get]
  cases b <;> rfl
theorem isa_tt {ma mb : EM} {ρ : En} {b : Bool} (h1 : ma ρ = .ok (.d (.bl b)) ρ) (h2 : mb ρ = .ok (.d (.bl b)) ρ) : mB (dIsA false) ma mb ρ = .ok (.d (.bl true)) ρ := by
  unfold mB
  rw [h1]
  simp only [R.bind]
  rw [h2]
  simp only [R.bind, OV.fz, ap2, OB.get]
  cases b <;> rfl
end
section
variable {ns : List Int} {n q : Nat} {r m o : List Int} {w : Ow} {x y d : D} {s3 s4 s6 s7 : Sl}
variable (h3 : 3 ≤ n) (h8 : n ≤ 8) (q3 : 3 ≤ q) (q8 : q ≤ 8) (hq : n ≠ q) (hr : Row n r) (hm : Row n m) (ho : Row q o) (hx : Bad n x)
include h3 h8 q3 q8 hq hr hm ho hx
theorem ref7 (k3 : Sx x s3) (hs : Sm d) (hno : ∀ i, d = .int i → ¬ (1 ≤ i ∧ i ≤ n)) (hc : d.cmp 39 = true) : b__law_refusals_fit_7 (qr w r m s3 s4 (tz o) s6 (.val d)) = .nx (qr w r m (.val x) s4 (tz o) s6 (.val d)) := by
  have cx := cmp_pair (s := "row") (by decide +kernel) hx.c
  have cd := cmp_pair (s := "bell") (by decide +kernel) hc
  obtain ⟨v, e1, e2⟩ := slot_any (ρ := qr w r m s3 s4 (tz o) s6 (.val d)) (i := 3) rfl k3
  have a1 := ne_n (call3n (f := m__law_refusal) (ρ := qr w r m s3 s4 (tz o) s6 (.val d)) (mk := mC (.int 7)) (k := .int 7) (mb := mVar 7) (u := .d d) (b := d) rfl e1 e2 (var_val rfl) rfl (rf_first (k := 7) (by omega) hx.j)) (lst2_ok (ma := mC (.str "row")) (mb := mVar 3) (x := .str "row") (y := x) rfl (var_val rfl)) cx
  have a2 := ne_n (call3n (f := m__law_refusal) (ρ := qr w r m (.val x) s4 (tz o) s6 (.val d)) (mk := mC (.int 7)) (k := .int 7) (v := .d (.tup (zs r))) (mb := mVar 7) (u := .d d) (b := d) rfl (var_val (i := 1) rfl) rfl (var_val rfl) rfl (rf_bell (k := 7) (by omega) (place_b h3 h8 hr (.inl rfl) hs hno))) (lst2_ok (ma := mC (.str "bell")) (mb := mVar 7) (x := .str "bell") (y := d) rfl (var_val rfl)) cd
  unfold b__law_refusals_fit_7
  exact skip_ok (or_ff a1 a2)
theorem ref8 : b__law_refusals_fit_8 (qr w r m (.val x) s4 (tz o) s6 s7) = .nx (qr w r m (.val x) s4 (tz o) s6 s7) := by
  have hl := hr.len
  have hlen := len_ok (r := r) (x := .tup (zs r)) (var_val (ρ := qr w r m (.val x) s4 (tz o) s6 s7) (i := 1) rfl) (.inl rfl)
  rw [hl] at hlen
  have hin : (n : Int) ∈ r := hr.mem.mpr (by omega)
  have a1 := ne_n (call3n (f := m__law_refusal) (ρ := qr w r m (.val x) s4 (tz o) s6 s7) (mk := mC (.int 7)) (k := .int 7) (v := .d (.tup (zs r))) (u := .d (.int n)) (b := .int n) rfl (var_val (i := 1) rfl) rfl hlen rfl (rf_ok (k := 7) (by omega) (place_ok h3 h8 hr (.inl rfl) hin))) nil_lst (by decide +kernel)
  have a2 := isa_ff (mb := mC (.bl false)) (call2 (f := m_is_row) (ρ := qr w r m (.val x) s4 (tz o) s6 s7) (v := .d x) (u := .d (.int n)) (var_val (i := 3) rfl) rfl hlen rfl hx.i) rfl
  unfold b__law_refusals_fit_8
  exact skip_ok (or_ff a1 a2)
theorem ref9 : b__law_refusals_fit_9 (qr w r m (.val x) s4 (tz o) s6 s7) = .nx (qr w r m (.val x) s4 (tz o) s6 s7) := by
  have hl := hr.len
  have hlen := len_ok (r := r) (x := .tup (zs r)) (var_val (ρ := qr w r m (.val x) s4 (tz o) s6 s7) (i := 1) rfl) (.inl rfl)
  rw [hl] at hlen
  have a1 := isa_ff (mb := mC (.bl true)) (call2 (f := m_is_row) (ρ := qr w r m (.val x) s4 (tz o) s6 s7) (v := .d (.tup (zs r))) (u := .d (.int n)) (var_val (i := 1) rfl) rfl hlen rfl (isrow_ok h3 h8 hr (.inl rfl))) rfl
  have a2 := isa_ff (mb := mC (.bl true)) (call2 (f := m_is_row) (ρ := qr w r m (.val x) s4 (tz o) s6 s7) (v := .n (.lst (zs m))) (a := .lst (zs m)) (u := .d (.int n)) (list_ok (var_val (i := 2) rfl) (.inl rfl)) rfl hlen rfl (isrow_ok h3 h8 hm (.inr rfl))) rfl
  unfold b__law_refusals_fit_9
  exact skip_ok (or_ff a1 a2)
theorem ref10 : b__law_refusals_fit_10 (qr w r m (.val x) s4 (tz o) s6 s7) = .rt (.v (.bl true)) (qr w r m (.val x) s4 (tz o) s6 s7) := by
  have hl := hr.len
  have hol := ho.len
  have hlen := len_ok (r := r) (x := .tup (zs r)) (var_val (ρ := qr w r m (.val x) s4 (tz o) s6 s7) (i := 1) rfl) (.inl rfl)
  rw [hl] at hlen
  have hlen2 := len_ok (r := o) (x := .tup (zs o)) (var_val (ρ := qr w r m (.val x) s4 (tz o) s6 s7) (i := 5) rfl) (.inl rfl)
  rw [hol] at hlen2
  have hno : m_is_row [.val (.tup (zs o)), .val (.int n)] = .ok (.v (.bl false)) [] := isrow_sq (ds := zs o) (.inl rfl) (fun d hd => .inl (zs_int hd)) (by simp; omega) (fun _ _ c => by simp at c; omega)
  have a1 := isa_tt (mb := mC (.bl false)) (call2 (f := m_is_row) (ρ := qr w r m (.val x) s4 (tz o) s6 s7) (v := .d (.tup (zs o))) (u := .d (.int n)) (var_val (i := 5) rfl) rfl hlen rfl hno) rfl
  have a2 := isa_tt (mb := mC (.bl true)) (call2 (f := m_is_row) (ρ := qr w r m (.val x) s4 (tz o) s6 s7) (v := .d (.tup (zs o))) (u := .d (.int q)) (var_val (i := 5) rfl) rfl hlen2 rfl (isrow_ok q3 q8 ho (.inl rfl))) rfl
  unfold b__law_refusals_fit_10
  exact mRet_d (andV_tt a1 a2)
end
theorem refusals_ok {ns : List Int} {n : Nat} {r m : List Int} {w : Ow} (hw : Dr ns w) (h3 : 3 ≤ n) (h8 : n ≤ 8) (hr : Row n r) (hm : Row n m) : ∃ w', m__law_refusals_fit [.own true w, tz r, tz m] = .ok (.v (.bl true)) [w'] := by
  obtain ⟨w1, x, s3, hw1, hx, k3, e1⟩ := ref1 (m := m) hw h3 h8 hr
  obtain ⟨w2, y, s4, hw2, hy, k4, e2⟩ := ref2 (r := r) (s3 := s3) hw1 h3 h8 hm
  obtain ⟨w3, q, o, hw3, q3, q8, hq, ho, e3⟩ := ref3 (m := m) (s3 := s3) (s4 := s4) hw2 h3 h8 hr
  obtain ⟨t3, t4, t6, a3, a4, a6, l4⟩ := rB1_loop (w := w3) (s7 := .un) h3 h8 q3 q8 hq hr hm ho hx hy (j := 0) (k := 3) (s6 := .un) (by omega) k3 k4 (.inl rfl)
  have e4 : b__law_refusals_fit_4 (qr w3 r m s3 s4 (tz o) .un .un) = .nx (qr w3 r m t3 t4 (tz o) t6 .un) := by
    unfold b__law_refusals_fit_4 mFor
    have hr := rng1_ok (n := 3) (me := mC (.int 3)) (ρ := qr w3 r m s3 s4 (tz o) .un .un) (by omega) rfl
    rw [hr]
    exact l4
  obtain ⟨u3, u6, b3, b6, l5⟩ := rB2_loop (r := r) (m := m) (w := w3) (s4 := t4) (s7 := .un) q3 q8 ho hx (j := 3) (k := 4) (s6 := t6) (by omega) (by omega) a3 a6
  have e5 : b__law_refusals_fit_5 (qr w3 r m t3 t4 (tz o) t6 .un) = .nx (qr w3 r m u3 t4 (tz o) u6 .un) := by
    unfold b__law_refusals_fit_5 mFor
    have hr := rng2_k (ρ := qr w3 r m t3 t4 (tz o) t6 .un) (ma := mC (.int 3)) (mb := mC (.int 7)) (j := 3) (k := 7) (by omega) (by omega) rfl rfl
    rw [hr]
    exact l5
  obtain ⟨w6, d, hw6, hs, hno, hc, e6⟩ := ref6 (m := m) (s3 := u3) (s4 := t4) (s6 := u6) (o := o) hw3 h3 h8 hr
  refine ⟨w6, ?_⟩
  unfold m__law_refusals_fit
  refine mDef_io (ρ := qr w6 r m (.val x) t4 (tz o) u6 (.val d)) (io := true) ?_ rfl
  show b__law_refusals_fit (qr w r m .un .un .un .un .un) = _
  unfold b__law_refusals_fit
  rw [seq_nx e1, seq_nx e2, seq_nx e3, seq_nx e4, seq_nx e5, seq_nx e6, seq_nx (ref7 h3 h8 q3 q8 hq hr hm ho hx b3 hs hno hc), seq_nx (ref8 h3 h8 q3 q8 hq hr hm ho hx), seq_nx (ref9 h3 h8 q3 q8 hq hr hm ho hx), ref10 h3 h8 q3 q8 hq hr hm ho hx]
end K01
set_option Elab.async false
set_option linter.all false
set_option maxRecDepth 100000
set_option maxHeartbeats 4000000
namespace K01
open PySem Mi
abbrev lw (ns : List Int) (w : Ow) (s2 s3 s4 s5 s6 : Sl) : En := [.val (.frl (zs ns)), .own false w, s2, s3, s4, s5, s6]
section
variable {ns : List Int} {n : Nat} {r m o : List Int} {w : Ow} {s2 s3 s4 s5 s6 : Sl}
theorem law1 (hl : ns.length ≤ 63) : ∃ w, Dr ns w ∧ b_law_1 [.val (.frl (zs ns)), .un, .un, .un, .un, .un, .un] = .nx (lw ns w .un .un .un .un .un) := by
  obtain ⟨w, hw, h⟩ := draw_ok hl
  refine ⟨w, hw, ?_⟩
  unfold b_law_1
  exact set_n (call1n (f := m__law_draw) (ρ := [.val (.frl (zs ns)), .un, .un, .un, .un, .un, .un]) (v := .d (.frl (zs ns))) (var_val (i := 0) rfl) rfl h) rfl
theorem law2 (hw : Dr ns w) : ∃ w' n r, Dr ns w' ∧ 3 ≤ n ∧ n ≤ 8 ∧ Row n r ∧ b_law_2 (lw ns w .un .un .un .un .un) = .nx (lw ns w' (tz r) .un .un .un .un) := by
  obtain ⟨p, w1, hw1, p0, p1, hp⟩ := pick_ok hw (many := 6) (by omega) (by omega)
  obtain ⟨r, w2, hw2, hr, hrow⟩ := row_ok hw1 (n := 3 + p) (by omega) (by omega)
  refine ⟨w2, (3 + p).toNat, r, hw2, by omega, by omega, hr, ?_⟩
  have hd := call_io2 (f := m__law_pick) (i := 1) (io := false) (ρ := lw ns w .un .un .un .un .un) (w := w) (w' := w1) (v := .d (.int 6)) (ma := mC (.int 6)) rfl rfl rfl rfl hp
  unfold b_law_2
  exact set_d (call_io2 (f := m__law_row) (i := 1) (io := false) (w := w1) rfl (add2 (ma := mC (.int 3)) (a := 3) rfl hd) rfl rfl hrow) rfl
theorem law3 (hw : Dr ns w) (h3 : 3 ≤ n) (h8 : n ≤ 8) (hr : Row n r) : ∃ w' m, Dr ns w' ∧ Row n m ∧ b_law_3 (lw ns w (tz r) .un .un .un .un) = .nx (lw ns w' (tz r) (tz m) .un .un .un) := by
  obtain ⟨m, w1, hw1, hm, h⟩ := second_ok hw h3 h8 hr
  refine ⟨w1, m, hw1, hm, ?_⟩
  unfold b_law_3
  exact set_d (call_io2 (f := m__law_second) (i := 1) (io := false) (ρ := lw ns w (tz r) .un .un .un .un) (w := w) (v := .d (.tup (zs r))) rfl (var_val (i := 2) rfl) rfl rfl h) rfl
theorem law4 (hw : Dr ns w) (h3 : 3 ≤ n) (h8 : n ≤ 8) (hr : Row n r) : ∃ w' o, Dr ns w' ∧ Row n o ∧ b_law_4 (lw ns w (tz r) (tz m) .un .un .un) = .nx (lw ns w' (tz r) (tz m) (tz o) .un .un) := by
  have hl := hr.len
  obtain ⟨o, w1, hw1, ho, h⟩ := row_ok hw (n := (n : Int)) (by omega) (by omega)
  have hlen := len_ok (r := r) (x := .tup (zs r)) (var_val (ρ := lw ns w (tz r) (tz m) .un .un .un) (i := 2) rfl) (.inl rfl)
  rw [hl] at hlen
  refine ⟨w1, o, hw1, by simpa using ho, ?_⟩
  unfold b_law_4
  exact set_d (call_io2 (f := m__law_row) (i := 1) (io := false) (w := w) rfl hlen rfl rfl h) rfl
theorem call_io3 {f : List Sl → DR} {ma mb mc : EM} {i : Nat} {io : Bool} {ρ : En} {w w' : Ow} {v u t : OV} {a b c d : D} (h0 : ρ[i]? = some (.own io w)) (h1 : ma ρ = .ok v ρ) (e1 : esc v.fz ρ = some (a, ρ)) (h2 : mb ρ = .ok u ρ) (e2 : esc u.fz ρ = some (b, ρ)) (h3 : mc ρ = .ok t ρ) (e3 : esc t.fz ρ = some (c, ρ)) (hf : f [.own true w, .val a, .val b, .val c] = .ok (.v d) [w']) : mCall [0] f [] (mLend i (mArg ma (mArg mb (mArg mc mNil)))) ρ = .ok (.d d) (ρ.set i (.own io w')) := by
  simp [mCall, mLend, h0, isOw, mArg, mNil, R.bind, h1, e1, h2, e2, h3, e3, toArgs, ioPos, ioSl, hf, putO, rvOV]
theorem call_io2b {f : List Sl → DR} {ma mb : EM} {i : Nat} {io : Bool} {ρ : En} {w w' : Ow} {v u : OV} {a b d : D} (h0 : ρ[i]? = some (.own io w)) (h1 : ma ρ = .ok v ρ) (e1 : esc v.fz ρ = some (a, ρ)) (h2 : mb ρ = .ok u ρ) (e2 : esc u.fz ρ = some (b, ρ)) (hf : f [.own true w, .val a, .val b] = .ok (.v d) [w']) : mCall [0] f [] (mLend i (mArg ma (mArg mb mNil))) ρ = .ok (.d d) (ρ.set i (.own io w')) := by
  simp [mCall, mLend, h0, isOw, mArg, mNil, R.bind, h1, e1, h2, e2, toArgs, ioPos, ioSl, hf, putO, rvOV]
theorem law5 (hw : Dr ns w) (h3 : 3 ≤ n) (h8 : n ≤ 8) (hr : Row n r) (hm : Row n m) (ho : Row n o) : ∃ w', Dr ns w' ∧ b_law_5 (lw ns w (tz r) (tz m) (tz o) .un .un) = .nx (lw ns w' (tz r) (tz m) (tz o) .un .un) := by
  obtain ⟨w1, hw1, h1⟩ := moves_fit hw h3 h8 hr hm ho
  obtain ⟨w2, hw2, h2⟩ := told_fit hw1 h3 h8 hr hm
  refine ⟨w2, hw2, ?_⟩
  have a1 := call_io3 (f := m__law_moves_fit) (i := 1) (io := false) (ρ := lw ns w (tz r) (tz m) (tz o) .un .un) (w := w) (v := .d (.tup (zs r))) (u := .d (.tup (zs m))) (t := .d (.tup (zs o))) rfl (var_val (i := 2) rfl) rfl (var_val (i := 3) rfl) rfl (var_val (i := 4) rfl) rfl h1
  have a2 := call_io2b (f := m__law_told_fit) (i := 1) (io := false) (ρ := lw ns w1 (tz r) (tz m) (tz o) .un .un) (w := w1) (v := .d (.tup (zs r))) (u := .d (.tup (zs m))) rfl (var_val (i := 2) rfl) rfl (var_val (i := 3) rfl) rfl h2
  unfold b_law_5
  exact skip_ok (or_ff (not_ok (tst_ok a1)) (not_ok (tst_ok a2)))
theorem law6 : b_law_6 (lw ns w (tz r) (tz m) (tz o) .un .un) = .nx (lw ns w (tz r) (tz m) (tz o) (.own false (.lst (zs r))) .un) := by
  unfold b_law_6
  exact set_n (list_ok (var_val (ρ := lw ns w (tz r) (tz m) (tz o) .un .un) (i := 2) rfl) (.inl rfl)) rfl
theorem noL_zs : ∀ l : List Int, D.noLs (zs l) = true
  | [] => rfl
  | i :: l => by
    show (D.noL (.int i) && D.noLs (zs l)) = true
    rw [noL_zs l]
    rfl
theorem loan_moved {l : List Int} (h3 : 3 ≤ n) (h8 : n ≤ 8) (hl : Row n l) (hm : Row n m) : loanF 0 m_moved [.own true (.lst (zs l)), tz m] = .ok (.v (.tup (zs (comp l m)))) [.lst (zs l)] := by
  have h := moved_ok h3 h8 hl hm (x := .lst (zs l)) (y := .tup (zs m)) (.inr rfl) (.inl rfl)
  have h' : m_moved (([.own true (.lst (zs l)), tz m] : List Sl).set 0 (.val (Ow.d (.lst (zs l))))) = .ok (.v (.tup (zs (comp l m)))) [] := h
  have hn : D.noL (.tup (zs (comp l m))) = true := noL_zs _
  unfold loanF
  show (match m_moved (([.own true (.lst (zs l)), tz m] : List Sl).set 0 (.val (Ow.d (.lst (zs l))))) with
    | .ok (.v d) os => if d.noL && os.isEmpty then DR.ok (.v d) [.lst (zs l)] else .bad
    | .ok (.w w) os => if w.noL && os.isEmpty then DR.ok (.w w) [.lst (zs l)] else .bad
    | .ex x os => if fsNoL x.fs && os.isEmpty then DR.ex x [.lst (zs l)] else .bad
    | .bad => .bad) = _
  rw [h']
  simp only [hn]
  rfl
theorem loan_call {l : List Int} {i : Nat} {ρ : En} (h3 : 3 ≤ n) (h8 : n ≤ 8) (hl : Row n l) (hm : Row n m) (h5 : ρ[5]? = some (.own false (.lst (zs l)))) (hi : ρ[3]? = some (tz m)) : mCall [0] (loanF 0 m_moved) [] (mLend 5 (mArg (mVar 3) mNil)) ρ = .ok (.d (.tup (zs (comp l m)))) ρ := by
  have h := call_io2 (f := loanF 0 m_moved) (i := 5) (io := false) (ρ := ρ) (w := .lst (zs l)) (v := .d (.tup (zs m))) (by rw [h5]; rfl) (var_val hi) rfl h5 (loan_moved h3 h8 hl hm)
  rw [h]
  have hv : 5 < ρ.length := (List.getElem?_eq_some_iff.mp h5).1
  have := (List.getElem?_eq_some_iff.mp h5).2
  rw [← this, List.set_getElem_self]
theorem law7 (h3 : 3 ≤ n) (h8 : n ≤ 8) (hr : Row n r) (hm : Row n m) : b_law_7 (lw ns w (tz r) (tz m) (tz o) (.own false (.lst (zs r))) .un) = .nx (lw ns w (tz r) (tz m) (tz o) (.own false (.lst (zs r))) (tz (comp r m))) := by
  unfold b_law_7
  exact set_d (loan_call (i := 0) (ρ := lw ns w (tz r) (tz m) (tz o) (.own false (.lst (zs r))) .un) h3 h8 hr hm rfl rfl) rfl
theorem put_i {ρ : En} {j i : Nat} {l : List Int} {v : Int} {me : EM} (h5 : ρ[5]? = some (.own false (.lst (zs l)))) (he : me ρ = .ok (.d (.int v)) ρ) (hi : i < l.length) : mSetIx 5 (mC (.int i)) me ρ = .nx (ρ.set 5 (.own false (.lst (zs (l.set i v))))) := by
  have h2 : L2.ixN (zs l).length (i : Int) = some i := by
    unfold L2.ixN
    rw [List.length_map, if_pos (by omega), if_pos (by omega)]
    simp
  unfold mSetIx
  rw [he]
  simp only [R.st, OV.fz, esc, mC]
  rw [if_pos (by rw [h5]; rfl), h5]
  simp only [h2]
  simp [zs, List.map_set]
def swp (r : List Int) : List Int := (r.set 0 (r.getD 1 0)).set 1 (r.getD 0 0)
theorem swp_row (h3 : 3 ≤ n) (hr : Row n r) : Row n (swp r) := by
  have hl := hr.len
  match r, hl, hr with
  | a :: b :: l, _, hr => exact (List.Perm.swap a b l).trans hr
  | [a], hl, _ => simp at hl; omega
  | [], hl, _ => simp at hl; omega
theorem law8 (h3 : 3 ≤ n) (hr : Row n r) : b_law_8 (lw ns w (tz r) (tz m) (tz o) (.own false (.lst (zs r))) s6) = .nx (lw ns w (tz r) (tz m) (tz o) (.own false (.lst (zs (r.set 0 (r.getD 1 0))))) s6) := by
  have hl := hr.len
  have ha := at_ix (r := r) (i := 1) (by omega)
  have hg : r.getD 1 0 = r[1] := by
    rw [List.getD_eq_getElem?_getD, List.getElem?_eq_getElem (by omega)]
    rfl
  unfold b_law_8
  refine put_i (i := 0) (j := 0) (v := r.getD 1 0) (ρ := lw ns w (tz r) (tz m) (tz o) (.own false (.lst (zs r))) s6) rfl ?_ (by omega)
  rw [hg]
  have ha' : L2.atI (zs r) 1 = some (.int r[1]) := ha
  simp [mB, mVar, mC, R.bind, OV.fz, OB.get, ap2, dIx, ha', rz]
theorem law9 (h3 : 3 ≤ n) (hr : Row n r) : b_law_9 (lw ns w (tz r) (tz m) (tz o) (.own false (.lst (zs (r.set 0 (r.getD 1 0))))) s6) = .nx (lw ns w (tz r) (tz m) (tz o) (.own false (.lst (zs (swp r)))) s6) := by
  have hl := hr.len
  have ha := at_ix (r := r) (i := 0) (by omega)
  have hg : r.getD 0 0 = r[0] := by
    rw [List.getD_eq_getElem?_getD, List.getElem?_eq_getElem (by omega)]
    rfl
  unfold b_law_9
  refine put_i (i := 1) (j := 0) (v := r.getD 0 0) (ρ := lw ns w (tz r) (tz m) (tz o) (.own false (.lst (zs (r.set 0 (r.getD 1 0))))) s6) rfl ?_ (by simp; omega)
  rw [hg]
  have ha' : L2.atI (zs r) 0 = some (.int r[0]) := ha
  simp [mB, mVar, mC, R.bind, OV.fz, OB.get, ap2, dIx, ha', rz]
theorem law10 (h3 : 3 ≤ n) (h8 : n ≤ 8) (hr : Row n r) (hm : Row n m) : b_law_10 (lw ns w (tz r) (tz m) (tz o) (.own false (.lst (zs (swp r)))) (tz (comp r m))) = .nx (lw ns w (tz r) (tz m) (tz o) (.own false (.lst (zs (swp r)))) (tz (comp r m))) := by
  have hs := swp_row h3 hr
  have a1 := call2 (f := m__law_moved) (ρ := lw ns w (tz r) (tz m) (tz o) (.own false (.lst (zs (swp r)))) (tz (comp r m))) (v := .d (.tup (zs r))) (u := .d (.tup (zs m))) (var_val (i := 2) rfl) rfl (var_val (i := 3) rfl) rfl (lmoved_ok h8 hr.len hm)
  have b1 := loan_call (i := 0) (ρ := lw ns w (tz r) (tz m) (tz o) (.own false (.lst (zs (swp r)))) (tz (comp r m))) h3 h8 hs hm rfl rfl
  have b2 : mCB (g1 dTupOf) (mCons (mVar 5) mNil) (lw ns w (tz r) (tz m) (tz o) (.own false (.lst (zs (swp r)))) (tz (comp r m))) = .ok (.d (.tup (zs (swp r)))) (lw ns w (tz r) (tz m) (tz o) (.own false (.lst (zs (swp r)))) (tz (comp r m))) := by
    simp [mCB, mCons, mVar, mNil, R.bind, OV.fz, apN, getAll, OB.get, Ow.d, g1, dTupOf, rz]
  have b3 := call2 (f := m__law_moved) (v := .d (.tup (zs (swp r)))) (u := .d (.tup (zs m))) b2 rfl (var_val (i := 3) rfl) rfl (lmoved_ok h8 hs.len hm)
  unfold b_law_10
  exact skip_ok (or_ff (ne_ff (var_val (i := 6) rfl) a1) (ne_ff b1 b3))
def stages : List D := [.int 2, .int 9, .bl true, .non, .str "4", .int (-3), .int 100000000000000000000, .tup [.int 4]]
theorem pw20 : dPow (.int 10) (.int 20) = some (.int 100000000000000000000) := by
  rw [dPow_ii, if_pos (by decide +kernel)]
  rfl
theorem stage_no {k : Nat} (hk : k < 8) : ∃ d, stages[k]? = some d ∧ Sm d ∧ (∀ i, d = .int i → ¬ (3 ≤ i ∧ i ≤ 8)) ∧ d.cmp 40 = true := by
  have hc : k = 0 ∨ k = 1 ∨ k = 2 ∨ k = 3 ∨ k = 4 ∨ k = 5 ∨ k = 6 ∨ k = 7 := by omega
  rcases hc with rfl | rfl | rfl | rfl | rfl | rfl | rfl | rfl
  · exact ⟨_, rfl, .inl ⟨_, rfl⟩, (fun i e => by cases e; omega), rfl⟩
  · exact ⟨_, rfl, .inl ⟨_, rfl⟩, (fun i e => by cases e; omega), rfl⟩
  · exact ⟨_, rfl, .inr (.inl ⟨_, rfl⟩), (fun i e => by cases e), rfl⟩
  · exact ⟨_, rfl, .inr (.inr (.inr (.inl rfl))), (fun i e => by cases e), rfl⟩
  · exact ⟨_, rfl, .inr (.inr (.inl ⟨_, rfl⟩)), (fun i e => by cases e), by decide +kernel⟩
  · exact ⟨_, rfl, .inl ⟨_, rfl⟩, (fun i e => by cases e; omega), rfl⟩
  · exact ⟨_, rfl, .inl ⟨_, rfl⟩, (fun i e => by cases e; omega), rfl⟩
  · exact ⟨_, rfl, .inr (.inr (.inr (.inr ⟨_, rfl⟩))), (fun i e => by cases e), rfl⟩
theorem call1s {f : List Sl → DR} {ma : EM} {ρ ρ1 ρ2 : En} {v : OV} {a d : D} (h1 : ma ρ = .ok v ρ1) (e1 : esc v.fz ρ1 = some (a, ρ2)) (hf : f [.val a] = .ok (.v d) []) : mCall [] f [] (mArg ma mNil) ρ = .ok (.d d) ρ2 := call1' h1 e1 hf
theorem law11 {s5 s6 : Sl} (hw : Dr ns w) : ∃ w', Dr ns w' ∧ b_law_11 (lw ns w (tz r) (tz m) (tz o) s5 s6) = .nx (lw ns w' (tz r) (tz m) (tz o) s5 s6) := by
  obtain ⟨p, w1, hw1, p0, p1, hp⟩ := pick_ok hw (many := 8) (by omega) (by omega)
  obtain ⟨d, hd, hs, hno, hc⟩ := stage_no (k := p.toNat) (by omega)
  refine ⟨w1, hw1, ?_⟩
  have hpn : ((p.toNat : Nat) : Int) = p := by omega
  have hpk := call_io2 (f := m__law_pick) (i := 1) (io := false) (ρ := lw ns w (tz r) (tz m) (tz o) s5 s6) (w := w) (w' := w1) (v := .d (.int 8)) (ma := mC (.int 8)) rfl rfl rfl rfl hp
  rw [← hpn] at hpk
  have hlst : mLst (mCons (mC (.int 2)) (mCons (mC (.int 9)) (mCons (mC (.bl true)) (mCons (mC .non) (mCons (mC (.str "4")) (mCons (mU dNeg (mC (.int 3))) (mCons (mB dPow (mC (.int 10)) (mC (.int 20))) (mCons (mTup (mCons (mC (.int 4)) mNil)) mNil)))))))) (lw ns w (tz r) (tz m) (tz o) s5 s6) = .ok (.n (.lst stages)) (lw ns w (tz r) (tz m) (tz o) s5 s6) := by
    have hp20 : mB dPow (mC (.int 10)) (mC (.int 20)) (lw ns w (tz r) (tz m) (tz o) s5 s6) = .ok (.d (.int 100000000000000000000)) (lw ns w (tz r) (tz m) (tz o) s5 s6) := by
      simp [mB, mC, R.bind, OV.fz, OB.get, ap2, pw20, rz]
    have hn1 : mU dNeg (mC (.int 3)) (lw ns w (tz r) (tz m) (tz o) s5 s6) = .ok (.d (.int (-3))) (lw ns w (tz r) (tz m) (tz o) s5 s6) := by
      simp [mU, mC, R.bind, OV.fz, OB.get, ap1, e_neg, rz]
    have ht1 : mTup (mCons (mC (.int 4)) mNil) (lw ns w (tz r) (tz m) (tz o) s5 s6) = .ok (.d (.tup [.int 4])) (lw ns w (tz r) (tz m) (tz o) s5 s6) := tup1_ok rfl
    simp only [mLst, mCons, mNil, hp20, hn1, ht1, mC, R.bind, OV.fz, escs, esc]
    rfl
  unfold b_law_11
  exact skip_ok (not_ok (tst_ok (call1s (f := m__law_stage_refused) (ix_new hlst hpk hd) rfl (stref hs hc hno))))
end
theorem hlaw (ns : List Int) (hl : ns.length ≤ 63) : m_law [.val (.frl (ns.map D.int))] = .ok (.v (.bl true)) [] := by
  obtain ⟨w1, hw1, e1⟩ := law1 hl
  obtain ⟨w2, n, r, hw2, h3, h8, hr, e2⟩ := law2 hw1
  obtain ⟨w3, m, hw3, hm, e3⟩ := law3 hw2 h3 h8 hr
  obtain ⟨w4, o, hw4, ho, e4⟩ := law4 (m := m) hw3 h3 h8 hr
  obtain ⟨w5, hw5, e5⟩ := law5 hw4 h3 h8 hr hm ho
  obtain ⟨w6, hw6, e11⟩ := law11 (r := r) (m := m) (o := o) (s5 := .own false (.lst (zs (swp r)))) (s6 := tz (comp r m)) hw5
  obtain ⟨w7, h12⟩ := refusals_ok hw6 h3 h8 hr hm
  have e12 : b_law_12 (lw ns w6 (tz r) (tz m) (tz o) (.own false (.lst (zs (swp r)))) (tz (comp r m))) = .rt (.v (.bl true)) (lw ns w7 (tz r) (tz m) (tz o) (.own false (.lst (zs (swp r)))) (tz (comp r m))) := by
    unfold b_law_12
    exact mRet_d (call_io2b (f := m__law_refusals_fit) (i := 1) (io := false) (ρ := lw ns w6 (tz r) (tz m) (tz o) (.own false (.lst (zs (swp r)))) (tz (comp r m))) (w := w6) (v := .d (.tup (zs r))) (u := .d (.tup (zs m))) rfl (var_val (i := 2) rfl) rfl (var_val (i := 3) rfl) rfl h12)
  unfold m_law
  refine mDef_rt (ρ := lw ns w7 (tz r) (tz m) (tz o) (.own false (.lst (zs (swp r)))) (tz (comp r m))) ?_
  show b_law [.val (.frl (zs ns)), .un, .un, .un, .un, .un, .un] = _
  unfold b_law
  rw [seq_nx e1, seq_nx e2, seq_nx e3, seq_nx e4, seq_nx e5, seq_nx law6, seq_nx (law7 h3 h8 hr hm), seq_nx (law8 h3 hr), seq_nx (law9 h3 hr), seq_nx (law10 h3 h8 hr hm), seq_nx e11, e12]
end K01
set_option Elab.async false
set_option linter.all false
set_option maxRecDepth 100000
set_option maxHeartbeats 4000000
namespace K01
open PySem PySem.Spec PyProof.Rows L2 Mi PySem.MiX
def top (i : Nat) : Stmt := PySem.Challenge.pw_truetouch_k01_rows_as_moves.main.body.getD i (.Pass ⟨0, 0, 0, 0⟩)
abbrev FnP (K : PySem.W.Frag) (x : Str) (st : Stmt) (f : Addr) (fd : FuncData) : Prop := FunD K x x (defArgs st) (defBody st) (defScope st) [] [] f fd
structure Tx (P : Program) (K : PySem.W.Frag) (mg : Str → Option Value) (AA : Str → Addr) : Prop where
  d__law_draw : ∃ f fd, FnP K "_law_draw" (top 33) f fd ∧ mg "_law_draw" = some (.ref f)
  d__law_moved : ∃ f fd, FnP K "_law_moved" (top 37) f fd ∧ mg "_law_moved" = some (.ref f)
  d__law_mix : ∃ f fd, FnP K "_law_mix" (top 34) f fd ∧ mg "_law_mix" = some (.ref f)
  d__law_pick : ∃ f fd, FnP K "_law_pick" (top 35) f fd ∧ mg "_law_pick" = some (.ref f)
  d__law_hand : ∃ f fd, FnP K "_law_hand" (top 43) f fd ∧ mg "_law_hand" = some (.ref f)
  d__law_listed : ∃ f fd, FnP K "_law_listed" (top 41) f fd ∧ mg "_law_listed" = some (.ref f)
  d__law_rounds : ∃ f fd, FnP K "_law_rounds" (top 36) f fd ∧ mg "_law_rounds" = some (.ref f)
  d__law_is_int : ∃ f fd, FnP K "_law_is_int" (top 40) f fd ∧ mg "_law_is_int" = some (.ref f)
  d__law_same : ∃ f fd, FnP K "_law_same" (top 42) f fd ∧ mg "_law_same" = some (.ref f)
  d_compose : ∃ f fd, FnP K "compose" (top 15) f fd ∧ mg "compose" = some (.ref f)
  d_is_integer : ∃ f fd, FnP K "is_integer" (top 9) f fd ∧ mg "is_integer" = some (.ref f)
  d_is_within : ∃ f fd, FnP K "is_within" (top 10) f fd ∧ mg "is_within" = some (.ref f)
  d_is_stage : ∃ f fd, FnP K "is_stage" (top 11) f fd ∧ mg "is_stage" = some (.ref f)
  d_is_tuple : ∃ f fd, FnP K "is_tuple" (top 12) f fd ∧ mg "is_tuple" = some (.ref f)
  d_is_row : ∃ f fd, FnP K "is_row" (top 19) f fd ∧ mg "is_row" = some (.ref f)
  d_judge_row : ∃ f fd, FnP K "judge_row" (top 30) f fd ∧ mg "judge_row" = some (.ref f)
  d_judge_rows : ∃ f fd, FnP K "judge_rows" (top 31) f fd ∧ mg "judge_rows" = some (.ref f)
  d_moved : ∃ f fd, FnP K "moved" (top 21) f fd ∧ mg "moved" = some (.ref f)
  d_renamed : ∃ f fd, FnP K "renamed" (top 24) f fd ∧ mg "renamed" = some (.ref f)
  d_rounds_of : ∃ f fd, FnP K "rounds_of" (top 14) f fd ∧ mg "rounds_of" = some (.ref f)
  d_rounds : ∃ f fd, FnP K "rounds" (top 20) f fd ∧ mg "rounds" = some (.ref f)
  d_step_between : ∃ f fd, FnP K "step_between" (top 17) f fd ∧ mg "step_between" = some (.ref f)
  d_step : ∃ f fd, FnP K "step" (top 23) f fd ∧ mg "step" = some (.ref f)
  d_inverse : ∃ f fd, FnP K "inverse" (top 16) f fd ∧ mg "inverse" = some (.ref f)
  d_undone : ∃ f fd, FnP K "undone" (top 22) f fd ∧ mg "undone" = some (.ref f)
  d__law_moves_fit : ∃ f fd, FnP K "_law_moves_fit" (top 48) f fd ∧ mg "_law_moves_fit" = some (.ref f)
  d__law_bad_row : ∃ f fd, FnP K "_law_bad_row" (top 45) f fd ∧ mg "_law_bad_row" = some (.ref f)
  d_cycle_from : ∃ f fd, FnP K "cycle_from" (top 29) f fd ∧ mg "cycle_from" = some (.ref f)
  d_cycles : ∃ f fd, FnP K "cycles" (top 28) f fd ∧ mg "cycles" = some (.ref f)
  d_is_even : ∃ f fd, FnP K "is_even" (top 26) f fd ∧ mg "is_even" = some (.ref f)
  d_order : ∃ f fd, FnP K "order" (top 25) f fd ∧ mg "order" = some (.ref f)
  d_place : ∃ f fd, FnP K "place" (top 27) f fd ∧ mg "place" = some (.ref f)
  d__law_call : ∃ f fd, FnP K "_law_call" (top 46) f fd ∧ mg "_law_call" = some (.ref f)
  d__law_refusal : ∃ f fd, FnP K "_law_refusal" (top 47) f fd ∧ mg "_law_refusal" = some (.ref f)
  d__law_row : ∃ f fd, FnP K "_law_row" (top 39) f fd ∧ mg "_law_row" = some (.ref f)
  d__law_refusals_fit : ∃ f fd, FnP K "_law_refusals_fit" (top 53) f fd ∧ mg "_law_refusals_fit" = some (.ref f)
  d__law_undone : ∃ f fd, FnP K "_law_undone" (top 38) f fd ∧ mg "_law_undone" = some (.ref f)
  d__law_second : ∃ f fd, FnP K "_law_second" (top 44) f fd ∧ mg "_law_second" = some (.ref f)
  d__law_stage_refused : ∃ f fd, FnP K "_law_stage_refused" (top 54) f fd ∧ mg "_law_stage_refused" = some (.ref f)
  d__law_cycles : ∃ f fd, FnP K "_law_cycles" (top 49) f fd ∧ mg "_law_cycles" = some (.ref f)
  d__law_is_even : ∃ f fd, FnP K "_law_is_even" (top 50) f fd ∧ mg "_law_is_even" = some (.ref f)
  d__law_order : ∃ f fd, FnP K "_law_order" (top 51) f fd ∧ mg "_law_order" = some (.ref f)
  d__law_told_fit : ∃ f fd, FnP K "_law_told_fit" (top 52) f fd ∧ mg "_law_told_fit" = some (.ref f)
  d_law : ∃ f fd, FnP K "law" (top 55) f fd ∧ mg "law" = some (.ref f)
  b_abs : mg "abs" = none
  b_all : mg "all" = none
  b_bool : mg "bool" = none
  b_enumerate : mg "enumerate" = none
  b_int : mg "int" = none
  b_isinstance : mg "isinstance" = none
  b_len : mg "len" = none
  b_list : mg "list" = none
  b_range : mg "range" = none
  b_sorted : mg "sorted" = none
  b_str : mg "str" = none
  b_sum : mg "sum" = none
  b_tuple : mg "tuple" = none
  b_zip : mg "zip" = none
  c_LEAST_STAGE : ∃ u, mg "LEAST_STAGE" = some u ∧ RelV (.int 3) u
  c_GREATEST_STAGE : ∃ u, mg "GREATEST_STAGE" = some u ∧ RelV (.int 8) u
  cls : ClsT P K mg AA exs "TouchError" sub
section
variable {P : Program} {w : World} {K : PySem.W.Frag} {mg : Str → Option Value} {AA : Str → Addr} {base : Heap}
theorem Tx.x_BadStage (T : Tx P K mg AA) : ∃ fI, ExT P K mg "BadStage" "stage" (AA "BadStage") fI := T.cls.x _ _ (by decide)
theorem Tx.g_BadStage (T : Tx P K mg AA) : mg "BadStage" = some (.ref (AA "BadStage")) := by
  obtain ⟨_, X⟩ := T.x_BadStage
  exact X.gC
theorem Tx.x_BadRow (T : Tx P K mg AA) : ∃ fI, ExT P K mg "BadRow" "row" (AA "BadRow") fI := T.cls.x _ _ (by decide)
theorem Tx.g_BadRow (T : Tx P K mg AA) : mg "BadRow" = some (.ref (AA "BadRow")) := by
  obtain ⟨_, X⟩ := T.x_BadRow
  exact X.gC
theorem Tx.x_BadBell (T : Tx P K mg AA) : ∃ fI, ExT P K mg "BadBell" "bell" (AA "BadBell") fI := T.cls.x _ _ (by decide)
theorem Tx.g_BadBell (T : Tx P K mg AA) : mg "BadBell" = some (.ref (AA "BadBell")) := by
  obtain ⟨_, X⟩ := T.x_BadBell
  exact X.gC
theorem Tx.x_Unlike (T : Tx P K mg AA) : ∃ fI, ExT P K mg "Unlike" "word" (AA "Unlike") fI := T.cls.x _ _ (by decide)
theorem Tx.g_Unlike (T : Tx P K mg AA) : mg "Unlike" = some (.ref (AA "Unlike")) := by
  obtain ⟨_, X⟩ := T.x_Unlike
  exact X.gC
theorem fld_bell : Fld "bell" := ⟨by decide, by decide, by decide, by decide, by decide⟩
theorem fld_row : Fld "row" := ⟨by decide, by decide, by decide, by decide, by decide⟩
theorem fld_stage : Fld "stage" := ⟨by decide, by decide, by decide, by decide, by decide⟩
theorem fld_word : Fld "word" := ⟨by decide, by decide, by decide, by decide, by decide⟩
theorem tst_bool_ok : TstOk K mg [.type "bool"] tst_bool := ⟨(kitAny_cons (b := false) (kit_ty (by decide +kernel)) (fun h => kitAny_nil) (fun h => (by cases h))), (kitAny_cons (b := true) (kit_ty (by decide +kernel)) (fun h => (by cases h)) (fun h => rfl)), (kitAny_cons (b := false) (kit_ty (by decide +kernel)) (fun h => kitAny_nil) (fun h => (by cases h))), (kitAny_cons (b := false) (kit_ty (by decide +kernel)) (fun h => kitAny_nil) (fun h => (by cases h))), (kitAny_cons (b := false) (kit_ty (by decide +kernel)) (fun h => kitAny_nil) (fun h => (by cases h))), (kitAny_cons (b := false) (kit_ty (by decide +kernel)) (fun h => kitAny_nil) (fun h => (by cases h))), (kitAny_cons (b := false) (kit_ty (by decide +kernel)) (fun h => kitAny_nil) (fun h => (by cases h))), fun _ _ _ h => by cases h⟩
theorem tst_int_ok : TstOk K mg [.type "int"] tst_int := ⟨(kitAny_cons (b := false) (kit_ty (by decide +kernel)) (fun h => kitAny_nil) (fun h => (by cases h))), (kitAny_cons (b := true) (kit_ty (by decide +kernel)) (fun h => (by cases h)) (fun h => rfl)), (kitAny_cons (b := true) (kit_ty (by decide +kernel)) (fun h => (by cases h)) (fun h => rfl)), (kitAny_cons (b := false) (kit_ty (by decide +kernel)) (fun h => kitAny_nil) (fun h => (by cases h))), (kitAny_cons (b := false) (kit_ty (by decide +kernel)) (fun h => kitAny_nil) (fun h => (by cases h))), (kitAny_cons (b := false) (kit_ty (by decide +kernel)) (fun h => kitAny_nil) (fun h => (by cases h))), (kitAny_cons (b := false) (kit_ty (by decide +kernel)) (fun h => kitAny_nil) (fun h => (by cases h))), fun _ _ _ h => by cases h⟩
theorem tst_list_ok : TstOk K mg [.type "list"] tst_list := ⟨(kitAny_cons (b := false) (kit_ty (by decide +kernel)) (fun h => kitAny_nil) (fun h => (by cases h))), (kitAny_cons (b := false) (kit_ty (by decide +kernel)) (fun h => kitAny_nil) (fun h => (by cases h))), (kitAny_cons (b := false) (kit_ty (by decide +kernel)) (fun h => kitAny_nil) (fun h => (by cases h))), (kitAny_cons (b := false) (kit_ty (by decide +kernel)) (fun h => kitAny_nil) (fun h => (by cases h))), (kitAny_cons (b := false) (kit_ty (by decide +kernel)) (fun h => kitAny_nil) (fun h => (by cases h))), (kitAny_cons (b := true) (kit_ty (by decide +kernel)) (fun h => (by cases h)) (fun h => rfl)), (kitAny_cons (b := false) (kit_ty (by decide +kernel)) (fun h => kitAny_nil) (fun h => (by cases h))), fun _ _ _ h => by cases h⟩
theorem tst_tuple_ok : TstOk K mg [.type "tuple"] tst_tuple := ⟨(kitAny_cons (b := false) (kit_ty (by decide +kernel)) (fun h => kitAny_nil) (fun h => (by cases h))), (kitAny_cons (b := false) (kit_ty (by decide +kernel)) (fun h => kitAny_nil) (fun h => (by cases h))), (kitAny_cons (b := false) (kit_ty (by decide +kernel)) (fun h => kitAny_nil) (fun h => (by cases h))), (kitAny_cons (b := false) (kit_ty (by decide +kernel)) (fun h => kitAny_nil) (fun h => (by cases h))), (kitAny_cons (b := true) (kit_ty (by decide +kernel)) (fun h => (by cases h)) (fun h => rfl)), (kitAny_cons (b := false) (kit_ty (by decide +kernel)) (fun h => kitAny_nil) (fun h => (by cases h))), (kitAny_cons (b := false) (kit_ty (by decide +kernel)) (fun h => kitAny_nil) (fun h => (by cases h))), fun _ _ _ h => by cases h⟩
theorem tst_tuple_list_ok : TstOk K mg [.type "tuple", .type "list"] tst_tuple_list := ⟨(kitAny_cons (b := false) (kit_ty (by decide +kernel)) (fun h => (kitAny_cons (b := false) (kit_ty (by decide +kernel)) (fun h => kitAny_nil) (fun h => (by cases h)))) (fun h => (by cases h))), (kitAny_cons (b := false) (kit_ty (by decide +kernel)) (fun h => (kitAny_cons (b := false) (kit_ty (by decide +kernel)) (fun h => kitAny_nil) (fun h => (by cases h)))) (fun h => (by cases h))), (kitAny_cons (b := false) (kit_ty (by decide +kernel)) (fun h => (kitAny_cons (b := false) (kit_ty (by decide +kernel)) (fun h => kitAny_nil) (fun h => (by cases h)))) (fun h => (by cases h))), (kitAny_cons (b := false) (kit_ty (by decide +kernel)) (fun h => (kitAny_cons (b := false) (kit_ty (by decide +kernel)) (fun h => kitAny_nil) (fun h => (by cases h)))) (fun h => (by cases h))), (kitAny_cons (b := true) (kit_ty (by decide +kernel)) (fun h => (by cases h)) (fun h => rfl)), (kitAny_cons (b := false) (kit_ty (by decide +kernel)) (fun h => (kitAny_cons (b := true) (kit_ty (by decide +kernel)) (fun h => (by cases h)) (fun h => rfl))) (fun h => (by cases h))), (kitAny_cons (b := false) (kit_ty (by decide +kernel)) (fun h => (kitAny_cons (b := false) (kit_ty (by decide +kernel)) (fun h => kitAny_nil) (fun h => (by cases h)))) (fun h => (by cases h))), fun _ _ _ h => by cases h⟩
abbrev s__law_draw : Stmt := top 33
theorem sc__law_draw : FnScope ["_law_script", "_law_cells", "_law_cell"] ["_law_script"] (defScope s__law_draw) := ⟨rfl, rfl, rfl, by decide +kernel, rfl, by decide +kernel, by decide +kernel⟩
theorem ok__law_draw (T : Tx P K mg AA) : CalM P w K mg base 2 "_law_draw" 1 [] m__law_draw := by
  obtain ⟨f, fd, F, hm⟩ := T.d__law_draw
  exact calM_of (m := mDef 3 [] b__law_draw) (def_ok (k := 1) F sc__law_draw (by decide) (fun cdv A outer s H E hr => (mss_cons (ms_setComp (own := [("_law_cell", 2)]) (i := 1) rfl sc__law_draw.nd rfl rfl rfl (mi_seq (me_var 0 (pv 0))) (blkOk_by (N := ["_law_script", "_law_cells", "_law_cell"]) (sc := defScope s__law_draw) (own := [("_law_cell", 2)]) (by decide +kernel)) (fun _ _ _ _ _ => pg_name (i := 2) sc__law_draw.nd rfl (by first | exact Or.inl rfl | exact Or.inr rfl)) (fun _ _ _ _ _ => mts_nil) (fun _ _ _ _ _ => (me_var 2 (pv 2))) (tg_name 2) (by decide))
  (mss_one (ms_ret (me_lst (ma_cons (me_var 1 (pv 1)) (ma_cons (me_int) (ma_cons (me_int) (ma_cons (me_int) (ma_cons (me_int) (ma_cons (me_op o_add op_addA (me_op o_mod op_mod (me_callTy o_int call_int1 rfl T.b_int (by first | boot_by_name | rfl | kernel_rfl) (ma_cons (me_callB o_sum (cr_sum rfl) rfl T.b_sum (by first | boot_by_name | rfl | kernel_rfl) (ma_cons (me_var 1 (pv 1)) ma_nil)) ma_nil)) (me_int)) (me_op o_mul op_mul (me_int) (me_callB o_len call_lenA rfl T.b_len (by first | boot_by_name | rfl | kernel_rfl) (ma_cons (me_var 1 (pv 1)) ma_nil)))) ma_nil)))))))))))) hm F.kp (FunD.bindsN F fun _ _ _ _ _ _ us hl => match us, hl with | [_], _ => rfl)
abbrev s__law_moved : Stmt := top 37
theorem sc__law_moved : FnScope ["_law_row_here", "_law_move", "_law_spot"] ["_law_row_here", "_law_move"] (defScope s__law_moved) := ⟨rfl, rfl, rfl, by decide +kernel, rfl, by decide +kernel, by decide +kernel⟩
theorem ok__law_moved (T : Tx P K mg AA) : CalM P w K mg base 2 "_law_moved" 2 [] m__law_moved := by
  obtain ⟨f, fd, F, hm⟩ := T.d__law_moved
  exact calM_of (m := mDef 3 [] b__law_moved) (def_ok (k := 1) F sc__law_moved (by decide) (fun cdv A outer s H E hr => (mss_one (ms_ret (me_callTy o_tupOf call_tupleF rfl T.b_tuple (by first | boot_by_name | rfl | kernel_rfl) (ma_cons (me_comp (own := [("_law_spot", 2)]) rfl sc__law_moved.nd (mi_seq (me_var 1 (pv 1))) (blkOk_by (N := ["_law_row_here", "_law_move", "_law_spot"]) (sc := defScope s__law_moved) (own := [("_law_spot", 2)]) (by decide +kernel)) (fun _ _ _ _ _ => pg_name (i := 2) sc__law_moved.nd rfl (by first | exact Or.inl rfl | exact Or.inr rfl)) (fun _ _ _ _ _ => mts_nil) (fun _ _ _ _ _ => (me_ix o_ix ix_seq (me_var 0 (pv 0)) (me_op o_sub op_sub (me_var 2 (pv 2)) (me_int)) (fun _ _ => rfl))) (tg_name 2) (by decide)) ma_nil)))))) hm F.kp (FunD.bindsN F fun _ _ _ _ _ _ us hl => match us, hl with | [_, _], _ => rfl)
abbrev s__law_mix : Stmt := top 34
theorem sc__law_mix : FnScope ["_law_cell", "_law_turn", "_law_one", "_law_two"] ["_law_cell", "_law_turn"] (defScope s__law_mix) := ⟨rfl, rfl, rfl, by decide +kernel, rfl, by decide +kernel, by decide +kernel⟩
theorem ok__law_mix (T : Tx P K mg AA) : CalM P w K mg base 2 "_law_mix" 2 [] m__law_mix := by
  obtain ⟨f, fd, F, hm⟩ := T.d__law_mix
  exact calM_of (m := mDef 4 [] b__law_mix) (def_ok (k := 1) F sc__law_mix (by decide) (fun cdv A outer s H E hr => (mss_cons (ms_set (i := 2) sc__law_mix.nd rfl (by first | exact Or.inl rfl | exact Or.inr rfl) (me_op o_mod op_mod (me_callTy o_int call_int1 rfl T.b_int (by first | boot_by_name | rfl | kernel_rfl) (ma_cons (me_op o_add op_addA (me_op o_add op_addA (me_op o_mul op_mul (me_var 0 (pv 0)) (me_int)) (me_op o_mul op_mul (me_var 1 (pv 1)) (me_int))) (me_int)) ma_nil)) (me_int)))
  (mss_cons (ms_set (i := 3) sc__law_mix.nd rfl (by first | exact Or.inl rfl | exact Or.inr rfl) (me_op o_mod op_mod (me_callTy o_int call_int1 rfl T.b_int (by first | boot_by_name | rfl | kernel_rfl) (ma_cons (me_op o_add op_addA (me_op o_add op_addA (me_op o_mul op_mul (me_var 2 (pv 2)) (me_var 2 (pv 2))) (me_op o_mul op_mul (me_var 1 (pv 1)) (me_int))) (me_var 0 (pv 0))) ma_nil)) (me_int)))
  (mss_cons (ms_set (i := 3) sc__law_mix.nd rfl (by first | exact Or.inl rfl | exact Or.inr rfl) (me_op o_mod op_mod (me_callTy o_int call_int1 rfl T.b_int (by first | boot_by_name | rfl | kernel_rfl) (ma_cons (me_op o_add op_addA (me_op o_mul op_mul (me_var 3 (pv 3)) (me_var 3 (pv 3))) (me_var 2 (pv 2))) ma_nil)) (me_int)))
  (mss_one (ms_ret (me_op o_div op_fdiv (me_var 3 (pv 3)) (me_int))))))))) hm F.kp (FunD.bindsN F fun _ _ _ _ _ _ us hl => match us, hl with | [_, _], _ => rfl)
abbrev s__law_pick : Stmt := top 35
theorem sc__law_pick : FnScope ["_law_draw_here", "_law_many", "_law_cell", "_law_digit", "_law_found"] ["_law_draw_here", "_law_many"] (defScope s__law_pick) := ⟨rfl, rfl, rfl, by decide +kernel, rfl, by decide +kernel, by decide +kernel⟩
theorem ok__law_pick (T : Tx P K mg AA) : CalM P w K mg base 3 "_law_pick" 2 [0] m__law_pick := by
  obtain ⟨f, fd, F, hm⟩ := T.d__law_pick
  exact calM_of (m := mDef 5 [0] b__law_pick) (def_ok (k := 2) F sc__law_pick (by decide) (fun cdv A outer s H E hr => (mss_cons (ms_if (mt_cmp o_lt op_lt (me_var 1 (pv 1)) (me_int) (nomark _)) (mss_one (ms_ret (me_int))) mss_nil)
  (mss_cons (ms_if (PW.pt (mw_and (mt_cmp o_eq (op_eqD (have h := u64 hr; h)) (me_ix o_ix ix_seq (me_var 0 (pv 0)) (me_int) (fun _ _ => rfl)) (me_int) (nomark _)) (mw_and (mt_cmp o_lt op_lt (me_ix o_ix ix_seq (me_var 0 (pv 0)) (me_int) (fun _ _ => rfl)) (me_callB o_len call_lenA rfl T.b_len (by first | boot_by_name | rfl | kernel_rfl) (ma_cons (me_ix o_ix ix_seq (me_var 0 (pv 0)) (me_int) (fun _ _ => rfl)) ma_nil)) (nomark _)) (mw_and1 (mt_cmp o_eq (op_eqD (have h := u64 hr; h)) (me_ix o_ix ix_seq (me_var 0 (pv 0)) (me_int) (fun _ _ => rfl)) (me_int) (nomark _)))))) (mss_cons (ms_set (i := 2) sc__law_pick.nd rfl (by first | exact Or.inl rfl | exact Or.inr rfl) (me_ix o_ix ix_seq (me_ix o_ix ix_seq (me_var 0 (pv 0)) (me_int) (fun _ _ => rfl)) (me_ix o_ix ix_seq (me_var 0 (pv 0)) (me_int) (fun _ _ => rfl)) (fun _ _ => rfl)))
  (mss_one (ms_if (PW.pt (mw_or (mt_cmp o_ge op_ge (me_var 2 (pv 2)) (me_op o_pow op_powW (me_int) (me_int)) (nomark _)) (mw_or1 (mt_cmp o_le op_le (me_var 2 (pv 2)) (me_un o_neg un_neg (me_op o_pow op_powW (me_int) (me_int))) (nomark _))))) (mss_cons (x_setIx (s := 0) (pv 0) (me_int) (me_op o_mod op_mod (me_callTy o_int call_int1 rfl T.b_int (by first | boot_by_name | rfl | kernel_rfl) (ma_cons (me_callB o_abs call_abs rfl T.b_abs (by first | boot_by_name | rfl | kernel_rfl) (ma_cons (me_var 2 (pv 2)) ma_nil)) ma_nil)) (me_op o_pow op_powW (me_op o_pow op_powW (me_int) (me_int)) (me_int))) rfl rfl (pg_sub (pv 0) (me_int) set_list))
  (mss_one (x_setIx (s := 0) (pv 0) (me_int) (me_op o_add op_addA (me_ix o_ix ix_seq (me_var 0 (pv 0)) (me_int) (fun _ _ => rfl)) (me_int)) rfl rfl (pg_sub (pv 0) (me_int) set_list)))) mss_nil))) mss_nil)
  (mss_cons (ms_if (mt_cmp o_gt op_gt (me_ix o_ix ix_seq (me_var 0 (pv 0)) (me_int) (fun _ _ => rfl)) (me_int) (nomark _)) (mss_cons (ms_set (i := 3) sc__law_pick.nd rfl (by first | exact Or.inl rfl | exact Or.inr rfl) (me_op o_mod op_mod (me_callTy o_int call_int1 rfl T.b_int (by first | boot_by_name | rfl | kernel_rfl) (ma_cons (me_ix o_ix ix_seq (me_var 0 (pv 0)) (me_int) (fun _ _ => rfl)) ma_nil)) (me_var 1 (pv 1))))
  (mss_cons (x_setIx (s := 0) (pv 0) (me_int) (me_op o_div op_fdiv (me_ix o_ix ix_seq (me_var 0 (pv 0)) (me_int) (fun _ _ => rfl)) (me_var 1 (pv 1))) rfl rfl (pg_sub (pv 0) (me_int) set_list))
  (mss_one (ms_ret (me_var 3 (pv 3)))))) mss_nil)
  (mss_cons (ms_if (mt_cmp o_lt op_lt (me_ix o_ix ix_seq (me_var 0 (pv 0)) (me_int) (fun _ _ => rfl)) (me_callB o_len call_lenA rfl T.b_len (by first | boot_by_name | rfl | kernel_rfl) (ma_cons (me_ix o_ix ix_seq (me_var 0 (pv 0)) (me_int) (fun _ _ => rfl)) ma_nil)) (nomark _)) (mss_cons (ms_set (i := 2) sc__law_pick.nd rfl (by first | exact Or.inl rfl | exact Or.inr rfl) (me_ix o_ix ix_seq (me_ix o_ix ix_seq (me_var 0 (pv 0)) (me_int) (fun _ _ => rfl)) (me_ix o_ix ix_seq (me_var 0 (pv 0)) (me_int) (fun _ _ => rfl)) (fun _ _ => rfl)))
  (mss_cons (x_setIx (s := 0) (pv 0) (me_int) (me_op o_add op_addA (me_ix o_ix ix_seq (me_var 0 (pv 0)) (me_int) (fun _ _ => rfl)) (me_int)) rfl rfl (pg_sub (pv 0) (me_int) set_list))
  (mss_cons (ms_set (i := 4) sc__law_pick.nd rfl (by first | exact Or.inl rfl | exact Or.inr rfl) (me_op o_mod op_mod (me_callTy o_int call_int1 rfl T.b_int (by first | boot_by_name | rfl | kernel_rfl) (ma_cons (me_callM (ok__law_mix T) hr (by omega) (takes_of rfl rfl rfl rfl) rfl (ma_arg (me_op o_add op_addA (me_var 2 (pv 2)) (me_op o_mul op_mul (me_int) (me_ix o_ix ix_seq (me_var 0 (pv 0)) (me_int) (fun _ _ => rfl)))) (ma_arg (me_ix o_ix ix_seq (me_var 0 (pv 0)) (me_int) (fun _ _ => rfl)) ma_nil)) (ml_arg (ml_arg (fun ρ vs ρ' h => ml_nil h)))) ma_nil)) (me_var 1 (pv 1))))
  (mss_cons (ms_if (mt_cmp o_eq (op_eqD (have h := u64 hr; h)) (me_ix o_ix ix_seq (me_var 0 (pv 0)) (me_int) (fun _ _ => rfl)) (me_int) (nomark _)) (mss_cons (x_setIx (s := 0) (pv 0) (me_int) (me_int) rfl rfl (pg_sub (pv 0) (me_int) set_list))
  (mss_one (x_setIx (s := 0) (pv 0) (me_int) (me_op o_add op_addA (me_ix o_ix ix_seq (me_var 0 (pv 0)) (me_int) (fun _ _ => rfl)) (me_int)) rfl rfl (pg_sub (pv 0) (me_int) set_list)))) mss_nil)
  (mss_one (ms_ret (me_var 4 (pv 4)))))))) mss_nil)
  (mss_cons (x_setIx (s := 0) (pv 0) (me_int) (me_op o_add op_addA (me_ix o_ix ix_seq (me_var 0 (pv 0)) (me_int) (fun _ _ => rfl)) (me_int)) rfl rfl (pg_sub (pv 0) (me_int) set_list))
  (mss_one (ms_ret (me_op o_mod op_mod (me_callTy o_int call_int1 rfl T.b_int (by first | boot_by_name | rfl | kernel_rfl) (ma_cons (me_callM (ok__law_mix T) hr (by omega) (takes_of rfl rfl rfl rfl) rfl (ma_arg (me_ix o_ix ix_seq (me_var 0 (pv 0)) (me_int) (fun _ _ => rfl)) (ma_arg (me_op o_add op_addA (me_ix o_ix ix_seq (me_var 0 (pv 0)) (me_int) (fun _ _ => rfl)) (me_int)) ma_nil)) (ml_arg (ml_arg (fun ρ vs ρ' h => ml_nil h)))) ma_nil)) (me_var 1 (pv 1)))))))))))) hm F.kp (FunD.bindsN F fun _ _ _ _ _ _ us hl => match us, hl with | [_, _], _ => rfl)
abbrev s__law_hand : Stmt := top 43
theorem sc__law_hand : FnScope ["_law_draw_here", "_law_row_here"] ["_law_draw_here", "_law_row_here"] (defScope s__law_hand) := ⟨rfl, rfl, rfl, by decide +kernel, rfl, by decide +kernel, by decide +kernel⟩
theorem ok__law_hand (T : Tx P K mg AA) : CalM P w K mg base 4 "_law_hand" 2 [0] m__law_hand := by
  obtain ⟨f, fd, F, hm⟩ := T.d__law_hand
  exact calM_of (m := mDef 2 [0] b__law_hand) (def_ok (k := 3) F sc__law_hand (by decide) (fun cdv A outer s H E hr => (mss_cons (ms_if (mt_cmp o_eq (op_eqD (have h := u64 hr; h)) (me_callM (ok__law_pick T) hr (by omega) (takes_of rfl rfl rfl rfl) rfl (ma_lend 0 (pv 0) (ma_arg (me_int) ma_nil)) (ml_lend (ml_arg (fun ρ vs ρ' h => ml_nil h)))) (me_int) (nomark _)) (mss_one (ms_ret (me_callTyn o_listOf call_list_of rfl T.b_list (by first | boot_by_name | rfl | kernel_rfl) (ma_cons (me_var 1 (pv 1)) ma_nil)))) mss_nil)
  (mss_one (ms_ret (me_var 1 (pv 1))))))) hm F.kp (FunD.bindsN F fun _ _ _ _ _ _ us hl => match us, hl with | [_, _], _ => rfl)
abbrev s__law_listed : Stmt := top 41
theorem sc__law_listed : FnScope ["_law_thing", "_law_part"] ["_law_thing"] (defScope s__law_listed) := ⟨rfl, rfl, rfl, by decide +kernel, rfl, by decide +kernel, by decide +kernel⟩
theorem ok__law_listed (T : Tx P K mg AA) : ∀ n, CalM P w K mg base (2 + n) "_law_listed" 1 [] (m__law_listed n)
  | 0 => by
    obtain ⟨f, fd, F, hm⟩ := T.d__law_listed
    exact calM_of (ps := ["_law_thing"]) fnok_bad hm F.kp (FunD.bindsN F fun _ _ _ _ _ _ us hl => match us, hl with | [_], _ => rfl)
  | n + 1 => by
    have ih := ok__law_listed T n
    obtain ⟨f, fd, F, hm⟩ := T.d__law_listed
    exact calM_of (m := mDef 2 [] (b__law_listed (m__law_listed n))) (def_ok (k := 2 + n) F sc__law_listed (by decide) (fun cdv A outer s H E hr => (mss_cons (ms_if (PW.pt (mw_or (mt_val (me_isi tst_tuple_ok (.ty _) (me_var 0 (pv 0)) (pe_clsTy rfl T.b_tuple (by first | boot_by_name | rfl | kernel_rfl)) rfl T.b_isinstance)) (mw_or1 (mt_val (me_isi tst_list_ok (.ty _) (me_var 0 (pv 0)) (pe_clsTy rfl T.b_list (by first | boot_by_name | rfl | kernel_rfl)) rfl T.b_isinstance))))) (mss_one (ms_ret (me_comp (own := [("_law_part", 1)]) rfl sc__law_listed.nd (mi_seq (me_var 0 (pv 0))) (blkOk_by (N := ["_law_thing", "_law_part"]) (sc := defScope s__law_listed) (own := [("_law_part", 1)]) (by decide +kernel)) (fun _ _ _ _ _ => pg_name (i := 1) sc__law_listed.nd rfl (by first | exact Or.inl rfl | exact Or.inr rfl)) (fun _ _ _ _ _ => mts_nil) (fun _ _ _ _ _ => (me_callM ih hr (by omega) takes_W0 rfl (ma_arg (me_var 1 (pv 1)) ma_nil) (ml_arg (fun ρ vs ρ' h => ml_nil h)))) (tg_name 1) (by decide)))) mss_nil)
  (mss_one (ms_ret (me_var 0 (pv 0))))))) hm F.kp (FunD.bindsN F fun _ _ _ _ _ _ us hl => match us, hl with | [_], _ => rfl)
abbrev s__law_rounds : Stmt := top 36
theorem sc__law_rounds : FnScope ["_law_stage"] ["_law_stage"] (defScope s__law_rounds) := ⟨rfl, rfl, rfl, by decide +kernel, rfl, by decide +kernel, by decide +kernel⟩
theorem ok__law_rounds (T : Tx P K mg AA) : CalM P w K mg base 2 "_law_rounds" 1 [] m__law_rounds := by
  obtain ⟨f, fd, F, hm⟩ := T.d__law_rounds
  exact calM_of (m := mDef 1 [] b__law_rounds) (def_ok (k := 1) F sc__law_rounds (by decide) (fun cdv A outer s H E hr => (mss_one (ms_ret (me_tupRg2 rfl rfl T.b_tuple rfl T.b_range (me_int) (me_op o_add op_addA (me_var 0 (pv 0)) (me_int))))))) hm F.kp (FunD.bindsN F fun _ _ _ _ _ _ us hl => match us, hl with | [_], _ => rfl)
abbrev s__law_is_int : Stmt := top 40
theorem sc__law_is_int : FnScope ["_law_thing"] ["_law_thing"] (defScope s__law_is_int) := ⟨rfl, rfl, rfl, by decide +kernel, rfl, by decide +kernel, by decide +kernel⟩
theorem ok__law_is_int (T : Tx P K mg AA) : CalM P w K mg base 2 "_law_is_int" 1 [] m__law_is_int := by
  obtain ⟨f, fd, F, hm⟩ := T.d__law_is_int
  exact calM_of (m := mDef 1 [] b__law_is_int) (def_ok (k := 1) F sc__law_is_int (by decide) (fun cdv A outer s H E hr => (mss_one (ms_ret ((me_and (me_isi tst_int_ok (.ty _) (me_var 0 (pv 0)) (pe_clsTy rfl T.b_int (by first | boot_by_name | rfl | kernel_rfl)) rfl T.b_isinstance) (me_one (me_not (me_isi tst_bool_ok (.ty _) (me_var 0 (pv 0)) (pe_clsTy rfl T.b_bool (by first | boot_by_name | rfl | kernel_rfl)) rfl T.b_isinstance))))))))) hm F.kp (FunD.bindsN F fun _ _ _ _ _ _ us hl => match us, hl with | [_], _ => rfl)
abbrev s__law_same : Stmt := top 42
theorem sc__law_same : FnScope ["_law_told", "_law_due", "_law_one", "_law_two"] ["_law_told", "_law_due"] (defScope s__law_same) := ⟨rfl, rfl, rfl, by decide +kernel, rfl, by decide +kernel, by decide +kernel⟩
theorem ok__law_same (T : Tx P K mg AA) : ∀ n, CalM P w K mg base (3 + n) "_law_same" 2 [] (m__law_same n)
  | 0 => by
    obtain ⟨f, fd, F, hm⟩ := T.d__law_same
    exact calM_of (ps := ["_law_told", "_law_due"]) fnok_bad hm F.kp (FunD.bindsN F fun _ _ _ _ _ _ us hl => match us, hl with | [_, _], _ => rfl)
  | n + 1 => by
    have ih := ok__law_same T n
    obtain ⟨f, fd, F, hm⟩ := T.d__law_same
    exact calM_of (m := mDef 4 [] (b__law_same (m__law_same n))) (def_ok (k := 3 + n) F sc__law_same (by decide) (fun cdv A outer s H E hr => (mss_cons (ms_if (mt_val (me_isi tst_tuple_ok (.ty _) (me_var 1 (pv 1)) (pe_clsTy rfl T.b_tuple (by first | boot_by_name | rfl | kernel_rfl)) rfl T.b_isinstance)) (mss_cons (ms_if (PW.pt (mw_or (mt_not (mt_val (me_isi tst_tuple_ok (.ty _) (me_var 0 (pv 0)) (pe_clsTy rfl T.b_tuple (by first | boot_by_name | rfl | kernel_rfl)) rfl T.b_isinstance))) (mw_or1 (mt_cmp o_ne (op_neD (have h := u64 hr; h)) (me_callB o_len call_lenA rfl T.b_len (by first | boot_by_name | rfl | kernel_rfl) (ma_cons (me_var 0 (pv 0)) ma_nil)) (me_callB o_len call_lenA rfl T.b_len (by first | boot_by_name | rfl | kernel_rfl) (ma_cons (me_var 1 (pv 1)) ma_nil)) (nomark _))))) (mss_one (ms_ret (me_bl))) mss_nil)
  (mss_one (ms_ret (me_callB o_all (cr_all rfl) rfl T.b_all (by first | boot_by_name | rfl | kernel_rfl) (ma_cons (me_comp (own := [("_law_one", 2), ("_law_two", 3)]) rfl sc__law_same.nd (mi_zip rfl T.b_zip (me_var 0 (pv 0)) (me_var 1 (pv 1))) (blkOk_by (N := ["_law_told", "_law_due", "_law_one", "_law_two"]) (sc := defScope s__law_same) (own := [("_law_one", 2), ("_law_two", 3)]) (by decide +kernel)) (fun _ _ _ _ _ => pg_tup rfl (pgs_cons (pg_name (i := 2) sc__law_same.nd rfl (by first | exact Or.inl rfl | exact Or.inr rfl)) (pgs_cons (pg_name (i := 3) sc__law_same.nd rfl (by first | exact Or.inl rfl | exact Or.inr rfl)) pgs_nil))) (fun _ _ _ _ _ => mts_nil) (fun _ _ _ _ _ => (me_callM ih hr (by omega) takes_W0 rfl (ma_arg (me_var 2 (pv 2)) (ma_arg (me_var 3 (pv 3)) ma_nil)) (ml_arg (ml_arg (fun ρ vs ρ' h => ml_nil h))))) (tg_tup [2, 3] 2 rfl) (by decide)) ma_nil))))) mss_nil)
  (mss_cons (ms_if (PW.pt (mw_or (mt_cmp (o_isA false) op_isA (me_var 1 (pv 1)) (me_bl) (nomark _)) (mw_or1 (mt_cmp (o_isA false) op_isA (me_var 1 (pv 1)) (me_bl) (nomark _))))) (mss_one (ms_ret ((me_and (me_isi tst_bool_ok (.ty _) (me_var 0 (pv 0)) (pe_clsTy rfl T.b_bool (by first | boot_by_name | rfl | kernel_rfl)) rfl T.b_isinstance) (me_one (me_cmp o_eq (op_eqD (have h := u64 hr; h)) (me_var 0 (pv 0)) (me_var 1 (pv 1)) (nomark _))))))) mss_nil)
  (mss_one (ms_ret ((me_and (me_callM (ok__law_is_int T) hr (by omega) (takes_of rfl rfl rfl rfl) rfl (ma_arg (me_var 0 (pv 0)) ma_nil) (ml_arg (fun ρ vs ρ' h => ml_nil h))) (me_one (me_cmp o_eq (op_eqD (have h := u64 hr; h)) (me_var 0 (pv 0)) (me_var 1 (pv 1)) (nomark _))))))))))) hm F.kp (FunD.bindsN F fun _ _ _ _ _ _ us hl => match us, hl with | [_, _], _ => rfl)
abbrev s_compose : Stmt := top 15
theorem sc_compose : FnScope ["row", "move", "place"] ["row", "move"] (defScope s_compose) := ⟨rfl, rfl, rfl, by decide +kernel, rfl, by decide +kernel, by decide +kernel⟩
theorem ok_compose (T : Tx P K mg AA) : CalM P w K mg base 2 "compose" 2 [] m_compose := by
  obtain ⟨f, fd, F, hm⟩ := T.d_compose
  exact calM_of (m := mDef 3 [] b_compose) (def_ok (k := 1) F sc_compose (by decide) (fun cdv A outer s H E hr => (mss_one (ms_ret (me_callTy o_tupOf call_tupleF rfl T.b_tuple (by first | boot_by_name | rfl | kernel_rfl) (ma_cons (me_comp (own := [("place", 2)]) rfl sc_compose.nd (mi_seq (me_var 1 (pv 1))) (blkOk_by (N := ["row", "move", "place"]) (sc := defScope s_compose) (own := [("place", 2)]) (by decide +kernel)) (fun _ _ _ _ _ => pg_name (i := 2) sc_compose.nd rfl (by first | exact Or.inl rfl | exact Or.inr rfl)) (fun _ _ _ _ _ => mts_nil) (fun _ _ _ _ _ => (me_ix o_ix ix_seq (me_var 0 (pv 0)) (me_op o_sub op_sub (me_var 2 (pv 2)) (me_int)) (fun _ _ => rfl))) (tg_name 2) (by decide)) ma_nil)))))) hm F.kp (FunD.bindsN F fun _ _ _ _ _ _ us hl => match us, hl with | [_, _], _ => rfl)
abbrev s_is_integer : Stmt := top 9
theorem sc_is_integer : FnScope ["thing"] ["thing"] (defScope s_is_integer) := ⟨rfl, rfl, rfl, by decide +kernel, rfl, by decide +kernel, by decide +kernel⟩
theorem ok_is_integer (T : Tx P K mg AA) : CalM P w K mg base 2 "is_integer" 1 [] m_is_integer := by
  obtain ⟨f, fd, F, hm⟩ := T.d_is_integer
  exact calM_of (m := mDef 1 [] b_is_integer) (def_ok (k := 1) F sc_is_integer (by decide) (fun cdv A outer s H E hr => (mss_one (ms_ret ((me_and (me_isi tst_int_ok (.ty _) (me_var 0 (pv 0)) (pe_clsTy rfl T.b_int (by first | boot_by_name | rfl | kernel_rfl)) rfl T.b_isinstance) (me_one (me_not (me_isi tst_bool_ok (.ty _) (me_var 0 (pv 0)) (pe_clsTy rfl T.b_bool (by first | boot_by_name | rfl | kernel_rfl)) rfl T.b_isinstance))))))))) hm F.kp (FunD.bindsN F fun _ _ _ _ _ _ us hl => match us, hl with | [_], _ => rfl)
abbrev s_is_within : Stmt := top 10
theorem sc_is_within : FnScope ["thing", "low", "high"] ["thing", "low", "high"] (defScope s_is_within) := ⟨rfl, rfl, rfl, by decide +kernel, rfl, by decide +kernel, by decide +kernel⟩
theorem ok_is_within (T : Tx P K mg AA) : CalM P w K mg base 3 "is_within" 3 [] m_is_within := by
  obtain ⟨f, fd, F, hm⟩ := T.d_is_within
  exact calM_of (m := mDef 3 [] b_is_within) (def_ok (k := 2) F sc_is_within (by decide) (fun cdv A outer s H E hr => (mss_one (ms_ret ((me_and (me_callM (ok_is_integer T) hr (by omega) (takes_of rfl rfl rfl rfl) rfl (ma_arg (me_var 0 (pv 0)) ma_nil) (ml_arg (fun ρ vs ρ' h => ml_nil h))) (me_one (me_chain o_le o_le op_le op_le (me_var 1 (pv 1)) (me_var 0 (pv 0)) (me_var 2 (pv 2)))))))))) hm F.kp (FunD.bindsN F fun _ _ _ _ _ _ us hl => match us, hl with | [_, _, _], _ => rfl)
abbrev s_is_stage : Stmt := top 11
theorem sc_is_stage : FnScope ["thing"] ["thing"] (defScope s_is_stage) := ⟨rfl, rfl, rfl, by decide +kernel, rfl, by decide +kernel, by decide +kernel⟩
theorem ok_is_stage (T : Tx P K mg AA) : CalM P w K mg base 4 "is_stage" 1 [] m_is_stage := by
  obtain ⟨f, fd, F, hm⟩ := T.d_is_stage
  exact calM_of (m := mDef 1 [] b_is_stage) (def_ok (k := 3) F sc_is_stage (by decide) (fun cdv A outer s H E hr => (mss_one (ms_ret (me_callM (ok_is_within T) hr (by omega) (takes_of rfl rfl rfl rfl) rfl (ma_arg (me_var 0 (pv 0)) (ma_arg (x_glob (T.c_LEAST_STAGE) rfl (fun _ => .int _)) (ma_arg (x_glob (T.c_GREATEST_STAGE) rfl (fun _ => .int _)) ma_nil))) (ml_arg (ml_arg (ml_arg (fun ρ vs ρ' h => ml_nil h))))))))) hm F.kp (FunD.bindsN F fun _ _ _ _ _ _ us hl => match us, hl with | [_], _ => rfl)
abbrev s_is_tuple : Stmt := top 12
theorem sc_is_tuple : FnScope ["thing"] ["thing"] (defScope s_is_tuple) := ⟨rfl, rfl, rfl, by decide +kernel, rfl, by decide +kernel, by decide +kernel⟩
theorem ok_is_tuple (T : Tx P K mg AA) : CalM P w K mg base 2 "is_tuple" 1 [] m_is_tuple := by
  obtain ⟨f, fd, F, hm⟩ := T.d_is_tuple
  exact calM_of (m := mDef 1 [] b_is_tuple) (def_ok (k := 1) F sc_is_tuple (by decide) (fun cdv A outer s H E hr => (mss_one (ms_ret (me_isiT tst_tuple_list_ok (.cons (.ty _) (.cons (.ty _) .nil)) (by decide) (me_var 0 (pv 0)) (pa_cons (pe_clsTy rfl T.b_tuple (by first | boot_by_name | rfl | kernel_rfl)) (pa_cons (pe_clsTy rfl T.b_list (by first | boot_by_name | rfl | kernel_rfl)) pa_nil)) rfl T.b_isinstance))))) hm F.kp (FunD.bindsN F fun _ _ _ _ _ _ us hl => match us, hl with | [_], _ => rfl)
abbrev s_is_row : Stmt := top 19
theorem sc_is_row : FnScope ["thing", "stage", "bell"] ["thing", "stage"] (defScope s_is_row) := ⟨rfl, rfl, rfl, by decide +kernel, rfl, by decide +kernel, by decide +kernel⟩
theorem ok_is_row (T : Tx P K mg AA) : CalM P w K mg base 5 "is_row" 2 [] m_is_row := by
  obtain ⟨f, fd, F, hm⟩ := T.d_is_row
  exact calM_of (m := mDef 3 [] b_is_row) (def_ok (k := 4) F sc_is_row (by decide) (fun cdv A outer s H E hr => (mss_cons (ms_if (PW.pt (mw_or (mt_not (mt_val (me_callM (ok_is_stage T) hr (by omega) (takes_of rfl rfl rfl rfl) rfl (ma_arg (me_var 1 (pv 1)) ma_nil) (ml_arg (fun ρ vs ρ' h => ml_nil h))))) (mw_or (mt_not (mt_val (me_callM (ok_is_tuple T) hr (by omega) (takes_of rfl rfl rfl rfl) rfl (ma_arg (me_var 0 (pv 0)) ma_nil) (ml_arg (fun ρ vs ρ' h => ml_nil h))))) (mw_or1 (mt_cmp o_ne (op_neD (have h := u64 hr; h)) (me_callB o_len call_lenA rfl T.b_len (by first | boot_by_name | rfl | kernel_rfl) (ma_cons (me_var 0 (pv 0)) ma_nil)) (me_var 1 (pv 1)) (nomark _)))))) (mss_one (ms_ret (me_bl))) mss_nil)
  (mss_cons (ms_if (mt_not (mt_val (me_callB o_all (cr_all rfl) rfl T.b_all (by first | boot_by_name | rfl | kernel_rfl) (ma_cons (me_comp (own := [("bell", 2)]) rfl sc_is_row.nd (mi_seq (me_var 0 (pv 0))) (blkOk_by (N := ["thing", "stage", "bell"]) (sc := defScope s_is_row) (own := [("bell", 2)]) (by decide +kernel)) (fun _ _ _ _ _ => pg_name (i := 2) sc_is_row.nd rfl (by first | exact Or.inl rfl | exact Or.inr rfl)) (fun _ _ _ _ _ => mts_nil) (fun _ _ _ _ _ => (me_callM (ok_is_integer T) hr (by omega) takes_W0 rfl (ma_arg (me_var 2 (pv 2)) ma_nil) (ml_arg (fun ρ vs ρ' h => ml_nil h)))) (tg_name 2) (by decide)) ma_nil)))) (mss_one (ms_ret (me_bl))) mss_nil)
  (mss_one (ms_ret (me_cmp o_eq (op_eqD (have h := u64 hr; h)) (me_callBn o_sorted call_sortedA rfl T.b_sorted (by first | boot_by_name | rfl | kernel_rfl) (ma_cons (me_var 0 (pv 0)) ma_nil)) (me_lstRg2 rfl rfl T.b_list rfl T.b_range (me_int) (me_op o_add op_addA (me_var 1 (pv 1)) (me_int))) (nomark _)))))))) hm F.kp (FunD.bindsN F fun _ _ _ _ _ _ us hl => match us, hl with | [_, _], _ => rfl)
abbrev s_judge_row : Stmt := top 30
theorem sc_judge_row : FnScope ["row"] ["row"] (defScope s_judge_row) := ⟨rfl, rfl, rfl, by decide +kernel, rfl, by decide +kernel, by decide +kernel⟩
theorem ok_judge_row (T : Tx P K mg AA) : CalM P w K mg base 6 "judge_row" 1 [] m_judge_row := by
  obtain ⟨f, fd, F, hm⟩ := T.d_judge_row
  exact calM_of (m := mDef 1 [] b_judge_row) (def_ok (k := 5) F sc_judge_row (by decide) (fun cdv A outer s H E hr => (mss_one (ms_if (PW.pt (mw_or (mt_not (mt_val (me_callM (ok_is_tuple T) hr (by omega) (takes_of rfl rfl rfl rfl) rfl (ma_arg (me_var 0 (pv 0)) ma_nil) (ml_arg (fun ρ vs ρ' h => ml_nil h))))) (mw_or1 (mt_not (mt_val (me_callM (ok_is_row T) hr (by omega) (takes_of rfl rfl rfl rfl) rfl (ma_arg (me_var 0 (pv 0)) (ma_arg (me_callB o_len call_lenA rfl T.b_len (by first | boot_by_name | rfl | kernel_rfl) (ma_cons (me_var 0 (pv 0)) ma_nil)) ma_nil)) (ml_arg (ml_arg (fun ρ vs ρ' h => ml_nil h))))))))) (mss_one (x_raise (T.x_BadRow) fld_row rfl (takes_of rfl rfl rfl rfl) hr (ma_cons (me_var 0 (pv 0)) ma_nil) rfl)) mss_nil)))) hm F.kp (FunD.bindsN F fun _ _ _ _ _ _ us hl => match us, hl with | [_], _ => rfl)
abbrev s_judge_rows : Stmt := top 31
theorem sc_judge_rows : FnScope ["first", "second"] ["first", "second"] (defScope s_judge_rows) := ⟨rfl, rfl, rfl, by decide +kernel, rfl, by decide +kernel, by decide +kernel⟩
theorem ok_judge_rows (T : Tx P K mg AA) : CalM P w K mg base 7 "judge_rows" 2 [] m_judge_rows := by
  obtain ⟨f, fd, F, hm⟩ := T.d_judge_rows
  exact calM_of (m := mDef 2 [] b_judge_rows) (def_ok (k := 6) F sc_judge_rows (by decide) (fun cdv A outer s H E hr => (mss_cons (ms_expr (me_callM (ok_judge_row T) hr (by omega) (takes_of rfl rfl rfl rfl) rfl (ma_arg (me_var 0 (pv 0)) ma_nil) (ml_arg (fun ρ vs ρ' h => ml_nil h))))
  (mss_cons (ms_expr (me_callM (ok_judge_row T) hr (by omega) (takes_of rfl rfl rfl rfl) rfl (ma_arg (me_var 1 (pv 1)) ma_nil) (ml_arg (fun ρ vs ρ' h => ml_nil h))))
  (mss_one (ms_if (mt_cmp o_ne (op_neD (have h := u64 hr; h)) (me_callB o_len call_lenA rfl T.b_len (by first | boot_by_name | rfl | kernel_rfl) (ma_cons (me_var 0 (pv 0)) ma_nil)) (me_callB o_len call_lenA rfl T.b_len (by first | boot_by_name | rfl | kernel_rfl) (ma_cons (me_var 1 (pv 1)) ma_nil)) (nomark _)) (mss_one (x_raise (T.x_Unlike) fld_word rfl (takes_of rfl rfl rfl rfl) hr (ma_cons (me_str) ma_nil) rfl)) mss_nil)))))) hm F.kp (FunD.bindsN F fun _ _ _ _ _ _ us hl => match us, hl with | [_, _], _ => rfl)
abbrev s_moved : Stmt := top 21
theorem sc_moved : FnScope ["row", "move"] ["row", "move"] (defScope s_moved) := ⟨rfl, rfl, rfl, by decide +kernel, rfl, by decide +kernel, by decide +kernel⟩
theorem ok_moved (T : Tx P K mg AA) : CalM P w K mg base 8 "moved" 2 [] m_moved := by
  obtain ⟨f, fd, F, hm⟩ := T.d_moved
  exact calM_of (m := mDef 2 [] b_moved) (def_ok (k := 7) F sc_moved (by decide) (fun cdv A outer s H E hr => (mss_cons (ms_expr (me_callM (ok_judge_rows T) hr (by omega) (takes_of rfl rfl rfl rfl) rfl (ma_arg (me_var 0 (pv 0)) (ma_arg (me_var 1 (pv 1)) ma_nil)) (ml_arg (ml_arg (fun ρ vs ρ' h => ml_nil h)))))
  (mss_one (ms_ret (me_callM (ok_compose T) hr (by omega) (takes_of rfl rfl rfl rfl) rfl (ma_arg (me_var 0 (pv 0)) (ma_arg (me_var 1 (pv 1)) ma_nil)) (ml_arg (ml_arg (fun ρ vs ρ' h => ml_nil h))))))))) hm F.kp (FunD.bindsN F fun _ _ _ _ _ _ us hl => match us, hl with | [_, _], _ => rfl)
abbrev s_renamed : Stmt := top 24
theorem sc_renamed : FnScope ["row", "names"] ["row", "names"] (defScope s_renamed) := ⟨rfl, rfl, rfl, by decide +kernel, rfl, by decide +kernel, by decide +kernel⟩
theorem ok_renamed (T : Tx P K mg AA) : CalM P w K mg base 8 "renamed" 2 [] m_renamed := by
  obtain ⟨f, fd, F, hm⟩ := T.d_renamed
  exact calM_of (m := mDef 2 [] b_renamed) (def_ok (k := 7) F sc_renamed (by decide) (fun cdv A outer s H E hr => (mss_cons (ms_expr (me_callM (ok_judge_rows T) hr (by omega) (takes_of rfl rfl rfl rfl) rfl (ma_arg (me_var 0 (pv 0)) (ma_arg (me_var 1 (pv 1)) ma_nil)) (ml_arg (ml_arg (fun ρ vs ρ' h => ml_nil h)))))
  (mss_one (ms_ret (me_callM (ok_compose T) hr (by omega) (takes_of rfl rfl rfl rfl) rfl (ma_arg (me_var 1 (pv 1)) (ma_arg (me_var 0 (pv 0)) ma_nil)) (ml_arg (ml_arg (fun ρ vs ρ' h => ml_nil h))))))))) hm F.kp (FunD.bindsN F fun _ _ _ _ _ _ us hl => match us, hl with | [_, _], _ => rfl)
abbrev s_rounds_of : Stmt := top 14
theorem sc_rounds_of : FnScope ["stage"] ["stage"] (defScope s_rounds_of) := ⟨rfl, rfl, rfl, by decide +kernel, rfl, by decide +kernel, by decide +kernel⟩
theorem ok_rounds_of (T : Tx P K mg AA) : CalM P w K mg base 2 "rounds_of" 1 [] m_rounds_of := by
  obtain ⟨f, fd, F, hm⟩ := T.d_rounds_of
  exact calM_of (m := mDef 1 [] b_rounds_of) (def_ok (k := 1) F sc_rounds_of (by decide) (fun cdv A outer s H E hr => (mss_one (ms_ret (me_tupRg2 rfl rfl T.b_tuple rfl T.b_range (me_int) (me_op o_add op_addA (me_var 0 (pv 0)) (me_int))))))) hm F.kp (FunD.bindsN F fun _ _ _ _ _ _ us hl => match us, hl with | [_], _ => rfl)
abbrev s_rounds : Stmt := top 20
theorem sc_rounds : FnScope ["stage"] ["stage"] (defScope s_rounds) := ⟨rfl, rfl, rfl, by decide +kernel, rfl, by decide +kernel, by decide +kernel⟩
theorem ok_rounds (T : Tx P K mg AA) : CalM P w K mg base 5 "rounds" 1 [] m_rounds := by
  obtain ⟨f, fd, F, hm⟩ := T.d_rounds
  exact calM_of (m := mDef 1 [] b_rounds) (def_ok (k := 4) F sc_rounds (by decide) (fun cdv A outer s H E hr => (mss_cons (ms_if (mt_not (mt_val (me_callM (ok_is_stage T) hr (by omega) (takes_of rfl rfl rfl rfl) rfl (ma_arg (me_var 0 (pv 0)) ma_nil) (ml_arg (fun ρ vs ρ' h => ml_nil h))))) (mss_one (x_raise (T.x_BadStage) fld_stage rfl (takes_of rfl rfl rfl rfl) hr (ma_cons (me_var 0 (pv 0)) ma_nil) rfl)) mss_nil)
  (mss_one (ms_ret (me_callM (ok_rounds_of T) hr (by omega) (takes_of rfl rfl rfl rfl) rfl (ma_arg (me_var 0 (pv 0)) ma_nil) (ml_arg (fun ρ vs ρ' h => ml_nil h)))))))) hm F.kp (FunD.bindsN F fun _ _ _ _ _ _ us hl => match us, hl with | [_], _ => rfl)
abbrev s_step_between : Stmt := top 17
theorem sc_step_between : FnScope ["first", "second", "bell"] ["first", "second"] (defScope s_step_between) := ⟨rfl, rfl, rfl, by decide +kernel, rfl, by decide +kernel, by decide +kernel⟩
theorem ok_step_between (T : Tx P K mg AA) : CalM P w K mg base 2 "step_between" 2 [] m_step_between := by
  obtain ⟨f, fd, F, hm⟩ := T.d_step_between
  exact calM_of (m := mDef 3 [] b_step_between) (def_ok (k := 1) F sc_step_between (by decide) (fun cdv A outer s H E hr => (mss_one (ms_ret (me_callTy o_tupOf call_tupleF rfl T.b_tuple (by first | boot_by_name | rfl | kernel_rfl) (ma_cons (me_comp (own := [("bell", 2)]) rfl sc_step_between.nd (mi_seq (me_var 1 (pv 1))) (blkOk_by (N := ["first", "second", "bell"]) (sc := defScope s_step_between) (own := [("bell", 2)]) (by decide +kernel)) (fun _ _ _ _ _ => pg_name (i := 2) sc_step_between.nd rfl (by first | exact Or.inl rfl | exact Or.inr rfl)) (fun _ _ _ _ _ => mts_nil) (fun _ _ _ _ _ => (me_op o_add op_addA (me_index (me_var 0 (pv 0)) (me_var 2 (pv 2))) (me_int))) (tg_name 2) (by decide)) ma_nil)))))) hm F.kp (FunD.bindsN F fun _ _ _ _ _ _ us hl => match us, hl with | [_, _], _ => rfl)
abbrev s_step : Stmt := top 23
theorem sc_step : FnScope ["first", "second"] ["first", "second"] (defScope s_step) := ⟨rfl, rfl, rfl, by decide +kernel, rfl, by decide +kernel, by decide +kernel⟩
theorem ok_step (T : Tx P K mg AA) : CalM P w K mg base 8 "step" 2 [] m_step := by
  obtain ⟨f, fd, F, hm⟩ := T.d_step
  exact calM_of (m := mDef 2 [] b_step) (def_ok (k := 7) F sc_step (by decide) (fun cdv A outer s H E hr => (mss_cons (ms_expr (me_callM (ok_judge_rows T) hr (by omega) (takes_of rfl rfl rfl rfl) rfl (ma_arg (me_var 0 (pv 0)) (ma_arg (me_var 1 (pv 1)) ma_nil)) (ml_arg (ml_arg (fun ρ vs ρ' h => ml_nil h)))))
  (mss_one (ms_ret (me_callM (ok_step_between T) hr (by omega) (takes_of rfl rfl rfl rfl) rfl (ma_arg (me_var 0 (pv 0)) (ma_arg (me_var 1 (pv 1)) ma_nil)) (ml_arg (ml_arg (fun ρ vs ρ' h => ml_nil h))))))))) hm F.kp (FunD.bindsN F fun _ _ _ _ _ _ us hl => match us, hl with | [_, _], _ => rfl)
abbrev s_inverse : Stmt := top 16
theorem sc_inverse : FnScope ["move", "place"] ["move"] (defScope s_inverse) := ⟨rfl, rfl, rfl, by decide +kernel, rfl, by decide +kernel, by decide +kernel⟩
theorem ok_inverse (T : Tx P K mg AA) : CalM P w K mg base 2 "inverse" 1 [] m_inverse := by
  obtain ⟨f, fd, F, hm⟩ := T.d_inverse
  exact calM_of (m := mDef 2 [] b_inverse) (def_ok (k := 1) F sc_inverse (by decide) (fun cdv A outer s H E hr => (mss_one (ms_ret (me_callTy o_tupOf call_tupleF rfl T.b_tuple (by first | boot_by_name | rfl | kernel_rfl) (ma_cons (me_comp (own := [("place", 1)]) rfl sc_inverse.nd (x_rng2 rfl T.b_range (me_int) (me_op o_add op_addA (me_callB o_len call_lenA rfl T.b_len (by first | boot_by_name | rfl | kernel_rfl) (ma_cons (me_var 0 (pv 0)) ma_nil)) (me_int))) (blkOk_by (N := ["move", "place"]) (sc := defScope s_inverse) (own := [("place", 1)]) (by decide +kernel)) (fun _ _ _ _ _ => pg_name (i := 1) sc_inverse.nd rfl (by first | exact Or.inl rfl | exact Or.inr rfl)) (fun _ _ _ _ _ => mts_nil) (fun _ _ _ _ _ => (me_op o_add op_addA (me_index (me_var 0 (pv 0)) (me_var 1 (pv 1))) (me_int))) (tg_name 1) (by decide)) ma_nil)))))) hm F.kp (FunD.bindsN F fun _ _ _ _ _ _ us hl => match us, hl with | [_], _ => rfl)
abbrev s_undone : Stmt := top 22
theorem sc_undone : FnScope ["move"] ["move"] (defScope s_undone) := ⟨rfl, rfl, rfl, by decide +kernel, rfl, by decide +kernel, by decide +kernel⟩
theorem ok_undone (T : Tx P K mg AA) : CalM P w K mg base 7 "undone" 1 [] m_undone := by
  obtain ⟨f, fd, F, hm⟩ := T.d_undone
  exact calM_of (m := mDef 1 [] b_undone) (def_ok (k := 6) F sc_undone (by decide) (fun cdv A outer s H E hr => (mss_cons (ms_expr (me_callM (ok_judge_row T) hr (by omega) (takes_of rfl rfl rfl rfl) rfl (ma_arg (me_var 0 (pv 0)) ma_nil) (ml_arg (fun ρ vs ρ' h => ml_nil h))))
  (mss_one (ms_ret (me_callM (ok_inverse T) hr (by omega) (takes_of rfl rfl rfl rfl) rfl (ma_arg (me_var 0 (pv 0)) ma_nil) (ml_arg (fun ρ vs ρ' h => ml_nil h)))))))) hm F.kp (FunD.bindsN F fun _ _ _ _ _ _ us hl => match us, hl with | [_], _ => rfl)
abbrev s__law_moves_fit : Stmt := top 48
theorem sc__law_moves_fit : FnScope ["_law_draw_here", "_law_row_here", "_law_move", "_law_other", "_law_home", "_law_one", "_law_two", "_law_back", "_law_way", "_law_spot", "_law_bell"] ["_law_draw_here", "_law_row_here", "_law_move", "_law_other"] (defScope s__law_moves_fit) := ⟨rfl, rfl, rfl, by decide +kernel, rfl, by decide +kernel, by decide +kernel⟩
theorem ok__law_moves_fit (T : Tx P K mg AA) : CalM P w K mg base 9 "_law_moves_fit" 4 [0] m__law_moves_fit := by
  obtain ⟨f, fd, F, hm⟩ := T.d__law_moves_fit
  exact calM_of (m := mDef 11 [0] b__law_moves_fit) (def_ok (k := 8) F sc__law_moves_fit (by decide) (fun cdv A outer s H E hr => (mss_cons (ms_set (i := 4) sc__law_moves_fit.nd rfl (by first | exact Or.inl rfl | exact Or.inr rfl) (me_callM (ok_rounds T) hr (by omega) (takes_of rfl rfl rfl rfl) rfl (ma_arg (me_callB o_len call_lenA rfl T.b_len (by first | boot_by_name | rfl | kernel_rfl) (ma_cons (me_var 1 (pv 1)) ma_nil)) ma_nil) (ml_arg (fun ρ vs ρ' h => ml_nil h))))
  (mss_cons (ms_set (i := 5) sc__law_moves_fit.nd rfl (by first | exact Or.inl rfl | exact Or.inr rfl) (me_callM (ok__law_hand T) hr (by omega) (takes_of rfl rfl rfl rfl) rfl (ma_lend 0 (pv 0) (ma_arg (me_var 1 (pv 1)) ma_nil)) (ml_lend (ml_arg (fun ρ vs ρ' h => ml_nil h)))))
  (mss_cons (ms_set (i := 6) sc__law_moves_fit.nd rfl (by first | exact Or.inl rfl | exact Or.inr rfl) (me_callM (ok__law_hand T) hr (by omega) (takes_of rfl rfl rfl rfl) rfl (ma_lend 0 (pv 0) (ma_arg (me_var 2 (pv 2)) ma_nil)) (ml_lend (ml_arg (fun ρ vs ρ' h => ml_nil h)))))
  (mss_cons (ms_if (PW.pt (mw_or (mt_not (mt_val (me_callM (ok__law_same T 4) hr (by omega) (takes_of rfl rfl rfl rfl) rfl (ma_arg (me_var 4 (pv 4)) (ma_arg (me_callM (ok__law_rounds T) hr (by omega) (takes_of rfl rfl rfl rfl) rfl (ma_arg (me_callB o_len call_lenA rfl T.b_len (by first | boot_by_name | rfl | kernel_rfl) (ma_cons (me_var 1 (pv 1)) ma_nil)) ma_nil) (ml_arg (fun ρ vs ρ' h => ml_nil h))) ma_nil)) (ml_arg (ml_arg (fun ρ vs ρ' h => ml_nil h)))))) (mw_or1 (mt_cmp o_ne (op_neD (have h := u64 hr; h)) (me_callM (ok_moved T) hr (by omega) (takes_of rfl rfl rfl rfl) rfl (ma_arg (me_var 4 (pv 4)) (ma_arg (me_var 6 (pv 6)) ma_nil)) (ml_arg (ml_arg (fun ρ vs ρ' h => ml_nil h)))) (me_var 2 (pv 2)) (nomark _))))) (mss_one (ms_ret (me_bl))) mss_nil)
  (mss_cons (ms_if (mt_not (mt_val (me_callM (ok__law_same T 4) hr (by omega) (takes_of rfl rfl rfl rfl) rfl (ma_arg (me_callM (ok_moved T) hr (by omega) (takes_of rfl rfl rfl rfl) rfl (ma_arg (me_var 5 (pv 5)) (ma_arg (me_var 6 (pv 6)) ma_nil)) (ml_arg (ml_arg (fun ρ vs ρ' h => ml_nil h)))) (ma_arg (me_callTy o_tupOf call_tupleF rfl T.b_tuple (by first | boot_by_name | rfl | kernel_rfl) (ma_cons (me_comp (own := [("_law_spot", 9)]) rfl sc__law_moves_fit.nd (mi_seq (me_var 2 (pv 2))) (blkOk_by (N := ["_law_draw_here", "_law_row_here", "_law_move", "_law_other", "_law_home", "_law_one", "_law_two", "_law_back", "_law_way", "_law_spot", "_law_bell"]) (sc := defScope s__law_moves_fit) (own := [("_law_spot", 9)]) (by decide +kernel)) (fun _ _ _ _ _ => pg_name (i := 9) sc__law_moves_fit.nd rfl (by first | exact Or.inl rfl | exact Or.inr rfl)) (fun _ _ _ _ _ => mts_nil) (fun _ _ _ _ _ => (me_ix o_ix ix_seq (me_var 1 (pv 1)) (me_op o_sub op_sub (me_var 9 (pv 9)) (me_int)) (fun _ _ => rfl))) (tg_name 9) (by decide)) ma_nil)) ma_nil)) (ml_arg (ml_arg (fun ρ vs ρ' h => ml_nil h)))))) (mss_one (ms_ret (me_bl))) mss_nil)
  (mss_cons (ms_if (mt_not (mt_val (me_callM (ok__law_same T 4) hr (by omega) (takes_of rfl rfl rfl rfl) rfl (ma_arg (me_callM (ok_renamed T) hr (by omega) (takes_of rfl rfl rfl rfl) rfl (ma_arg (me_var 5 (pv 5)) (ma_arg (me_var 6 (pv 6)) ma_nil)) (ml_arg (ml_arg (fun ρ vs ρ' h => ml_nil h)))) (ma_arg (me_callTy o_tupOf call_tupleF rfl T.b_tuple (by first | boot_by_name | rfl | kernel_rfl) (ma_cons (me_comp (own := [("_law_bell", 10)]) rfl sc__law_moves_fit.nd (mi_seq (me_var 1 (pv 1))) (blkOk_by (N := ["_law_draw_here", "_law_row_here", "_law_move", "_law_other", "_law_home", "_law_one", "_law_two", "_law_back", "_law_way", "_law_spot", "_law_bell"]) (sc := defScope s__law_moves_fit) (own := [("_law_bell", 10)]) (by decide +kernel)) (fun _ _ _ _ _ => pg_name (i := 10) sc__law_moves_fit.nd rfl (by first | exact Or.inl rfl | exact Or.inr rfl)) (fun _ _ _ _ _ => mts_nil) (fun _ _ _ _ _ => (me_ix o_ix ix_seq (me_var 2 (pv 2)) (me_op o_sub op_sub (me_var 10 (pv 10)) (me_int)) (fun _ _ => rfl))) (tg_name 10) (by decide)) ma_nil)) ma_nil)) (ml_arg (ml_arg (fun ρ vs ρ' h => ml_nil h)))))) (mss_one (ms_ret (me_bl))) mss_nil)
  (mss_cons (ms_if (PW.pt (mw_or (mt_cmp o_ne (op_neD (have h := u64 hr; h)) (me_callM (ok_moved T) hr (by omega) (takes_of rfl rfl rfl rfl) rfl (ma_arg (me_callM (ok_moved T) hr (by omega) (takes_of rfl rfl rfl rfl) rfl (ma_arg (me_var 5 (pv 5)) (ma_arg (me_var 6 (pv 6)) ma_nil)) (ml_arg (ml_arg (fun ρ vs ρ' h => ml_nil h)))) (ma_arg (me_var 3 (pv 3)) ma_nil)) (ml_arg (ml_arg (fun ρ vs ρ' h => ml_nil h)))) (me_callM (ok_moved T) hr (by omega) (takes_of rfl rfl rfl rfl) rfl (ma_arg (me_var 1 (pv 1)) (ma_arg (me_callM (ok_moved T) hr (by omega) (takes_of rfl rfl rfl rfl) rfl (ma_arg (me_var 2 (pv 2)) (ma_arg (me_var 3 (pv 3)) ma_nil)) (ml_arg (ml_arg (fun ρ vs ρ' h => ml_nil h)))) ma_nil)) (ml_arg (ml_arg (fun ρ vs ρ' h => ml_nil h)))) (nomark _)) (mw_or1 (mt_cmp o_ne (op_neD (have h := u64 hr; h)) (me_callM (ok_renamed T) hr (by omega) (takes_of rfl rfl rfl rfl) rfl (ma_arg (me_var 5 (pv 5)) (ma_arg (me_var 6 (pv 6)) ma_nil)) (ml_arg (ml_arg (fun ρ vs ρ' h => ml_nil h)))) (me_callM (ok_moved T) hr (by omega) (takes_of rfl rfl rfl rfl) rfl (ma_arg (me_var 6 (pv 6)) (ma_arg (me_var 5 (pv 5)) ma_nil)) (ml_arg (ml_arg (fun ρ vs ρ' h => ml_nil h)))) (nomark _))))) (mss_one (ms_ret (me_bl))) mss_nil)
  (mss_cons (ms_if (mt_cmp o_ne (op_neD (have h := u64 hr; h)) (me_callM (ok_renamed T) hr (by omega) (takes_of rfl rfl rfl rfl) rfl (ma_arg (me_callM (ok_moved T) hr (by omega) (takes_of rfl rfl rfl rfl) rfl (ma_arg (me_var 1 (pv 1)) (ma_arg (me_var 3 (pv 3)) ma_nil)) (ml_arg (ml_arg (fun ρ vs ρ' h => ml_nil h)))) (ma_arg (me_var 6 (pv 6)) ma_nil)) (ml_arg (ml_arg (fun ρ vs ρ' h => ml_nil h)))) (me_callM (ok_moved T) hr (by omega) (takes_of rfl rfl rfl rfl) rfl (ma_arg (me_callM (ok_renamed T) hr (by omega) (takes_of rfl rfl rfl rfl) rfl (ma_arg (me_var 5 (pv 5)) (ma_arg (me_var 2 (pv 2)) ma_nil)) (ml_arg (ml_arg (fun ρ vs ρ' h => ml_nil h)))) (ma_arg (me_var 3 (pv 3)) ma_nil)) (ml_arg (ml_arg (fun ρ vs ρ' h => ml_nil h)))) (nomark _)) (mss_one (ms_ret (me_bl))) mss_nil)
  (mss_cons (ms_set (i := 7) sc__law_moves_fit.nd rfl (by first | exact Or.inl rfl | exact Or.inr rfl) (me_callM (ok_undone T) hr (by omega) (takes_of rfl rfl rfl rfl) rfl (ma_arg (me_var 6 (pv 6)) ma_nil) (ml_arg (fun ρ vs ρ' h => ml_nil h))))
  (mss_cons (ms_if (mt_not (mt_val (me_callM (ok__law_same T 4) hr (by omega) (takes_of rfl rfl rfl rfl) rfl (ma_arg (me_var 7 (pv 7)) (ma_arg (me_callTy o_tupOf call_tupleF rfl T.b_tuple (by first | boot_by_name | rfl | kernel_rfl) (ma_cons (me_comp (own := [("_law_spot", 9)]) rfl sc__law_moves_fit.nd (mi_seq (me_var 4 (pv 4))) (blkOk_by (N := ["_law_draw_here", "_law_row_here", "_law_move", "_law_other", "_law_home", "_law_one", "_law_two", "_law_back", "_law_way", "_law_spot", "_law_bell"]) (sc := defScope s__law_moves_fit) (own := [("_law_spot", 9)]) (by decide +kernel)) (fun _ _ _ _ _ => pg_name (i := 9) sc__law_moves_fit.nd rfl (by first | exact Or.inl rfl | exact Or.inr rfl)) (fun _ _ _ _ _ => mts_nil) (fun _ _ _ _ _ => (me_op o_add op_addA (me_index (me_var 2 (pv 2)) (me_var 9 (pv 9))) (me_int))) (tg_name 9) (by decide)) ma_nil)) ma_nil)) (ml_arg (ml_arg (fun ρ vs ρ' h => ml_nil h)))))) (mss_one (ms_ret (me_bl))) mss_nil)
  (mss_cons (ms_if (PW.pt (mw_or (mt_cmp o_ne (op_neD (have h := u64 hr; h)) (me_callM (ok_moved T) hr (by omega) (takes_of rfl rfl rfl rfl) rfl (ma_arg (me_var 6 (pv 6)) (ma_arg (me_var 7 (pv 7)) ma_nil)) (ml_arg (ml_arg (fun ρ vs ρ' h => ml_nil h)))) (me_var 4 (pv 4)) (nomark _)) (mw_or (mt_cmp o_ne (op_neD (have h := u64 hr; h)) (me_callM (ok_moved T) hr (by omega) (takes_of rfl rfl rfl rfl) rfl (ma_arg (me_var 7 (pv 7)) (ma_arg (me_var 2 (pv 2)) ma_nil)) (ml_arg (ml_arg (fun ρ vs ρ' h => ml_nil h)))) (me_var 4 (pv 4)) (nomark _)) (mw_or1 (mt_cmp o_ne (op_neD (have h := u64 hr; h)) (me_callM (ok_undone T) hr (by omega) (takes_of rfl rfl rfl rfl) rfl (ma_arg (me_var 7 (pv 7)) ma_nil) (ml_arg (fun ρ vs ρ' h => ml_nil h))) (me_var 2 (pv 2)) (nomark _)))))) (mss_one (ms_ret (me_bl))) mss_nil)
  (mss_cons (ms_set (i := 8) sc__law_moves_fit.nd rfl (by first | exact Or.inl rfl | exact Or.inr rfl) (me_callM (ok_step T) hr (by omega) (takes_of rfl rfl rfl rfl) rfl (ma_arg (me_var 5 (pv 5)) (ma_arg (me_var 6 (pv 6)) ma_nil)) (ml_arg (ml_arg (fun ρ vs ρ' h => ml_nil h)))))
  (mss_cons (ms_if (PW.pt (mw_or (mt_not (mt_val (me_callM (ok__law_same T 4) hr (by omega) (takes_of rfl rfl rfl rfl) rfl (ma_arg (me_var 8 (pv 8)) (ma_arg (me_callTy o_tupOf call_tupleF rfl T.b_tuple (by first | boot_by_name | rfl | kernel_rfl) (ma_cons (me_comp (own := [("_law_bell", 10)]) rfl sc__law_moves_fit.nd (mi_seq (me_var 2 (pv 2))) (blkOk_by (N := ["_law_draw_here", "_law_row_here", "_law_move", "_law_other", "_law_home", "_law_one", "_law_two", "_law_back", "_law_way", "_law_spot", "_law_bell"]) (sc := defScope s__law_moves_fit) (own := [("_law_bell", 10)]) (by decide +kernel)) (fun _ _ _ _ _ => pg_name (i := 10) sc__law_moves_fit.nd rfl (by first | exact Or.inl rfl | exact Or.inr rfl)) (fun _ _ _ _ _ => mts_nil) (fun _ _ _ _ _ => (me_op o_add op_addA (me_index (me_var 1 (pv 1)) (me_var 10 (pv 10))) (me_int))) (tg_name 10) (by decide)) ma_nil)) ma_nil)) (ml_arg (ml_arg (fun ρ vs ρ' h => ml_nil h)))))) (mw_or1 (mt_cmp o_ne (op_neD (have h := u64 hr; h)) (me_callM (ok_moved T) hr (by omega) (takes_of rfl rfl rfl rfl) rfl (ma_arg (me_var 1 (pv 1)) (ma_arg (me_var 8 (pv 8)) ma_nil)) (ml_arg (ml_arg (fun ρ vs ρ' h => ml_nil h)))) (me_var 2 (pv 2)) (nomark _))))) (mss_one (ms_ret (me_bl))) mss_nil)
  (mss_one (ms_ret ((me_and (me_cmp o_eq (op_eqD (have h := u64 hr; h)) (me_callM (ok__law_listed T 3) hr (by omega) (takes_of rfl rfl rfl rfl) rfl (ma_arg (me_var 5 (pv 5)) ma_nil) (ml_arg (fun ρ vs ρ' h => ml_nil h))) (me_callTyn o_listOf call_list_of rfl T.b_list (by first | boot_by_name | rfl | kernel_rfl) (ma_cons (me_var 1 (pv 1)) ma_nil)) (nomark _)) (me_one (me_cmp o_eq (op_eqD (have h := u64 hr; h)) (me_callM (ok__law_listed T 3) hr (by omega) (takes_of rfl rfl rfl rfl) rfl (ma_arg (me_var 6 (pv 6)) ma_nil) (ml_arg (fun ρ vs ρ' h => ml_nil h))) (me_callTyn o_listOf call_list_of rfl T.b_list (by first | boot_by_name | rfl | kernel_rfl) (ma_cons (me_var 2 (pv 2)) ma_nil)) (nomark _)))))))))))))))))))))) hm F.kp (FunD.bindsN F fun _ _ _ _ _ _ us hl => match us, hl with | [_, _, _, _], _ => rfl)
abbrev s__law_bad_row : Stmt := top 45
theorem sc__law_bad_row : FnScope ["_law_draw_here", "_law_row_here", "_law_stage", "_law_at", "_law_kind", "_law_entries", "_law_bad", "_law_whole", "_law_bell"] ["_law_draw_here", "_law_row_here"] (defScope s__law_bad_row) := ⟨rfl, rfl, rfl, by decide +kernel, rfl, by decide +kernel, by decide +kernel⟩
theorem ok__law_bad_row (T : Tx P K mg AA) : CalM P w K mg base 4 "_law_bad_row" 2 [0] m__law_bad_row := by
  obtain ⟨f, fd, F, hm⟩ := T.d__law_bad_row
  exact calM_of (m := mDef 9 [0] b__law_bad_row) (def_ok (k := 3) F sc__law_bad_row (by decide) (fun cdv A outer s H E hr => (mss_cons (ms_set (i := 2) sc__law_bad_row.nd rfl (by first | exact Or.inl rfl | exact Or.inr rfl) (me_callB o_len call_lenA rfl T.b_len (by first | boot_by_name | rfl | kernel_rfl) (ma_cons (me_var 1 (pv 1)) ma_nil)))
  (mss_cons (ms_set (i := 3) sc__law_bad_row.nd rfl (by first | exact Or.inl rfl | exact Or.inr rfl) (me_callM (ok__law_pick T) hr (by omega) (takes_of rfl rfl rfl rfl) rfl (ma_lend 0 (pv 0) (ma_arg (me_var 2 (pv 2)) ma_nil)) (ml_lend (ml_arg (fun ρ vs ρ' h => ml_nil h)))))
  (mss_cons (ms_set (i := 4) sc__law_bad_row.nd rfl (by first | exact Or.inl rfl | exact Or.inr rfl) (me_callM (ok__law_pick T) hr (by omega) (takes_of rfl rfl rfl rfl) rfl (ma_lend 0 (pv 0) (ma_arg (me_int) ma_nil)) (ml_lend (ml_arg (fun ρ vs ρ' h => ml_nil h)))))
  (mss_cons (ms_set (i := 5) sc__law_bad_row.nd rfl (by first | exact Or.inl rfl | exact Or.inr rfl) (me_lst (ma_cons (me_ix o_ix ix_seq (me_var 1 (pv 1)) (me_op o_sub op_sub (me_var 3 (pv 3)) (me_int)) (fun _ _ => rfl)) (ma_cons (me_int) (ma_cons (me_op o_add op_addA (me_var 2 (pv 2)) (me_int)) (ma_cons (me_un o_neg un_neg (me_ix o_ix ix_seq (me_var 1 (pv 1)) (me_var 3 (pv 3)) (fun _ _ => rfl))) (ma_cons (me_callTy o_str call_str_int rfl T.b_str (by first | boot_by_name | rfl | kernel_rfl) (ma_cons (me_ix o_ix ix_seq (me_var 1 (pv 1)) (me_var 3 (pv 3)) (fun _ _ => rfl)) ma_nil)) (ma_cons (me_non) (ma_cons (me_tup (ma_cons (me_ix o_ix ix_seq (me_var 1 (pv 1)) (me_var 3 (pv 3)) (fun _ _ => rfl)) ma_nil)) ma_nil)))))))))
  (mss_cons (ms_if (mt_cmp o_lt op_lt (me_var 4 (pv 4)) (me_int) (nomark _)) (mss_one (ms_set (i := 6) sc__law_bad_row.nd rfl (by first | exact Or.inl rfl | exact Or.inr rfl) (me_op o_add op_addA (me_op o_add op_addA (me_slice (me_var 1 (pv 1)) mo_none (mo_some (me_var 3 (pv 3)))) (me_tup (ma_cons (me_ix o_ix ix_seq (me_var 5 (pv 5)) (me_var 4 (pv 4)) (fun _ _ => rfl)) ma_nil))) (me_slice (me_var 1 (pv 1)) (mo_some (me_op o_add op_addA (me_var 3 (pv 3)) (me_int))) mo_none)))) (mss_one (ms_if (mt_cmp o_eq (op_eqD (have h := u64 hr; h)) (me_var 4 (pv 4)) (me_int) (nomark _)) (mss_one (ms_set (i := 6) sc__law_bad_row.nd rfl (by first | exact Or.inl rfl | exact Or.inr rfl) (me_callTy o_tupOf call_tupleF rfl T.b_tuple (by first | boot_by_name | rfl | kernel_rfl) (ma_cons (me_comp (own := [("_law_bell", 8)]) rfl sc__law_bad_row.nd (mi_seq (me_var 1 (pv 1))) (blkOk_by (N := ["_law_draw_here", "_law_row_here", "_law_stage", "_law_at", "_law_kind", "_law_entries", "_law_bad", "_law_whole", "_law_bell"]) (sc := defScope s__law_bad_row) (own := [("_law_bell", 8)]) (by decide +kernel)) (fun _ _ _ _ _ => pg_name (i := 8) sc__law_bad_row.nd rfl (by first | exact Or.inl rfl | exact Or.inr rfl)) (fun _ _ _ _ _ => mts_one (mt_cmp o_gt op_gt (me_var 8 (pv 8)) (me_int) (nomark _))) (fun _ _ _ _ _ => (me_var 8 (pv 8))) (tg_name 8) (by decide)) ma_nil)))) (mss_one (ms_if (mt_cmp o_eq (op_eqD (have h := u64 hr; h)) (me_var 4 (pv 4)) (me_int) (nomark _)) (mss_one (ms_set (i := 6) sc__law_bad_row.nd rfl (by first | exact Or.inl rfl | exact Or.inr rfl) (me_op o_add op_addA (me_var 1 (pv 1)) (me_tup (ma_cons (me_ix o_ix ix_seq (me_var 1 (pv 1)) (me_var 3 (pv 3)) (fun _ _ => rfl)) ma_nil))))) (mss_one (ms_if (mt_cmp o_eq (op_eqD (have h := u64 hr; h)) (me_var 4 (pv 4)) (me_int) (nomark _)) (mss_one (ms_set (i := 6) sc__law_bad_row.nd rfl (by first | exact Or.inl rfl | exact Or.inr rfl) (me_callTy o_tupOf call_tupleF rfl T.b_tuple (by first | boot_by_name | rfl | kernel_rfl) (ma_cons (me_comp (own := [("_law_bell", 8)]) rfl sc__law_bad_row.nd (mi_seq (me_var 1 (pv 1))) (blkOk_by (N := ["_law_draw_here", "_law_row_here", "_law_stage", "_law_at", "_law_kind", "_law_entries", "_law_bad", "_law_whole", "_law_bell"]) (sc := defScope s__law_bad_row) (own := [("_law_bell", 8)]) (by decide +kernel)) (fun _ _ _ _ _ => pg_name (i := 8) sc__law_bad_row.nd rfl (by first | exact Or.inl rfl | exact Or.inr rfl)) (fun _ _ _ _ _ => mts_nil) (fun _ _ _ _ _ => (me_ix o_ix ix_seq (me_lst (ma_cons (me_bl) (ma_cons (me_var 8 (pv 8)) ma_nil))) (me_callTy o_int call_int1 rfl T.b_int (by first | boot_by_name | rfl | kernel_rfl) (ma_cons (me_cmp o_gt op_gt (me_var 8 (pv 8)) (me_int) (nomark _)) ma_nil)) (fun _ _ => rfl))) (tg_name 8) (by decide)) ma_nil)))) (mss_cons (ms_set (i := 7) sc__law_bad_row.nd rfl (by first | exact Or.inl rfl | exact Or.inr rfl) (me_lst (ma_cons (me_tup (ma_cons (me_int) (ma_cons (me_int) ma_nil))) (ma_cons (me_tup (ma_cons (me_int) (ma_cons (me_int) (ma_cons (me_int) (ma_cons (me_int) (ma_cons (me_int) (ma_cons (me_int) (ma_cons (me_int) (ma_cons (me_int) (ma_cons (me_int) ma_nil)))))))))) (ma_cons (me_str) (ma_cons (me_non) (ma_cons (me_int) (ma_cons (me_tup ma_nil) (ma_cons (me_bl) (ma_cons (me_str) (ma_cons (me_un o_neg un_neg (me_int)) ma_nil)))))))))))
  (mss_one (ms_ret (me_ix o_ix ix_seq (me_var 7 (pv 7)) (me_callM (ok__law_pick T) hr (by omega) (takes_of rfl rfl rfl rfl) rfl (ma_lend 0 (pv 0) (ma_arg (me_int) ma_nil)) (ml_lend (ml_arg (fun ρ vs ρ' h => ml_nil h)))) (fun _ _ => rfl))))))))))))
  (mss_cons (ms_if (mt_cmp o_eq (op_eqD (have h := u64 hr; h)) (me_callM (ok__law_pick T) hr (by omega) (takes_of rfl rfl rfl rfl) rfl (ma_lend 0 (pv 0) (ma_arg (me_int) ma_nil)) (ml_lend (ml_arg (fun ρ vs ρ' h => ml_nil h)))) (me_int) (nomark _)) (mss_one (ms_ret (me_callTyn o_listOf call_list_of rfl T.b_list (by first | boot_by_name | rfl | kernel_rfl) (ma_cons (me_var 6 (pv 6)) ma_nil)))) mss_nil)
  (mss_one (ms_ret (me_var 6 (pv 6)))))))))))) hm F.kp (FunD.bindsN F fun _ _ _ _ _ _ us hl => match us, hl with | [_, _], _ => rfl)
abbrev s_cycle_from : Stmt := top 29
theorem sc_cycle_from : FnScope ["onward", "least", "cycle", "member"] ["onward", "least"] (defScope s_cycle_from) := ⟨rfl, rfl, rfl, by decide +kernel, rfl, by decide +kernel, by decide +kernel⟩
theorem ok_cycle_from (T : Tx P K mg AA) : CalM P w K mg base 2 "cycle_from" 2 [] m_cycle_from := by
  obtain ⟨f, fd, F, hm⟩ := T.d_cycle_from
  exact calM_of (m := mDef 4 [] b_cycle_from) (def_ok (k := 1) F sc_cycle_from (by decide) (fun cdv A outer s H E hr => (mss_cons (ms_set (i := 2) sc_cycle_from.nd rfl (by first | exact Or.inl rfl | exact Or.inr rfl) (me_lst (ma_cons (me_var 1 (pv 1)) ma_nil)))
  (mss_cons (ms_set (i := 3) sc_cycle_from.nd rfl (by first | exact Or.inl rfl | exact Or.inr rfl) (me_ix o_ix ix_seq (me_var 0 (pv 0)) (me_op o_sub op_sub (me_var 1 (pv 1)) (me_int)) (fun _ _ => rfl)))
  (mss_cons (ms_while (passes_of rfl) (mt_cmp o_ne (op_neD (have h := u64 hr; h)) (me_var 3 (pv 3)) (me_var 1 (pv 1)) (nomark _)) (mss_cons (ms_expr (x_append (s := 2) (pv 2) (me_var 3 (pv 3))))
  (mss_one (ms_set (i := 3) sc_cycle_from.nd rfl (by first | exact Or.inl rfl | exact Or.inr rfl) (me_ix o_ix ix_seq (me_var 0 (pv 0)) (me_op o_sub op_sub (me_var 3 (pv 3)) (me_int)) (fun _ _ => rfl))))))
  (mss_one (ms_ret (me_callTy o_tupOf call_tupleF rfl T.b_tuple (by first | boot_by_name | rfl | kernel_rfl) (ma_cons (me_var 2 (pv 2)) ma_nil))))))))) hm F.kp (FunD.bindsN F fun _ _ _ _ _ _ us hl => match us, hl with | [_, _], _ => rfl)
abbrev s_cycles : Stmt := top 28
theorem sc_cycles : FnScope ["move", "onward", "seen", "found", "least", "cycle", "member"] ["move"] (defScope s_cycles) := ⟨rfl, rfl, rfl, by decide +kernel, rfl, by decide +kernel, by decide +kernel⟩
theorem ok_cycles (T : Tx P K mg AA) : CalM P w K mg base 7 "cycles" 1 [] m_cycles := by
  obtain ⟨f, fd, F, hm⟩ := T.d_cycles
  exact calM_of (m := mDef 7 [] b_cycles) (def_ok (k := 6) F sc_cycles (by decide) (fun cdv A outer s H E hr => (mss_cons (ms_expr (me_callM (ok_judge_row T) hr (by omega) (takes_of rfl rfl rfl rfl) rfl (ma_arg (me_var 0 (pv 0)) ma_nil) (ml_arg (fun ρ vs ρ' h => ml_nil h))))
  (mss_cons (ms_set (i := 1) sc_cycles.nd rfl (by first | exact Or.inl rfl | exact Or.inr rfl) (me_callM (ok_inverse T) hr (by omega) (takes_of rfl rfl rfl rfl) rfl (ma_arg (me_var 0 (pv 0)) ma_nil) (ml_arg (fun ρ vs ρ' h => ml_nil h))))
  (mss_cons (ms_set (i := 2) sc_cycles.nd rfl (by first | exact Or.inl rfl | exact Or.inr rfl) (me_dkNew))
  (mss_cons (ms_set (i := 3) sc_cycles.nd rfl (by first | exact Or.inl rfl | exact Or.inr rfl) (me_lst ma_nil))
  (mss_cons (ms_for (is := [4]) (passes_of rfl) rfl (x_rng2 rfl T.b_range (me_int) (me_op o_add op_addA (me_callB o_len call_lenA rfl T.b_len (by first | boot_by_name | rfl | kernel_rfl) (ma_cons (me_var 0 (pv 0)) ma_nil)) (me_int))) (pg_name (i := 4) sc_cycles.nd rfl (by first | exact Or.inl rfl | exact Or.inr rfl)) (tg_name 4) (mss_one (ms_if (mt_cmp (o_or o_notIn (o_dkIn true)) (op_notIn_seq.or (op_dkNotIn (have h := u1 hr; h))) (me_var 4 (pv 4)) (me_var 2 (pv 2)) rfl) (mss_cons (ms_set (i := 5) sc_cycles.nd rfl (by first | exact Or.inl rfl | exact Or.inr rfl) (me_callM (ok_cycle_from T) hr (by omega) (takes_of rfl rfl rfl rfl) rfl (ma_arg (me_var 1 (pv 1)) (ma_arg (me_var 4 (pv 4)) ma_nil)) (ml_arg (ml_arg (fun ρ vs ρ' h => ml_nil h)))))
  (mss_cons (ms_expr (x_append (s := 3) (pv 3) (me_var 5 (pv 5))))
  (mss_one (ms_for (is := [6]) (passes_of rfl) rfl (mi_seq (me_var 5 (pv 5))) (pg_name (i := 6) sc_cycles.nd rfl (by first | exact Or.inl rfl | exact Or.inr rfl)) (tg_name 6) (mss_one (ms_put (have h := u1 hr; h) (pv 2) (me_var 6 (pv 6)) (me_bl))))))) mss_nil)))
  (mss_one (ms_ret (me_callTy o_tupOf call_tupleF rfl T.b_tuple (by first | boot_by_name | rfl | kernel_rfl) (ma_cons (me_var 3 (pv 3)) ma_nil))))))))))) hm F.kp (FunD.bindsN F fun _ _ _ _ _ _ us hl => match us, hl with | [_], _ => rfl)
abbrev s_is_even : Stmt := top 26
theorem sc_is_even : FnScope ["row", "swapped", "at", "bell", "later"] ["row"] (defScope s_is_even) := ⟨rfl, rfl, rfl, by decide +kernel, rfl, by decide +kernel, by decide +kernel⟩
theorem ok_is_even (T : Tx P K mg AA) : CalM P w K mg base 7 "is_even" 1 [] m_is_even := by
  obtain ⟨f, fd, F, hm⟩ := T.d_is_even
  exact calM_of (m := mDef 5 [] b_is_even) (def_ok (k := 6) F sc_is_even (by decide) (fun cdv A outer s H E hr => (mss_cons (ms_expr (me_callM (ok_judge_row T) hr (by omega) (takes_of rfl rfl rfl rfl) rfl (ma_arg (me_var 0 (pv 0)) ma_nil) (ml_arg (fun ρ vs ρ' h => ml_nil h))))
  (mss_cons (ms_setComp2 (own := [("at", 2), ("bell", 3), ("later", 4)]) (i := 1) rfl sc_is_even.nd rfl rfl rfl (mi_enum rfl T.b_enumerate (me_var 0 (pv 0))) (blkOk_by (N := ["row", "swapped", "at", "bell", "later"]) (sc := defScope s_is_even) (own := [("at", 2), ("bell", 3), ("later", 4)]) (by decide +kernel)) (vs1 := [4]) (by decide) (fun _ _ _ _ _ => pg_tup rfl (pgs_cons (pg_name (i := 2) sc_is_even.nd rfl (by first | exact Or.inl rfl | exact Or.inr rfl)) (pgs_cons (pg_name (i := 3) sc_is_even.nd rfl (by first | exact Or.inl rfl | exact Or.inr rfl)) pgs_nil))) (fun _ _ _ _ _ => mts_nil) (fun _ _ _ _ _ => mi_seq (me_slice (me_var 0 (pv 0)) (mo_some (me_op o_add op_addA (me_var 2 (pv 2)) (me_int))) mo_none)) (fun _ _ _ _ _ => pg_name (i := 4) sc_is_even.nd rfl (by first | exact Or.inl rfl | exact Or.inr rfl)) (fun _ _ _ _ _ => mts_one (mt_cmp o_lt op_lt (me_var 4 (pv 4)) (me_var 3 (pv 3)) (nomark _))) (fun _ _ _ _ _ => (me_int)) (tg_tup [2, 3] 2 rfl) (by decide) (tg_name 4) (by decide))
  (mss_one (ms_ret (me_cmp o_eq (op_eqD (have h := u64 hr; h)) (me_op o_mod op_mod (me_callB o_len call_lenA rfl T.b_len (by first | boot_by_name | rfl | kernel_rfl) (ma_cons (me_var 1 (pv 1)) ma_nil)) (me_int)) (me_int) (nomark _)))))))) hm F.kp (FunD.bindsN F fun _ _ _ _ _ _ us hl => match us, hl with | [_], _ => rfl)
abbrev s_order : Stmt := top 25
theorem sc_order : FnScope ["move", "start", "times", "row"] ["move"] (defScope s_order) := ⟨rfl, rfl, rfl, by decide +kernel, rfl, by decide +kernel, by decide +kernel⟩
theorem ok_order (T : Tx P K mg AA) : CalM P w K mg base 7 "order" 1 [] m_order := by
  obtain ⟨f, fd, F, hm⟩ := T.d_order
  exact calM_of (m := mDef 4 [] b_order) (def_ok (k := 6) F sc_order (by decide) (fun cdv A outer s H E hr => (mss_cons (ms_expr (me_callM (ok_judge_row T) hr (by omega) (takes_of rfl rfl rfl rfl) rfl (ma_arg (me_var 0 (pv 0)) ma_nil) (ml_arg (fun ρ vs ρ' h => ml_nil h))))
  (mss_cons (ms_set (i := 1) sc_order.nd rfl (by first | exact Or.inl rfl | exact Or.inr rfl) (me_callM (ok_rounds_of T) hr (by omega) (takes_of rfl rfl rfl rfl) rfl (ma_arg (me_callB o_len call_lenA rfl T.b_len (by first | boot_by_name | rfl | kernel_rfl) (ma_cons (me_var 0 (pv 0)) ma_nil)) ma_nil) (ml_arg (fun ρ vs ρ' h => ml_nil h))))
  (mss_cons (ms_set (i := 2) sc_order.nd rfl (by first | exact Or.inl rfl | exact Or.inr rfl) (me_int))
  (mss_cons (ms_set (i := 3) sc_order.nd rfl (by first | exact Or.inl rfl | exact Or.inr rfl) (me_callTy o_tupOf call_tupleF rfl T.b_tuple (by first | boot_by_name | rfl | kernel_rfl) (ma_cons (me_var 0 (pv 0)) ma_nil)))
  (mss_cons (ms_while (passes_of rfl) (mt_cmp o_ne (op_neD (have h := u64 hr; h)) (me_var 3 (pv 3)) (me_var 1 (pv 1)) (nomark _)) (mss_cons (ms_set (i := 3) sc_order.nd rfl (by first | exact Or.inl rfl | exact Or.inr rfl) (me_callM (ok_compose T) hr (by omega) (takes_of rfl rfl rfl rfl) rfl (ma_arg (me_var 3 (pv 3)) (ma_arg (me_var 0 (pv 0)) ma_nil)) (ml_arg (ml_arg (fun ρ vs ρ' h => ml_nil h)))))
  (mss_one (ms_aug (i := 2) o_addX sc_order.nd rfl (by first | exact Or.inl rfl | exact Or.inr rfl) (me_int) ip_add))))
  (mss_one (ms_ret (me_var 2 (pv 2))))))))))) hm F.kp (FunD.bindsN F fun _ _ _ _ _ _ us hl => match us, hl with | [_], _ => rfl)
abbrev s_place : Stmt := top 27
theorem sc_place : FnScope ["row", "bell"] ["row", "bell"] (defScope s_place) := ⟨rfl, rfl, rfl, by decide +kernel, rfl, by decide +kernel, by decide +kernel⟩
theorem ok_place (T : Tx P K mg AA) : CalM P w K mg base 7 "place" 2 [] m_place := by
  obtain ⟨f, fd, F, hm⟩ := T.d_place
  exact calM_of (m := mDef 2 [] b_place) (def_ok (k := 6) F sc_place (by decide) (fun cdv A outer s H E hr => (mss_cons (ms_expr (me_callM (ok_judge_row T) hr (by omega) (takes_of rfl rfl rfl rfl) rfl (ma_arg (me_var 0 (pv 0)) ma_nil) (ml_arg (fun ρ vs ρ' h => ml_nil h))))
  (mss_cons (ms_if (mt_not (mt_val (me_callM (ok_is_within T) hr (by omega) (takes_of rfl rfl rfl rfl) rfl (ma_arg (me_var 1 (pv 1)) (ma_arg (me_int) (ma_arg (me_callB o_len call_lenA rfl T.b_len (by first | boot_by_name | rfl | kernel_rfl) (ma_cons (me_var 0 (pv 0)) ma_nil)) ma_nil))) (ml_arg (ml_arg (ml_arg (fun ρ vs ρ' h => ml_nil h))))))) (mss_one (x_raise (T.x_BadBell) fld_bell rfl (takes_of rfl rfl rfl rfl) hr (ma_cons (me_var 1 (pv 1)) ma_nil) rfl)) mss_nil)
  (mss_one (ms_ret (me_op o_add op_addA (me_index (me_var 0 (pv 0)) (me_var 1 (pv 1))) (me_int)))))))) hm F.kp (FunD.bindsN F fun _ _ _ _ _ _ us hl => match us, hl with | [_, _], _ => rfl)
abbrev s__law_call : Stmt := top 46
theorem sc__law_call : FnScope ["_law_number", "_law_first", "_law_second_here"] ["_law_number", "_law_first", "_law_second_here"] (defScope s__law_call) := ⟨rfl, rfl, rfl, by decide +kernel, rfl, by decide +kernel, by decide +kernel⟩
theorem ok__law_call (T : Tx P K mg AA) : CalM P w K mg base 9 "_law_call" 3 [] m__law_call := by
  obtain ⟨f, fd, F, hm⟩ := T.d__law_call
  exact calM_of (m := mDef 3 [] b__law_call) (def_ok (k := 8) F sc__law_call (by decide) (fun cdv A outer s H E hr => (mss_cons (ms_if (mt_cmp o_eq (op_eqD (have h := u64 hr; h)) (me_var 0 (pv 0)) (me_int) (nomark _)) (mss_one (ms_ret (me_callM (ok_moved T) hr (by omega) (takes_of rfl rfl rfl rfl) rfl (ma_arg (me_var 1 (pv 1)) (ma_arg (me_var 2 (pv 2)) ma_nil)) (ml_arg (ml_arg (fun ρ vs ρ' h => ml_nil h)))))) mss_nil)
  (mss_cons (ms_if (mt_cmp o_eq (op_eqD (have h := u64 hr; h)) (me_var 0 (pv 0)) (me_int) (nomark _)) (mss_one (ms_ret (me_callM (ok_step T) hr (by omega) (takes_of rfl rfl rfl rfl) rfl (ma_arg (me_var 1 (pv 1)) (ma_arg (me_var 2 (pv 2)) ma_nil)) (ml_arg (ml_arg (fun ρ vs ρ' h => ml_nil h)))))) mss_nil)
  (mss_cons (ms_if (mt_cmp o_eq (op_eqD (have h := u64 hr; h)) (me_var 0 (pv 0)) (me_int) (nomark _)) (mss_one (ms_ret (me_callM (ok_renamed T) hr (by omega) (takes_of rfl rfl rfl rfl) rfl (ma_arg (me_var 1 (pv 1)) (ma_arg (me_var 2 (pv 2)) ma_nil)) (ml_arg (ml_arg (fun ρ vs ρ' h => ml_nil h)))))) mss_nil)
  (mss_cons (ms_if (mt_cmp o_eq (op_eqD (have h := u64 hr; h)) (me_var 0 (pv 0)) (me_int) (nomark _)) (mss_one (ms_ret (me_callM (ok_undone T) hr (by omega) (takes_of rfl rfl rfl rfl) rfl (ma_arg (me_var 1 (pv 1)) ma_nil) (ml_arg (fun ρ vs ρ' h => ml_nil h))))) mss_nil)
  (mss_cons (ms_if (mt_cmp o_eq (op_eqD (have h := u64 hr; h)) (me_var 0 (pv 0)) (me_int) (nomark _)) (mss_one (ms_ret (me_callM (ok_order T) hr (by omega) (takes_of rfl rfl rfl rfl) rfl (ma_arg (me_var 1 (pv 1)) ma_nil) (ml_arg (fun ρ vs ρ' h => ml_nil h))))) mss_nil)
  (mss_cons (ms_if (mt_cmp o_eq (op_eqD (have h := u64 hr; h)) (me_var 0 (pv 0)) (me_int) (nomark _)) (mss_one (ms_ret (me_callM (ok_is_even T) hr (by omega) (takes_of rfl rfl rfl rfl) rfl (ma_arg (me_var 1 (pv 1)) ma_nil) (ml_arg (fun ρ vs ρ' h => ml_nil h))))) mss_nil)
  (mss_cons (ms_if (mt_cmp o_eq (op_eqD (have h := u64 hr; h)) (me_var 0 (pv 0)) (me_int) (nomark _)) (mss_one (ms_ret (me_callM (ok_cycles T) hr (by omega) (takes_of rfl rfl rfl rfl) rfl (ma_arg (me_var 1 (pv 1)) ma_nil) (ml_arg (fun ρ vs ρ' h => ml_nil h))))) mss_nil)
  (mss_one (ms_ret (me_callM (ok_place T) hr (by omega) (takes_of rfl rfl rfl rfl) rfl (ma_arg (me_var 1 (pv 1)) (ma_arg (me_var 2 (pv 2)) ma_nil)) (ml_arg (ml_arg (fun ρ vs ρ' h => ml_nil h))))))))))))))) hm F.kp (FunD.bindsN F fun _ _ _ _ _ _ us hl => match us, hl with | [_, _, _], _ => rfl)
theorem su__law_refusal_par (k : Ck) (x : Xc) (ρ : En) (h : x.c = k.c) : mSuite 3 su__law_refusal k x ρ = mSuite 3 su__law_refusal ⟨0, 0, x.c⟩ x ρ := by
  refine suite_par h fun fs => ?_
  unfold su__law_refusal
  repeat' first
    | exact par_isE | exact par_xf | exact par_c | exact par_var (by decide) | exact par_nil | exact par_next
    | refine par_cons ?_ ?_ | refine par_lst ?_ | refine par_tup ?_ | refine par_op ?_ ?_ | refine par_cb ?_ | refine par_tst ?_ | refine par_not ?_ | refine par_and ?_ ?_ | refine par_or ?_ ?_
    | refine par_ifs ?_ ?_ ?_ | refine par_drop ?_ | refine par_ret ?_ | refine par_seq ?_ ?_
abbrev s__law_refusal : Stmt := top 47
theorem sc__law_refusal : FnScope ["_law_number", "_law_first", "_law_second_here", "caught"] ["_law_number", "_law_first", "_law_second_here"] (defScope s__law_refusal) := ⟨rfl, rfl, rfl, by decide +kernel, rfl, by decide +kernel, by decide +kernel⟩
theorem ok__law_refusal (T : Tx P K mg AA) : CalM P w K mg base 10 "_law_refusal" 3 [] m__law_refusal := by
  obtain ⟨f, fd, F, hm⟩ := T.d__law_refusal
  exact calM_of (m := mDef 4 [] b__law_refusal) (def_ok (k := 9) F sc__law_refusal (by decide) (fun cdv A outer s H E hr => (mss_cons (ms_try (i := 3) rfl rfl sc__law_refusal.nd rfl rfl ⟨rfl, by decide, .inl T.cls.r⟩ (takes_of rfl rfl rfl rfl) T.cls.cat su__law_refusal_par (fun W' pn xe tk pw => (mss_one (ms_expr (me_callM (ok__law_call T) hr (by omega) tk rfl (ma_arg (me_var 0 (pv 0)) (ma_arg (me_var 1 (pv 1)) (ma_arg (me_var 2 (pv 2)) ma_nil))) (ml_arg (ml_arg (ml_arg (fun ρ vs ρ' h => ml_nil h)))))))) (fun k C oe pn hC hz hf => (mss_cons (ms_if (mt_val (me_isE (T.cls.isT ["BadStage"] (by decide)) hC hz hf (.own _) (me_var 3 (pv 3)) (pe_clsOwn rfl (T.g_BadStage)) rfl T.b_isinstance)) (mss_one (ms_ret (me_lst (ma_cons (me_str) (ma_cons (me_non) ma_nil))))) mss_nil)
  (mss_cons (ms_if (mt_val (me_isE (T.cls.isT ["BadRow"] (by decide)) hC hz hf (.own _) (me_var 3 (pv 3)) (pe_clsOwn rfl (T.g_BadRow)) rfl T.b_isinstance)) (mss_one (ms_ret (me_lst (ma_cons (me_ix o_ix ix_seq (me_lst (ma_cons (me_str) (ma_cons (me_str) ma_nil))) (me_callTy o_int call_int1 rfl T.b_int (by first | boot_by_name | rfl | kernel_rfl) (ma_cons (me_isET (T.cls.isT ["Unlike", "BadBell"] (by decide)) hC hz hf (.cons (.own _) (.cons (.own _) .nil)) (by unfold BIG; exact Nat.le_of_ble_eq_true rfl) (me_var 3 (pv 3)) (pa_cons (pe_clsOwn rfl (T.g_Unlike)) (pa_cons (pe_clsOwn rfl (T.g_BadBell)) pa_nil)) rfl T.b_isinstance) ma_nil)) (fun _ _ => rfl)) (ma_cons (me_xf T.cls.xf hC hz hf (me_var 3 (pv 3))) ma_nil))))) mss_nil)
  (mss_cons (ms_if (mt_val (me_isE (T.cls.isT ["Unlike"] (by decide)) hC hz hf (.own _) (me_var 3 (pv 3)) (pe_clsOwn rfl (T.g_Unlike)) rfl T.b_isinstance)) (mss_one (ms_ret (me_lst (ma_cons (me_ix o_ix ix_seq (me_lst (ma_cons (me_str) (ma_cons (me_str) ma_nil))) (me_callTy o_int call_int1 rfl T.b_int (by first | boot_by_name | rfl | kernel_rfl) (ma_cons (me_isE (T.cls.isT ["BadBell"] (by decide)) hC hz hf (.own _) (me_var 3 (pv 3)) (pe_clsOwn rfl (T.g_BadBell)) rfl T.b_isinstance) ma_nil)) (fun _ _ => rfl)) (ma_cons (me_xf T.cls.xf hC hz hf (me_var 3 (pv 3))) ma_nil))))) mss_nil)
  (mss_cons (ms_if (mt_val (me_isE (T.cls.isT ["BadBell"] (by decide)) hC hz hf (.own _) (me_var 3 (pv 3)) (pe_clsOwn rfl (T.g_BadBell)) rfl T.b_isinstance)) (mss_one (ms_ret (me_lst (ma_cons (me_str) (ma_cons (me_xf T.cls.xf hC hz hf (me_var 3 (pv 3))) ma_nil))))) mss_nil)
  (mss_one (ms_ret (me_lst (ma_cons (me_str) (ma_cons (me_non) ma_nil)))))))))))
  (mss_one (ms_ret (me_lst ma_nil)))))) hm F.kp (FunD.bindsN F fun _ _ _ _ _ _ us hl => match us, hl with | [_, _, _], _ => rfl)
abbrev s__law_row : Stmt := top 39
theorem sc__law_row : FnScope ["_law_draw_here", "_law_stage", "_law_left", "_law_out", "_law_turn", "_law_bell"] ["_law_draw_here", "_law_stage"] (defScope s__law_row) := ⟨rfl, rfl, rfl, by decide +kernel, rfl, by decide +kernel, by decide +kernel⟩
theorem ok__law_row (T : Tx P K mg AA) : CalM P w K mg base 4 "_law_row" 2 [0] m__law_row := by
  obtain ⟨f, fd, F, hm⟩ := T.d__law_row
  exact calM_of (m := mDef 6 [0] b__law_row) (def_ok (k := 3) F sc__law_row (by decide) (fun cdv A outer s H E hr => (mss_cons (ms_setComp (own := [("_law_bell", 5)]) (i := 2) rfl sc__law_row.nd rfl rfl rfl (x_rng2 rfl T.b_range (me_int) (me_op o_add op_addA (me_var 1 (pv 1)) (me_int))) (blkOk_by (N := ["_law_draw_here", "_law_stage", "_law_left", "_law_out", "_law_turn", "_law_bell"]) (sc := defScope s__law_row) (own := [("_law_bell", 5)]) (by decide +kernel)) (fun _ _ _ _ _ => pg_name (i := 5) sc__law_row.nd rfl (by first | exact Or.inl rfl | exact Or.inr rfl)) (fun _ _ _ _ _ => mts_nil) (fun _ _ _ _ _ => (me_var 5 (pv 5))) (tg_name 5) (by decide))
  (mss_cons (ms_set (i := 3) sc__law_row.nd rfl (by first | exact Or.inl rfl | exact Or.inr rfl) (me_lst ma_nil))
  (mss_cons (ms_for (is := [4]) (passes_of rfl) rfl (x_rng1 rfl T.b_range (me_var 1 (pv 1))) (pg_name (i := 4) sc__law_row.nd rfl (by first | exact Or.inl rfl | exact Or.inr rfl)) (tg_name 4) (mss_one (ms_expr (x_append (s := 3) (pv 3) (x_popAt (s := 2) (pv 2) (me_callM (ok__law_pick T) hr (by omega) (takes_of rfl rfl rfl rfl) rfl (ma_lend 0 (pv 0) (ma_arg (me_callB o_len call_lenA rfl T.b_len (by first | boot_by_name | rfl | kernel_rfl) (ma_cons (me_var 2 (pv 2)) ma_nil)) ma_nil)) (ml_lend (ml_arg (fun ρ vs ρ' h => ml_nil h)))))))))
  (mss_one (ms_ret (me_callTy o_tupOf call_tupleF rfl T.b_tuple (by first | boot_by_name | rfl | kernel_rfl) (ma_cons (me_var 3 (pv 3)) ma_nil))))))))) hm F.kp (FunD.bindsN F fun _ _ _ _ _ _ us hl => match us, hl with | [_, _], _ => rfl)
abbrev s__law_refusals_fit : Stmt := top 53
theorem sc__law_refusals_fit : FnScope ["_law_draw_here", "_law_row_here", "_law_move", "_law_bad", "_law_worse", "_law_other", "_law_number", "_law_wrong"] ["_law_draw_here", "_law_row_here", "_law_move"] (defScope s__law_refusals_fit) := ⟨rfl, rfl, rfl, by decide +kernel, rfl, by decide +kernel, by decide +kernel⟩
theorem ok__law_refusals_fit (T : Tx P K mg AA) : CalM P w K mg base 11 "_law_refusals_fit" 3 [0] m__law_refusals_fit := by
  obtain ⟨f, fd, F, hm⟩ := T.d__law_refusals_fit
  exact calM_of (m := mDef 8 [0] b__law_refusals_fit) (def_ok (k := 10) F sc__law_refusals_fit (by decide) (fun cdv A outer s H E hr => (mss_cons (ms_set (i := 3) sc__law_refusals_fit.nd rfl (by first | exact Or.inl rfl | exact Or.inr rfl) (me_callM (ok__law_bad_row T) hr (by omega) (takes_of rfl rfl rfl rfl) rfl (ma_lend 0 (pv 0) (ma_arg (me_var 1 (pv 1)) ma_nil)) (ml_lend (ml_arg (fun ρ vs ρ' h => ml_nil h)))))
  (mss_cons (ms_set (i := 4) sc__law_refusals_fit.nd rfl (by first | exact Or.inl rfl | exact Or.inr rfl) (me_callM (ok__law_bad_row T) hr (by omega) (takes_of rfl rfl rfl rfl) rfl (ma_lend 0 (pv 0) (ma_arg (me_var 2 (pv 2)) ma_nil)) (ml_lend (ml_arg (fun ρ vs ρ' h => ml_nil h)))))
  (mss_cons (ms_set (i := 5) sc__law_refusals_fit.nd rfl (by first | exact Or.inl rfl | exact Or.inr rfl) (me_callM (ok__law_row T) hr (by omega) (takes_of rfl rfl rfl rfl) rfl (ma_lend 0 (pv 0) (ma_arg (me_op o_add op_addA (me_int) (me_op o_mod op_mod (me_callTy o_int call_int1 rfl T.b_int (by first | boot_by_name | rfl | kernel_rfl) (ma_cons (me_op o_add op_addA (me_op o_sub op_sub (me_callB o_len call_lenA rfl T.b_len (by first | boot_by_name | rfl | kernel_rfl) (ma_cons (me_var 1 (pv 1)) ma_nil)) (me_int)) (me_callM (ok__law_pick T) hr (by omega) (takes_of rfl rfl rfl rfl) rfl (ma_lend 0 (pv 0) (ma_arg (me_int) ma_nil)) (ml_lend (ml_arg (fun ρ vs ρ' h => ml_nil h))))) ma_nil)) (me_int))) ma_nil)) (ml_lend (ml_arg (fun ρ vs ρ' h => ml_nil h)))))
  (mss_cons (ms_for (is := [6]) (passes_of rfl) rfl (x_rng1 rfl T.b_range (me_int)) (pg_name (i := 6) sc__law_refusals_fit.nd rfl (by first | exact Or.inl rfl | exact Or.inr rfl)) (tg_name 6) (mss_cons (ms_if (PW.pt (mw_or (mt_cmp o_ne (op_neD (have h := u64 hr; h)) (me_callM (ok__law_refusal T) hr (by omega) (takes_of rfl rfl rfl rfl) rfl (ma_arg (me_var 6 (pv 6)) (ma_arg (me_var 3 (pv 3)) (ma_arg (me_var 4 (pv 4)) ma_nil))) (ml_arg (ml_arg (ml_arg (fun ρ vs ρ' h => ml_nil h))))) (me_lst (ma_cons (me_str) (ma_cons (me_var 3 (pv 3)) ma_nil))) (nomark _)) (mw_or1 (mt_cmp o_ne (op_neD (have h := u64 hr; h)) (me_callM (ok__law_refusal T) hr (by omega) (takes_of rfl rfl rfl rfl) rfl (ma_arg (me_var 6 (pv 6)) (ma_arg (me_var 1 (pv 1)) (ma_arg (me_var 4 (pv 4)) ma_nil))) (ml_arg (ml_arg (ml_arg (fun ρ vs ρ' h => ml_nil h))))) (me_lst (ma_cons (me_str) (ma_cons (me_var 4 (pv 4)) ma_nil))) (nomark _))))) (mss_one (ms_ret (me_bl))) mss_nil)
  (mss_cons (ms_if (PW.pt (mw_or (mt_cmp o_ne (op_neD (have h := u64 hr; h)) (me_callM (ok__law_refusal T) hr (by omega) (takes_of rfl rfl rfl rfl) rfl (ma_arg (me_var 6 (pv 6)) (ma_arg (me_var 3 (pv 3)) (ma_arg (me_var 5 (pv 5)) ma_nil))) (ml_arg (ml_arg (ml_arg (fun ρ vs ρ' h => ml_nil h))))) (me_lst (ma_cons (me_str) (ma_cons (me_var 3 (pv 3)) ma_nil))) (nomark _)) (mw_or1 (mt_cmp o_ne (op_neD (have h := u64 hr; h)) (me_callM (ok__law_refusal T) hr (by omega) (takes_of rfl rfl rfl rfl) rfl (ma_arg (me_var 6 (pv 6)) (ma_arg (me_var 3 (pv 3)) (ma_arg (me_var 2 (pv 2)) ma_nil))) (ml_arg (ml_arg (ml_arg (fun ρ vs ρ' h => ml_nil h))))) (me_lst (ma_cons (me_str) (ma_cons (me_var 3 (pv 3)) ma_nil))) (nomark _))))) (mss_one (ms_ret (me_bl))) mss_nil)
  (mss_one (ms_if (PW.pt (mw_or (mt_cmp o_ne (op_neD (have h := u64 hr; h)) (me_callM (ok__law_refusal T) hr (by omega) (takes_of rfl rfl rfl rfl) rfl (ma_arg (me_var 6 (pv 6)) (ma_arg (me_var 1 (pv 1)) (ma_arg (me_var 5 (pv 5)) ma_nil))) (ml_arg (ml_arg (ml_arg (fun ρ vs ρ' h => ml_nil h))))) (me_lst (ma_cons (me_str) (ma_cons (me_str) ma_nil))) (nomark _)) (mw_or1 (mt_cmp o_ne (op_neD (have h := u64 hr; h)) (me_callM (ok__law_refusal T) hr (by omega) (takes_of rfl rfl rfl rfl) rfl (ma_arg (me_var 6 (pv 6)) (ma_arg (me_var 1 (pv 1)) (ma_arg (me_callTyn o_listOf call_list_of rfl T.b_list (by first | boot_by_name | rfl | kernel_rfl) (ma_cons (me_var 2 (pv 2)) ma_nil)) ma_nil))) (ml_arg (ml_arg (ml_arg (fun ρ vs ρ' h => ml_nil h))))) (me_lst ma_nil) (nomark _))))) (mss_one (ms_ret (me_bl))) mss_nil)))))
  (mss_cons (ms_for (is := [6]) (passes_of rfl) rfl (x_rng2 rfl T.b_range (me_int) (me_int)) (pg_name (i := 6) sc__law_refusals_fit.nd rfl (by first | exact Or.inl rfl | exact Or.inr rfl)) (tg_name 6) (mss_one (ms_if (PW.pt (mw_or (mt_cmp o_ne (op_neD (have h := u64 hr; h)) (me_callM (ok__law_refusal T) hr (by omega) (takes_of rfl rfl rfl rfl) rfl (ma_arg (me_var 6 (pv 6)) (ma_arg (me_var 3 (pv 3)) (ma_arg (me_int) ma_nil))) (ml_arg (ml_arg (ml_arg (fun ρ vs ρ' h => ml_nil h))))) (me_lst (ma_cons (me_str) (ma_cons (me_var 3 (pv 3)) ma_nil))) (nomark _)) (mw_or1 (mt_cmp o_ne (op_neD (have h := u64 hr; h)) (me_callM (ok__law_refusal T) hr (by omega) (takes_of rfl rfl rfl rfl) rfl (ma_arg (me_var 6 (pv 6)) (ma_arg (me_callTyn o_listOf call_list_of rfl T.b_list (by first | boot_by_name | rfl | kernel_rfl) (ma_cons (me_var 5 (pv 5)) ma_nil)) (ma_arg (me_int) ma_nil))) (ml_arg (ml_arg (ml_arg (fun ρ vs ρ' h => ml_nil h))))) (me_lst ma_nil) (nomark _))))) (mss_one (ms_ret (me_bl))) mss_nil)))
  (mss_cons (ms_set (i := 7) sc__law_refusals_fit.nd rfl (by first | exact Or.inl rfl | exact Or.inr rfl) (me_ix o_ix ix_seq (me_lst (ma_cons (me_int) (ma_cons (me_op o_add op_addA (me_callB o_len call_lenA rfl T.b_len (by first | boot_by_name | rfl | kernel_rfl) (ma_cons (me_var 1 (pv 1)) ma_nil)) (me_int)) (ma_cons (me_bl) (ma_cons (me_non) (ma_cons (me_str) (ma_cons (me_un o_neg un_neg (me_int)) (ma_cons (me_tup (ma_cons (me_int) ma_nil)) (ma_cons (me_op o_pow op_powW (me_int) (me_int)) ma_nil))))))))) (me_callM (ok__law_pick T) hr (by omega) (takes_of rfl rfl rfl rfl) rfl (ma_lend 0 (pv 0) (ma_arg (me_int) ma_nil)) (ml_lend (ml_arg (fun ρ vs ρ' h => ml_nil h)))) (fun _ _ => rfl)))
  (mss_cons (ms_if (PW.pt (mw_or (mt_cmp o_ne (op_neD (have h := u64 hr; h)) (me_callM (ok__law_refusal T) hr (by omega) (takes_of rfl rfl rfl rfl) rfl (ma_arg (me_int) (ma_arg (me_var 3 (pv 3)) (ma_arg (me_var 7 (pv 7)) ma_nil))) (ml_arg (ml_arg (ml_arg (fun ρ vs ρ' h => ml_nil h))))) (me_lst (ma_cons (me_str) (ma_cons (me_var 3 (pv 3)) ma_nil))) (nomark _)) (mw_or1 (mt_cmp o_ne (op_neD (have h := u64 hr; h)) (me_callM (ok__law_refusal T) hr (by omega) (takes_of rfl rfl rfl rfl) rfl (ma_arg (me_int) (ma_arg (me_var 1 (pv 1)) (ma_arg (me_var 7 (pv 7)) ma_nil))) (ml_arg (ml_arg (ml_arg (fun ρ vs ρ' h => ml_nil h))))) (me_lst (ma_cons (me_str) (ma_cons (me_var 7 (pv 7)) ma_nil))) (nomark _))))) (mss_one (ms_ret (me_bl))) mss_nil)
  (mss_cons (ms_if (PW.pt (mw_or (mt_cmp o_ne (op_neD (have h := u64 hr; h)) (me_callM (ok__law_refusal T) hr (by omega) (takes_of rfl rfl rfl rfl) rfl (ma_arg (me_int) (ma_arg (me_var 1 (pv 1)) (ma_arg (me_callB o_len call_lenA rfl T.b_len (by first | boot_by_name | rfl | kernel_rfl) (ma_cons (me_var 1 (pv 1)) ma_nil)) ma_nil))) (ml_arg (ml_arg (ml_arg (fun ρ vs ρ' h => ml_nil h))))) (me_lst ma_nil) (nomark _)) (mw_or1 (mt_cmp (o_isA true) op_notA (me_callM (ok_is_row T) hr (by omega) (takes_of rfl rfl rfl rfl) rfl (ma_arg (me_var 3 (pv 3)) (ma_arg (me_callB o_len call_lenA rfl T.b_len (by first | boot_by_name | rfl | kernel_rfl) (ma_cons (me_var 1 (pv 1)) ma_nil)) ma_nil)) (ml_arg (ml_arg (fun ρ vs ρ' h => ml_nil h)))) (me_bl) (nomark _))))) (mss_one (ms_ret (me_bl))) mss_nil)
  (mss_cons (ms_if (PW.pt (mw_or (mt_cmp (o_isA true) op_notA (me_callM (ok_is_row T) hr (by omega) (takes_of rfl rfl rfl rfl) rfl (ma_arg (me_var 1 (pv 1)) (ma_arg (me_callB o_len call_lenA rfl T.b_len (by first | boot_by_name | rfl | kernel_rfl) (ma_cons (me_var 1 (pv 1)) ma_nil)) ma_nil)) (ml_arg (ml_arg (fun ρ vs ρ' h => ml_nil h)))) (me_bl) (nomark _)) (mw_or1 (mt_cmp (o_isA true) op_notA (me_callM (ok_is_row T) hr (by omega) (takes_of rfl rfl rfl rfl) rfl (ma_arg (me_callTyn o_listOf call_list_of rfl T.b_list (by first | boot_by_name | rfl | kernel_rfl) (ma_cons (me_var 2 (pv 2)) ma_nil)) (ma_arg (me_callB o_len call_lenA rfl T.b_len (by first | boot_by_name | rfl | kernel_rfl) (ma_cons (me_var 1 (pv 1)) ma_nil)) ma_nil)) (ml_arg (ml_arg (fun ρ vs ρ' h => ml_nil h)))) (me_bl) (nomark _))))) (mss_one (ms_ret (me_bl))) mss_nil)
  (mss_one (ms_ret ((me_and (me_cmp (o_isA false) op_isA (me_callM (ok_is_row T) hr (by omega) (takes_of rfl rfl rfl rfl) rfl (ma_arg (me_var 5 (pv 5)) (ma_arg (me_callB o_len call_lenA rfl T.b_len (by first | boot_by_name | rfl | kernel_rfl) (ma_cons (me_var 1 (pv 1)) ma_nil)) ma_nil)) (ml_arg (ml_arg (fun ρ vs ρ' h => ml_nil h)))) (me_bl) (nomark _)) (me_one (me_cmp (o_isA false) op_isA (me_callM (ok_is_row T) hr (by omega) (takes_of rfl rfl rfl rfl) rfl (ma_arg (me_var 5 (pv 5)) (ma_arg (me_callB o_len call_lenA rfl T.b_len (by first | boot_by_name | rfl | kernel_rfl) (ma_cons (me_var 5 (pv 5)) ma_nil)) ma_nil)) (ml_arg (ml_arg (fun ρ vs ρ' h => ml_nil h)))) (me_bl) (nomark _)))))))))))))))))) hm F.kp (FunD.bindsN F fun _ _ _ _ _ _ us hl => match us, hl with | [_, _, _], _ => rfl)
abbrev s__law_undone : Stmt := top 38
theorem sc__law_undone : FnScope ["_law_move", "_law_out", "_law_spot", "_law_bell"] ["_law_move"] (defScope s__law_undone) := ⟨rfl, rfl, rfl, by decide +kernel, rfl, by decide +kernel, by decide +kernel⟩
theorem ok__law_undone (T : Tx P K mg AA) : CalM P w K mg base 2 "_law_undone" 1 [] m__law_undone := by
  obtain ⟨f, fd, F, hm⟩ := T.d__law_undone
  exact calM_of (m := mDef 4 [] b__law_undone) (def_ok (k := 1) F sc__law_undone (by decide) (fun cdv A outer s H E hr => (mss_cons (ms_setComp (own := [("_law_bell", 3)]) (i := 1) rfl sc__law_undone.nd rfl rfl rfl (mi_seq (me_var 0 (pv 0))) (blkOk_by (N := ["_law_move", "_law_out", "_law_spot", "_law_bell"]) (sc := defScope s__law_undone) (own := [("_law_bell", 3)]) (by decide +kernel)) (fun _ _ _ _ _ => pg_name (i := 3) sc__law_undone.nd rfl (by first | exact Or.inl rfl | exact Or.inr rfl)) (fun _ _ _ _ _ => mts_nil) (fun _ _ _ _ _ => (me_int)) (tg_name 3) (by decide))
  (mss_cons (ms_for (is := [2]) (passes_of rfl) rfl (x_rng1 rfl T.b_range (me_callB o_len call_lenA rfl T.b_len (by first | boot_by_name | rfl | kernel_rfl) (ma_cons (me_var 0 (pv 0)) ma_nil))) (pg_name (i := 2) sc__law_undone.nd rfl (by first | exact Or.inl rfl | exact Or.inr rfl)) (tg_name 2) (mss_one (x_setIx (s := 1) (pv 1) (me_op o_sub op_sub (me_ix o_ix ix_seq (me_var 0 (pv 0)) (me_var 2 (pv 2)) (fun _ _ => rfl)) (me_int)) (me_op o_add op_addA (me_var 2 (pv 2)) (me_int)) rfl rfl (pg_sub (pv 1) (me_op o_sub op_sub (me_ix o_ix ix_seq (me_var 0 (pv 0)) (me_var 2 (pv 2)) (fun _ _ => rfl)) (me_int)) set_list))))
  (mss_one (ms_ret (me_callTy o_tupOf call_tupleF rfl T.b_tuple (by first | boot_by_name | rfl | kernel_rfl) (ma_cons (me_var 1 (pv 1)) ma_nil)))))))) hm F.kp (FunD.bindsN F fun _ _ _ _ _ _ us hl => match us, hl with | [_], _ => rfl)
abbrev s__law_second : Stmt := top 44
theorem sc__law_second : FnScope ["_law_draw_here", "_law_row_here", "_law_kind"] ["_law_draw_here", "_law_row_here"] (defScope s__law_second) := ⟨rfl, rfl, rfl, by decide +kernel, rfl, by decide +kernel, by decide +kernel⟩
theorem ok__law_second (T : Tx P K mg AA) : CalM P w K mg base 5 "_law_second" 2 [0] m__law_second := by
  obtain ⟨f, fd, F, hm⟩ := T.d__law_second
  exact calM_of (m := mDef 3 [0] b__law_second) (def_ok (k := 4) F sc__law_second (by decide) (fun cdv A outer s H E hr => (mss_cons (ms_set (i := 2) sc__law_second.nd rfl (by first | exact Or.inl rfl | exact Or.inr rfl) (me_callM (ok__law_pick T) hr (by omega) (takes_of rfl rfl rfl rfl) rfl (ma_lend 0 (pv 0) (ma_arg (me_int) ma_nil)) (ml_lend (ml_arg (fun ρ vs ρ' h => ml_nil h)))))
  (mss_cons (ms_if (mt_cmp o_eq (op_eqD (have h := u64 hr; h)) (me_var 2 (pv 2)) (me_int) (nomark _)) (mss_one (ms_ret (me_callM (ok__law_rounds T) hr (by omega) (takes_of rfl rfl rfl rfl) rfl (ma_arg (me_callB o_len call_lenA rfl T.b_len (by first | boot_by_name | rfl | kernel_rfl) (ma_cons (me_var 1 (pv 1)) ma_nil)) ma_nil) (ml_arg (fun ρ vs ρ' h => ml_nil h))))) mss_nil)
  (mss_cons (ms_if (mt_cmp o_eq (op_eqD (have h := u64 hr; h)) (me_var 2 (pv 2)) (me_int) (nomark _)) (mss_one (ms_ret (me_var 1 (pv 1)))) mss_nil)
  (mss_cons (ms_if (mt_cmp o_eq (op_eqD (have h := u64 hr; h)) (me_var 2 (pv 2)) (me_int) (nomark _)) (mss_one (ms_ret (me_callM (ok__law_undone T) hr (by omega) (takes_of rfl rfl rfl rfl) rfl (ma_arg (me_var 1 (pv 1)) ma_nil) (ml_arg (fun ρ vs ρ' h => ml_nil h))))) mss_nil)
  (mss_one (ms_ret (me_callM (ok__law_row T) hr (by omega) (takes_of rfl rfl rfl rfl) rfl (ma_lend 0 (pv 0) (ma_arg (me_callB o_len call_lenA rfl T.b_len (by first | boot_by_name | rfl | kernel_rfl) (ma_cons (me_var 1 (pv 1)) ma_nil)) ma_nil)) (ml_lend (ml_arg (fun ρ vs ρ' h => ml_nil h)))))))))))) hm F.kp (FunD.bindsN F fun _ _ _ _ _ _ us hl => match us, hl with | [_, _], _ => rfl)
theorem su__law_stage_refused_par (k : Ck) (x : Xc) (ρ : En) (h : x.c = k.c) : mSuite 1 su__law_stage_refused k x ρ = mSuite 1 su__law_stage_refused ⟨0, 0, x.c⟩ x ρ := by
  refine suite_par h fun fs => ?_
  unfold su__law_stage_refused
  repeat' first
    | exact par_isE | exact par_xf | exact par_c | exact par_var (by decide) | exact par_nil | exact par_next
    | refine par_cons ?_ ?_ | refine par_lst ?_ | refine par_tup ?_ | refine par_op ?_ ?_ | refine par_cb ?_ | refine par_tst ?_ | refine par_not ?_ | refine par_and ?_ ?_ | refine par_or ?_ ?_
    | refine par_ifs ?_ ?_ ?_ | refine par_drop ?_ | refine par_ret ?_ | refine par_seq ?_ ?_
abbrev s__law_stage_refused : Stmt := top 54
theorem sc__law_stage_refused : FnScope ["_law_wrong", "caught"] ["_law_wrong"] (defScope s__law_stage_refused) := ⟨rfl, rfl, rfl, by decide +kernel, rfl, by decide +kernel, by decide +kernel⟩
theorem ok__law_stage_refused (T : Tx P K mg AA) : CalM P w K mg base 6 "_law_stage_refused" 1 [] m__law_stage_refused := by
  obtain ⟨f, fd, F, hm⟩ := T.d__law_stage_refused
  exact calM_of (m := mDef 2 [] b__law_stage_refused) (def_ok (k := 5) F sc__law_stage_refused (by decide) (fun cdv A outer s H E hr => (mss_cons (ms_try (i := 1) rfl rfl sc__law_stage_refused.nd rfl rfl ⟨rfl, by decide, .inl T.cls.r⟩ (takes_of rfl rfl rfl rfl) T.cls.cat su__law_stage_refused_par (fun W' pn xe tk pw => (mss_one (ms_expr (me_callM (ok_rounds T) hr (by omega) tk rfl (ma_arg (me_var 0 (pv 0)) ma_nil) (ml_arg (fun ρ vs ρ' h => ml_nil h)))))) (fun k C oe pn hC hz hf => (mss_cons (ms_if (PW.pt (mw_or (mt_not (mt_val (me_isE (T.cls.isT ["BadStage"] (by decide)) hC hz hf (.own _) (me_var 1 (pv 1)) (pe_clsOwn rfl (T.g_BadStage)) rfl T.b_isinstance))) (mw_or1 (mt_val (me_isET (T.cls.isT ["BadRow", "BadBell", "Unlike"] (by decide)) hC hz hf (.cons (.own _) (.cons (.own _) (.cons (.own _) .nil))) (by unfold BIG; exact Nat.le_of_ble_eq_true rfl) (me_var 1 (pv 1)) (pa_cons (pe_clsOwn rfl (T.g_BadRow)) (pa_cons (pe_clsOwn rfl (T.g_BadBell)) (pa_cons (pe_clsOwn rfl (T.g_Unlike)) pa_nil))) rfl T.b_isinstance))))) (mss_one (ms_ret (me_bl))) mss_nil)
  (mss_one (ms_ret (me_cmp o_eq (op_eqD (have h := u64 hr; h)) (me_xf T.cls.xf hC hz hf (me_var 1 (pv 1))) (me_var 0 (pv 0)) (nomark _)))))))
  (mss_one (ms_ret (me_bl)))))) hm F.kp (FunD.bindsN F fun _ _ _ _ _ _ us hl => match us, hl with | [_], _ => rfl)
abbrev s__law_cycles : Stmt := top 49
theorem sc__law_cycles : FnScope ["_law_move", "_law_out", "_law_met", "_law_first", "_law_ring", "_law_turn", "_law_goal"] ["_law_move"] (defScope s__law_cycles) := ⟨rfl, rfl, rfl, by decide +kernel, rfl, by decide +kernel, by decide +kernel⟩
theorem ok__law_cycles (T : Tx P K mg AA) : CalM P w K mg base 2 "_law_cycles" 1 [] m__law_cycles := by
  obtain ⟨f, fd, F, hm⟩ := T.d__law_cycles
  exact calM_of (m := mDef 7 [] b__law_cycles) (def_ok (k := 1) F sc__law_cycles (by decide) (fun cdv A outer s H E hr => (mss_cons (ms_set (i := 1) sc__law_cycles.nd rfl (by first | exact Or.inl rfl | exact Or.inr rfl) (me_lst ma_nil))
  (mss_cons (ms_set (i := 2) sc__law_cycles.nd rfl (by first | exact Or.inl rfl | exact Or.inr rfl) (me_lst ma_nil))
  (mss_cons (ms_for (is := [3]) (passes_of rfl) rfl (x_rng2 rfl T.b_range (me_int) (me_op o_add op_addA (me_callB o_len call_lenA rfl T.b_len (by first | boot_by_name | rfl | kernel_rfl) (ma_cons (me_var 0 (pv 0)) ma_nil)) (me_int))) (pg_name (i := 3) sc__law_cycles.nd rfl (by first | exact Or.inl rfl | exact Or.inr rfl)) (tg_name 3) (mss_one (ms_if (mt_cmp (o_or o_notIn (o_dkIn true)) (op_notIn_seq.or (op_dkNotIn (have h := u1 hr; h))) (me_var 3 (pv 3)) (me_var 2 (pv 2)) rfl) (mss_cons (ms_set (i := 4) sc__law_cycles.nd rfl (by first | exact Or.inl rfl | exact Or.inr rfl) (me_lst (ma_cons (me_var 3 (pv 3)) ma_nil)))
  (mss_cons (ms_for (is := [5]) (passes_of rfl) rfl (x_rng1 rfl T.b_range (me_callB o_len call_lenA rfl T.b_len (by first | boot_by_name | rfl | kernel_rfl) (ma_cons (me_var 0 (pv 0)) ma_nil))) (pg_name (i := 5) sc__law_cycles.nd rfl (by first | exact Or.inl rfl | exact Or.inr rfl)) (tg_name 5) (mss_cons (ms_set (i := 6) sc__law_cycles.nd rfl (by first | exact Or.inl rfl | exact Or.inr rfl) (me_op o_add op_addA (me_index (me_var 0 (pv 0)) (me_ix o_ix ix_seq (me_var 4 (pv 4)) (me_un o_neg un_neg (me_int)) (fun _ _ => rfl))) (me_int)))
  (mss_one (ms_if (mt_cmp (o_or o_notIn (o_dkIn true)) (op_notIn_seq.or (op_dkNotIn (have h := u1 hr; h))) (me_var 6 (pv 6)) (me_var 4 (pv 4)) rfl) (mss_one (ms_expr (x_append (s := 4) (pv 4) (me_var 6 (pv 6))))) mss_nil))))
  (mss_cons (ms_expr (x_extend (s := 2) (pv 2) (me_var 4 (pv 4))))
  (mss_one (ms_expr (x_append (s := 1) (pv 1) (me_callTy o_tupOf call_tupleF rfl T.b_tuple (by first | boot_by_name | rfl | kernel_rfl) (ma_cons (me_var 4 (pv 4)) ma_nil)))))))) mss_nil)))
  (mss_one (ms_ret (me_callTy o_tupOf call_tupleF rfl T.b_tuple (by first | boot_by_name | rfl | kernel_rfl) (ma_cons (me_var 1 (pv 1)) ma_nil))))))))) hm F.kp (FunD.bindsN F fun _ _ _ _ _ _ us hl => match us, hl with | [_], _ => rfl)
abbrev s__law_is_even : Stmt := top 50
theorem sc__law_is_even : FnScope ["_law_row_here", "_law_number", "_law_at", "_law_bell"] ["_law_row_here"] (defScope s__law_is_even) := ⟨rfl, rfl, rfl, by decide +kernel, rfl, by decide +kernel, by decide +kernel⟩
theorem ok__law_is_even (T : Tx P K mg AA) : CalM P w K mg base 2 "_law_is_even" 1 [] m__law_is_even := by
  obtain ⟨f, fd, F, hm⟩ := T.d__law_is_even
  exact calM_of (m := mDef 4 [] b__law_is_even) (def_ok (k := 1) F sc__law_is_even (by decide) (fun cdv A outer s H E hr => (mss_cons (ms_set (i := 1) sc__law_is_even.nd rfl (by first | exact Or.inl rfl | exact Or.inr rfl) (me_int))
  (mss_cons (ms_for (is := [2]) (passes_of rfl) rfl (x_rng1 rfl T.b_range (me_callB o_len call_lenA rfl T.b_len (by first | boot_by_name | rfl | kernel_rfl) (ma_cons (me_var 0 (pv 0)) ma_nil))) (pg_name (i := 2) sc__law_is_even.nd rfl (by first | exact Or.inl rfl | exact Or.inr rfl)) (tg_name 2) (mss_one (ms_set (i := 1) sc__law_is_even.nd rfl (by first | exact Or.inl rfl | exact Or.inr rfl) (me_op o_add op_addA (me_var 1 (pv 1)) (me_callB o_len call_lenA rfl T.b_len (by first | boot_by_name | rfl | kernel_rfl) (ma_cons (me_comp (own := [("_law_bell", 3)]) rfl sc__law_is_even.nd (mi_seq (me_slice (me_var 0 (pv 0)) (mo_some (me_op o_add op_addA (me_var 2 (pv 2)) (me_int))) mo_none)) (blkOk_by (N := ["_law_row_here", "_law_number", "_law_at", "_law_bell"]) (sc := defScope s__law_is_even) (own := [("_law_bell", 3)]) (by decide +kernel)) (fun _ _ _ _ _ => pg_name (i := 3) sc__law_is_even.nd rfl (by first | exact Or.inl rfl | exact Or.inr rfl)) (fun _ _ _ _ _ => mts_one (mt_cmp o_lt op_lt (me_var 3 (pv 3)) (me_ix o_ix ix_seq (me_var 0 (pv 0)) (me_var 2 (pv 2)) (fun _ _ => rfl)) (nomark _))) (fun _ _ _ _ _ => (me_var 3 (pv 3))) (tg_name 3) (by decide)) ma_nil))))))
  (mss_one (ms_ret (me_cmp o_eq (op_eqD (have h := u64 hr; h)) (me_op o_mod op_mod (me_callTy o_int call_int1 rfl T.b_int (by first | boot_by_name | rfl | kernel_rfl) (ma_cons (me_var 1 (pv 1)) ma_nil)) (me_int)) (me_int) (nomark _)))))))) hm F.kp (FunD.bindsN F fun _ _ _ _ _ _ us hl => match us, hl with | [_], _ => rfl)
abbrev s__law_order : Stmt := top 51
theorem sc__law_order : FnScope ["_law_move", "_law_due", "_law_there", "_law_turn"] ["_law_move"] (defScope s__law_order) := ⟨rfl, rfl, rfl, by decide +kernel, rfl, by decide +kernel, by decide +kernel⟩
theorem ok__law_order (T : Tx P K mg AA) : CalM P w K mg base 3 "_law_order" 1 [] m__law_order := by
  obtain ⟨f, fd, F, hm⟩ := T.d__law_order
  exact calM_of (m := mDef 4 [] b__law_order) (def_ok (k := 2) F sc__law_order (by decide) (fun cdv A outer s H E hr => (mss_cons (ms_set (i := 1) sc__law_order.nd rfl (by first | exact Or.inl rfl | exact Or.inr rfl) (me_int))
  (mss_cons (ms_set (i := 2) sc__law_order.nd rfl (by first | exact Or.inl rfl | exact Or.inr rfl) (me_callM (ok__law_rounds T) hr (by omega) (takes_of rfl rfl rfl rfl) rfl (ma_arg (me_callB o_len call_lenA rfl T.b_len (by first | boot_by_name | rfl | kernel_rfl) (ma_cons (me_var 0 (pv 0)) ma_nil)) ma_nil) (ml_arg (fun ρ vs ρ' h => ml_nil h))))
  (mss_cons (ms_for (is := [3]) (passes_of rfl) rfl (x_rng2 rfl T.b_range (me_int) (me_int)) (pg_name (i := 3) sc__law_order.nd rfl (by first | exact Or.inl rfl | exact Or.inr rfl)) (tg_name 3) (mss_cons (ms_set (i := 2) sc__law_order.nd rfl (by first | exact Or.inl rfl | exact Or.inr rfl) (me_callM (ok__law_moved T) hr (by omega) (takes_of rfl rfl rfl rfl) rfl (ma_arg (me_var 2 (pv 2)) (ma_arg (me_var 0 (pv 0)) ma_nil)) (ml_arg (ml_arg (fun ρ vs ρ' h => ml_nil h)))))
  (mss_one (ms_if (PW.pt (mw_and (mt_cmp o_eq (op_eqD (have h := u64 hr; h)) (me_var 1 (pv 1)) (me_int) (nomark _)) (mw_and1 (mt_cmp o_eq (op_eqD (have h := u64 hr; h)) (me_var 2 (pv 2)) (me_callM (ok__law_rounds T) hr (by omega) (takes_of rfl rfl rfl rfl) rfl (ma_arg (me_callB o_len call_lenA rfl T.b_len (by first | boot_by_name | rfl | kernel_rfl) (ma_cons (me_var 0 (pv 0)) ma_nil)) ma_nil) (ml_arg (fun ρ vs ρ' h => ml_nil h))) (nomark _))))) (mss_one (ms_set (i := 1) sc__law_order.nd rfl (by first | exact Or.inl rfl | exact Or.inr rfl) (me_var 3 (pv 3)))) mss_nil))))
  (mss_one (ms_ret (me_var 1 (pv 1))))))))) hm F.kp (FunD.bindsN F fun _ _ _ _ _ _ us hl => match us, hl with | [_], _ => rfl)
abbrev s__law_told_fit : Stmt := top 52
theorem sc__law_told_fit : FnScope ["_law_draw_here", "_law_row_here", "_law_move", "_law_one", "_law_two", "_law_bell"] ["_law_draw_here", "_law_row_here", "_law_move"] (defScope s__law_told_fit) := ⟨rfl, rfl, rfl, by decide +kernel, rfl, by decide +kernel, by decide +kernel⟩
theorem ok__law_told_fit (T : Tx P K mg AA) : CalM P w K mg base 9 "_law_told_fit" 3 [0] m__law_told_fit := by
  obtain ⟨f, fd, F, hm⟩ := T.d__law_told_fit
  exact calM_of (m := mDef 6 [0] b__law_told_fit) (def_ok (k := 8) F sc__law_told_fit (by decide) (fun cdv A outer s H E hr => (mss_cons (ms_set (i := 3) sc__law_told_fit.nd rfl (by first | exact Or.inl rfl | exact Or.inr rfl) (me_callM (ok__law_hand T) hr (by omega) (takes_of rfl rfl rfl rfl) rfl (ma_lend 0 (pv 0) (ma_arg (me_var 1 (pv 1)) ma_nil)) (ml_lend (ml_arg (fun ρ vs ρ' h => ml_nil h)))))
  (mss_cons (ms_set (i := 4) sc__law_told_fit.nd rfl (by first | exact Or.inl rfl | exact Or.inr rfl) (me_callM (ok__law_hand T) hr (by omega) (takes_of rfl rfl rfl rfl) rfl (ma_lend 0 (pv 0) (ma_arg (me_var 2 (pv 2)) ma_nil)) (ml_lend (ml_arg (fun ρ vs ρ' h => ml_nil h)))))
  (mss_cons (ms_if (PW.pt (mw_or (mt_not (mt_val (me_callM (ok__law_same T 4) hr (by omega) (takes_of rfl rfl rfl rfl) rfl (ma_arg (me_callM (ok_order T) hr (by omega) (takes_of rfl rfl rfl rfl) rfl (ma_arg (me_var 3 (pv 3)) ma_nil) (ml_arg (fun ρ vs ρ' h => ml_nil h))) (ma_arg (me_callM (ok__law_order T) hr (by omega) (takes_of rfl rfl rfl rfl) rfl (ma_arg (me_var 1 (pv 1)) ma_nil) (ml_arg (fun ρ vs ρ' h => ml_nil h))) ma_nil)) (ml_arg (ml_arg (fun ρ vs ρ' h => ml_nil h)))))) (mw_or1 (mt_not (mt_val (me_callM (ok__law_same T 4) hr (by omega) (takes_of rfl rfl rfl rfl) rfl (ma_arg (me_callM (ok_order T) hr (by omega) (takes_of rfl rfl rfl rfl) rfl (ma_arg (me_var 4 (pv 4)) ma_nil) (ml_arg (fun ρ vs ρ' h => ml_nil h))) (ma_arg (me_callM (ok__law_order T) hr (by omega) (takes_of rfl rfl rfl rfl) rfl (ma_arg (me_var 2 (pv 2)) ma_nil) (ml_arg (fun ρ vs ρ' h => ml_nil h))) ma_nil)) (ml_arg (ml_arg (fun ρ vs ρ' h => ml_nil h))))))))) (mss_one (ms_ret (me_bl))) mss_nil)
  (mss_cons (ms_if (PW.pt (mw_or (mt_not (mt_val (me_callM (ok__law_same T 4) hr (by omega) (takes_of rfl rfl rfl rfl) rfl (ma_arg (me_callM (ok_is_even T) hr (by omega) (takes_of rfl rfl rfl rfl) rfl (ma_arg (me_var 3 (pv 3)) ma_nil) (ml_arg (fun ρ vs ρ' h => ml_nil h))) (ma_arg (me_callM (ok__law_is_even T) hr (by omega) (takes_of rfl rfl rfl rfl) rfl (ma_arg (me_var 1 (pv 1)) ma_nil) (ml_arg (fun ρ vs ρ' h => ml_nil h))) ma_nil)) (ml_arg (ml_arg (fun ρ vs ρ' h => ml_nil h)))))) (mw_or1 (mt_not (mt_val (me_callM (ok__law_same T 4) hr (by omega) (takes_of rfl rfl rfl rfl) rfl (ma_arg (me_callM (ok_is_even T) hr (by omega) (takes_of rfl rfl rfl rfl) rfl (ma_arg (me_var 4 (pv 4)) ma_nil) (ml_arg (fun ρ vs ρ' h => ml_nil h))) (ma_arg (me_callM (ok__law_is_even T) hr (by omega) (takes_of rfl rfl rfl rfl) rfl (ma_arg (me_var 2 (pv 2)) ma_nil) (ml_arg (fun ρ vs ρ' h => ml_nil h))) ma_nil)) (ml_arg (ml_arg (fun ρ vs ρ' h => ml_nil h))))))))) (mss_one (ms_ret (me_bl))) mss_nil)
  (mss_cons (ms_if (mt_cmp o_ne (op_neD (have h := u64 hr; h)) (me_callM (ok_is_even T) hr (by omega) (takes_of rfl rfl rfl rfl) rfl (ma_arg (me_callM (ok_moved T) hr (by omega) (takes_of rfl rfl rfl rfl) rfl (ma_arg (me_var 1 (pv 1)) (ma_arg (me_var 2 (pv 2)) ma_nil)) (ml_arg (ml_arg (fun ρ vs ρ' h => ml_nil h)))) ma_nil) (ml_arg (fun ρ vs ρ' h => ml_nil h))) (me_cmp o_eq (op_eqD (have h := u64 hr; h)) (me_callM (ok__law_is_even T) hr (by omega) (takes_of rfl rfl rfl rfl) rfl (ma_arg (me_var 1 (pv 1)) ma_nil) (ml_arg (fun ρ vs ρ' h => ml_nil h))) (me_callM (ok__law_is_even T) hr (by omega) (takes_of rfl rfl rfl rfl) rfl (ma_arg (me_var 2 (pv 2)) ma_nil) (ml_arg (fun ρ vs ρ' h => ml_nil h))) (nomark _)) (nomark _)) (mss_one (ms_ret (me_bl))) mss_nil)
  (mss_cons (ms_for (is := [5]) (passes_of rfl) rfl (mi_seq (me_var 1 (pv 1))) (pg_name (i := 5) sc__law_told_fit.nd rfl (by first | exact Or.inl rfl | exact Or.inr rfl)) (tg_name 5) (mss_one (ms_if (PW.pt (mw_or (mt_not (mt_val (me_callM (ok__law_same T 4) hr (by omega) (takes_of rfl rfl rfl rfl) rfl (ma_arg (me_callM (ok_place T) hr (by omega) (takes_of rfl rfl rfl rfl) rfl (ma_arg (me_var 3 (pv 3)) (ma_arg (me_var 5 (pv 5)) ma_nil)) (ml_arg (ml_arg (fun ρ vs ρ' h => ml_nil h)))) (ma_arg (me_op o_add op_addA (me_index (me_var 1 (pv 1)) (me_var 5 (pv 5))) (me_int)) ma_nil)) (ml_arg (ml_arg (fun ρ vs ρ' h => ml_nil h)))))) (mw_or1 (mt_cmp o_ne (op_neD (have h := u64 hr; h)) (me_callM (ok_place T) hr (by omega) (takes_of rfl rfl rfl rfl) rfl (ma_arg (me_var 4 (pv 4)) (ma_arg (me_var 5 (pv 5)) ma_nil)) (ml_arg (ml_arg (fun ρ vs ρ' h => ml_nil h)))) (me_op o_add op_addA (me_index (me_var 2 (pv 2)) (me_var 5 (pv 5))) (me_int)) (nomark _))))) (mss_one (ms_ret (me_bl))) mss_nil)))
  (mss_cons (ms_if (PW.pt (mw_or (mt_not (mt_val (me_callM (ok__law_same T 4) hr (by omega) (takes_of rfl rfl rfl rfl) rfl (ma_arg (me_callM (ok_cycles T) hr (by omega) (takes_of rfl rfl rfl rfl) rfl (ma_arg (me_var 3 (pv 3)) ma_nil) (ml_arg (fun ρ vs ρ' h => ml_nil h))) (ma_arg (me_callM (ok__law_cycles T) hr (by omega) (takes_of rfl rfl rfl rfl) rfl (ma_arg (me_var 1 (pv 1)) ma_nil) (ml_arg (fun ρ vs ρ' h => ml_nil h))) ma_nil)) (ml_arg (ml_arg (fun ρ vs ρ' h => ml_nil h)))))) (mw_or1 (mt_not (mt_val (me_callM (ok__law_same T 4) hr (by omega) (takes_of rfl rfl rfl rfl) rfl (ma_arg (me_callM (ok_cycles T) hr (by omega) (takes_of rfl rfl rfl rfl) rfl (ma_arg (me_var 4 (pv 4)) ma_nil) (ml_arg (fun ρ vs ρ' h => ml_nil h))) (ma_arg (me_callM (ok__law_cycles T) hr (by omega) (takes_of rfl rfl rfl rfl) rfl (ma_arg (me_var 2 (pv 2)) ma_nil) (ml_arg (fun ρ vs ρ' h => ml_nil h))) ma_nil)) (ml_arg (ml_arg (fun ρ vs ρ' h => ml_nil h))))))))) (mss_one (ms_ret (me_bl))) mss_nil)
  (mss_one (ms_ret ((me_and (me_cmp o_eq (op_eqD (have h := u64 hr; h)) (me_callM (ok__law_listed T 3) hr (by omega) (takes_of rfl rfl rfl rfl) rfl (ma_arg (me_var 3 (pv 3)) ma_nil) (ml_arg (fun ρ vs ρ' h => ml_nil h))) (me_callTyn o_listOf call_list_of rfl T.b_list (by first | boot_by_name | rfl | kernel_rfl) (ma_cons (me_var 1 (pv 1)) ma_nil)) (nomark _)) (me_one (me_cmp o_eq (op_eqD (have h := u64 hr; h)) (me_callM (ok__law_listed T 3) hr (by omega) (takes_of rfl rfl rfl rfl) rfl (ma_arg (me_var 4 (pv 4)) ma_nil) (ml_arg (fun ρ vs ρ' h => ml_nil h))) (me_callTyn o_listOf call_list_of rfl T.b_list (by first | boot_by_name | rfl | kernel_rfl) (ma_cons (me_var 2 (pv 2)) ma_nil)) (nomark _)))))))))))))))) hm F.kp (FunD.bindsN F fun _ _ _ _ _ _ us hl => match us, hl with | [_, _, _], _ => rfl)
abbrev s_law : Stmt := top 55
theorem sc_law : FnScope ["_law_script", "_law_draw_here", "_law_row_here", "_law_move", "_law_other", "_law_handed", "_law_first"] ["_law_script"] (defScope s_law) := ⟨rfl, rfl, rfl, by decide +kernel, rfl, by decide +kernel, by decide +kernel⟩
theorem fn_law (T : Tx P K mg AA) {f : Addr} {fd : FuncData} (F : FnP K "law" s_law f fd) : FnOk P w K mg base (L2.CX P w) 12 f fd ["_law_script"] (spM K mg 1 [] m_law) :=
  def_ok (m := b_law) (k := 11) F sc_law (by decide) (fun cdv A outer s H E hr => (mss_cons (ms_set (i := 1) sc_law.nd rfl (by first | exact Or.inl rfl | exact Or.inr rfl) (me_callM (ok__law_draw T) hr (by omega) (takes_of rfl rfl rfl rfl) rfl (ma_arg (me_var 0 (pv 0)) ma_nil) (ml_arg (fun ρ vs ρ' h => ml_nil h))))
  (mss_cons (ms_set (i := 2) sc_law.nd rfl (by first | exact Or.inl rfl | exact Or.inr rfl) (me_callM (ok__law_row T) hr (by omega) (takes_of rfl rfl rfl rfl) rfl (ma_lend 1 (pv 1) (ma_arg (me_op o_add op_addA (me_int) (me_callM (ok__law_pick T) hr (by omega) (takes_of rfl rfl rfl rfl) rfl (ma_lend 1 (pv 1) (ma_arg (me_int) ma_nil)) (ml_lend (ml_arg (fun ρ vs ρ' h => ml_nil h))))) ma_nil)) (ml_lend (ml_arg (fun ρ vs ρ' h => ml_nil h)))))
  (mss_cons (ms_set (i := 3) sc_law.nd rfl (by first | exact Or.inl rfl | exact Or.inr rfl) (me_callM (ok__law_second T) hr (by omega) (takes_of rfl rfl rfl rfl) rfl (ma_lend 1 (pv 1) (ma_arg (me_var 2 (pv 2)) ma_nil)) (ml_lend (ml_arg (fun ρ vs ρ' h => ml_nil h)))))
  (mss_cons (ms_set (i := 4) sc_law.nd rfl (by first | exact Or.inl rfl | exact Or.inr rfl) (me_callM (ok__law_row T) hr (by omega) (takes_of rfl rfl rfl rfl) rfl (ma_lend 1 (pv 1) (ma_arg (me_callB o_len call_lenA rfl T.b_len (by first | boot_by_name | rfl | kernel_rfl) (ma_cons (me_var 2 (pv 2)) ma_nil)) ma_nil)) (ml_lend (ml_arg (fun ρ vs ρ' h => ml_nil h)))))
  (mss_cons (ms_if (PW.pt (mw_or (mt_not (mt_val (me_callM (ok__law_moves_fit T) hr (by omega) (takes_of rfl rfl rfl rfl) rfl (ma_lend 1 (pv 1) (ma_arg (me_var 2 (pv 2)) (ma_arg (me_var 3 (pv 3)) (ma_arg (me_var 4 (pv 4)) ma_nil)))) (ml_lend (ml_arg (ml_arg (ml_arg (fun ρ vs ρ' h => ml_nil h)))))))) (mw_or1 (mt_not (mt_val (me_callM (ok__law_told_fit T) hr (by omega) (takes_of rfl rfl rfl rfl) rfl (ma_lend 1 (pv 1) (ma_arg (me_var 2 (pv 2)) (ma_arg (me_var 3 (pv 3)) ma_nil))) (ml_lend (ml_arg (ml_arg (fun ρ vs ρ' h => ml_nil h)))))))))) (mss_one (ms_ret (me_bl))) mss_nil)
  (mss_cons (ms_set (i := 5) sc_law.nd rfl (by first | exact Or.inl rfl | exact Or.inr rfl) (me_callTyn o_listOf call_list_of rfl T.b_list (by first | boot_by_name | rfl | kernel_rfl) (ma_cons (me_var 2 (pv 2)) ma_nil)))
  (mss_cons (ms_set (i := 6) sc_law.nd rfl (by first | exact Or.inl rfl | exact Or.inr rfl) (me_callM (calM_loan 0 (ok_moved T)) hr (by omega) (takes_of rfl rfl rfl rfl) rfl (ma_lend 5 (pv 5) (ma_arg (me_var 3 (pv 3)) ma_nil)) (ml_lend (ml_arg (fun ρ vs ρ' h => ml_nil h)))))
  (mss_cons (x_setIx (s := 5) (pv 5) (me_int) (me_ix o_ix ix_seq (me_var 2 (pv 2)) (me_int) (fun _ _ => rfl)) rfl rfl (pg_sub (pv 5) (me_int) set_list))
  (mss_cons (x_setIx (s := 5) (pv 5) (me_int) (me_ix o_ix ix_seq (me_var 2 (pv 2)) (me_int) (fun _ _ => rfl)) rfl rfl (pg_sub (pv 5) (me_int) set_list))
  (mss_cons (ms_if (PW.pt (mw_or (mt_cmp o_ne (op_neD (have h := u64 hr; h)) (me_var 6 (pv 6)) (me_callM (ok__law_moved T) hr (by omega) (takes_of rfl rfl rfl rfl) rfl (ma_arg (me_var 2 (pv 2)) (ma_arg (me_var 3 (pv 3)) ma_nil)) (ml_arg (ml_arg (fun ρ vs ρ' h => ml_nil h)))) (nomark _)) (mw_or1 (mt_cmp o_ne (op_neD (have h := u64 hr; h)) (me_callM (calM_loan 0 (ok_moved T)) hr (by omega) (takes_of rfl rfl rfl rfl) rfl (ma_lend 5 (pv 5) (ma_arg (me_var 3 (pv 3)) ma_nil)) (ml_lend (ml_arg (fun ρ vs ρ' h => ml_nil h)))) (me_callM (ok__law_moved T) hr (by omega) (takes_of rfl rfl rfl rfl) rfl (ma_arg (me_callTy o_tupOf call_tupleF rfl T.b_tuple (by first | boot_by_name | rfl | kernel_rfl) (ma_cons (me_var 5 (pv 5)) ma_nil)) (ma_arg (me_var 3 (pv 3)) ma_nil)) (ml_arg (ml_arg (fun ρ vs ρ' h => ml_nil h)))) (nomark _))))) (mss_one (ms_ret (me_bl))) mss_nil)
  (mss_cons (ms_if (mt_not (mt_val (me_callM (ok__law_stage_refused T) hr (by omega) (takes_of rfl rfl rfl rfl) rfl (ma_arg (me_ix o_ix ix_seq (me_lst (ma_cons (me_int) (ma_cons (me_int) (ma_cons (me_bl) (ma_cons (me_non) (ma_cons (me_str) (ma_cons (me_un o_neg un_neg (me_int)) (ma_cons (me_op o_pow op_powW (me_int) (me_int)) (ma_cons (me_tup (ma_cons (me_int) ma_nil)) ma_nil))))))))) (me_callM (ok__law_pick T) hr (by omega) (takes_of rfl rfl rfl rfl) rfl (ma_lend 1 (pv 1) (ma_arg (me_int) ma_nil)) (ml_lend (ml_arg (fun ρ vs ρ' h => ml_nil h)))) (fun _ _ => rfl)) ma_nil) (ml_arg (fun ρ vs ρ' h => ml_nil h))))) (mss_one (ms_ret (me_bl))) mss_nil)
  (mss_one (ms_ret (me_callM (ok__law_refusals_fit T) hr (by omega) (takes_of rfl rfl rfl rfl) rfl (ma_lend 1 (pv 1) (ma_arg (me_var 2 (pv 2)) (ma_arg (me_var 3 (pv 3)) ma_nil))) (ml_lend (ml_arg (ml_arg (fun ρ vs ρ' h => ml_nil h)))))))))))))))))))
end
end K01
set_option Elab.async false
set_option linter.all false
set_option maxRecDepth 100000
set_option maxHeartbeats 0
namespace K01
open PySem PySem.Spec PyProof.Rows L2 Mi PySem.MiX
def x_BadStage : ExD := ⟨"BadStage", "stage", "this is no stage from 3 to 8", "BadStage.__init__", ⟨6, 17, 6, 21⟩, ⟨6, 23, 6, 28⟩, fun n => ([⟨7, 8, 7, 13⟩, ⟨7, 8, 7, 15⟩, ⟨7, 8, 7, 24⟩, ⟨7, 25, 7, 55⟩, ⟨7, 8, 7, 56⟩, ⟨7, 8, 7, 56⟩, ⟨8, 8, 8, 12⟩, ⟨8, 8, 8, 18⟩, ⟨8, 21, 8, 26⟩, ⟨8, 8, 8, 26⟩] : List Pos).getD n ⟨0, 0, 0, 0⟩⟩
theorem x_BadStage_txt : ExTxt x_BadStage := ⟨fun _ _ _ _ _ _ _ _ => rfl, fun _ => ⟨_, rfl⟩⟩
def x_BadRow : ExD := ⟨"BadRow", "row", "this is no row of the stage", "BadRow.__init__", ⟨11, 17, 11, 21⟩, ⟨11, 23, 11, 26⟩, fun n => ([⟨12, 8, 12, 13⟩, ⟨12, 8, 12, 15⟩, ⟨12, 8, 12, 24⟩, ⟨12, 25, 12, 54⟩, ⟨12, 8, 12, 55⟩, ⟨12, 8, 12, 55⟩, ⟨13, 8, 13, 12⟩, ⟨13, 8, 13, 16⟩, ⟨13, 19, 13, 22⟩, ⟨13, 8, 13, 22⟩] : List Pos).getD n ⟨0, 0, 0, 0⟩⟩
theorem x_BadRow_txt : ExTxt x_BadRow := ⟨fun _ _ _ _ _ _ _ _ => rfl, fun _ => ⟨_, rfl⟩⟩
def x_BadBell : ExD := ⟨"BadBell", "bell", "this is no bell of the stage", "BadBell.__init__", ⟨16, 17, 16, 21⟩, ⟨16, 23, 16, 27⟩, fun n => ([⟨17, 8, 17, 13⟩, ⟨17, 8, 17, 15⟩, ⟨17, 8, 17, 24⟩, ⟨17, 25, 17, 55⟩, ⟨17, 8, 17, 56⟩, ⟨17, 8, 17, 56⟩, ⟨18, 8, 18, 12⟩, ⟨18, 8, 18, 17⟩, ⟨18, 20, 18, 24⟩, ⟨18, 8, 18, 24⟩] : List Pos).getD n ⟨0, 0, 0, 0⟩⟩
theorem x_BadBell_txt : ExTxt x_BadBell := ⟨fun _ _ _ _ _ _ _ _ => rfl, fun _ => ⟨_, rfl⟩⟩
def x_Unlike : ExD := ⟨"Unlike", "word", "these things differ in what they must share", "Unlike.__init__", ⟨21, 17, 21, 21⟩, ⟨21, 23, 21, 27⟩, fun n => ([⟨22, 8, 22, 13⟩, ⟨22, 8, 22, 15⟩, ⟨22, 8, 22, 24⟩, ⟨22, 25, 22, 70⟩, ⟨22, 8, 22, 71⟩, ⟨22, 8, 22, 71⟩, ⟨23, 8, 23, 12⟩, ⟨23, 8, 23, 17⟩, ⟨23, 20, 23, 24⟩, ⟨23, 8, 23, 24⟩] : List Pos).getD n ⟨0, 0, 0, 0⟩⟩
theorem x_Unlike_txt : ExTxt x_Unlike := ⟨fun _ _ _ _ _ _ _ _ => rfl, fun _ => ⟨_, rfl⟩⟩
def xs : List ExD := [x_BadStage, x_BadRow, x_BadBell, x_Unlike]
theorem xs_txt : ∀ d ∈ xs, ExTxt d := by
  intro d hd
  rcases List.mem_cons.mp hd with rfl | hd
  · exact x_BadStage_txt
  rcases List.mem_cons.mp hd with rfl | hd
  · exact x_BadRow_txt
  rcases List.mem_cons.mp hd with rfl | hd
  · exact x_BadBell_txt
  rcases List.mem_cons.mp hd with rfl | hd
  · exact x_Unlike_txt
  · cases hd
def dd__law_draw : He.DefD := ⟨("_law_draw", none), "_law_draw", "_law_draw", defArgs (top 33), defBody (top 33), defScope (top 33), [], []⟩
def dd__law_moved : He.DefD := ⟨("_law_moved", none), "_law_moved", "_law_moved", defArgs (top 37), defBody (top 37), defScope (top 37), [], []⟩
def dd__law_mix : He.DefD := ⟨("_law_mix", none), "_law_mix", "_law_mix", defArgs (top 34), defBody (top 34), defScope (top 34), [], []⟩
def dd__law_pick : He.DefD := ⟨("_law_pick", none), "_law_pick", "_law_pick", defArgs (top 35), defBody (top 35), defScope (top 35), [], []⟩
def dd__law_hand : He.DefD := ⟨("_law_hand", none), "_law_hand", "_law_hand", defArgs (top 43), defBody (top 43), defScope (top 43), [], []⟩
def dd__law_listed : He.DefD := ⟨("_law_listed", none), "_law_listed", "_law_listed", defArgs (top 41), defBody (top 41), defScope (top 41), [], []⟩
def dd__law_rounds : He.DefD := ⟨("_law_rounds", none), "_law_rounds", "_law_rounds", defArgs (top 36), defBody (top 36), defScope (top 36), [], []⟩
def dd__law_is_int : He.DefD := ⟨("_law_is_int", none), "_law_is_int", "_law_is_int", defArgs (top 40), defBody (top 40), defScope (top 40), [], []⟩
def dd__law_same : He.DefD := ⟨("_law_same", none), "_law_same", "_law_same", defArgs (top 42), defBody (top 42), defScope (top 42), [], []⟩
def dd_compose : He.DefD := ⟨("compose", none), "compose", "compose", defArgs (top 15), defBody (top 15), defScope (top 15), [], []⟩
def dd_is_integer : He.DefD := ⟨("is_integer", none), "is_integer", "is_integer", defArgs (top 9), defBody (top 9), defScope (top 9), [], []⟩
def dd_is_within : He.DefD := ⟨("is_within", none), "is_within", "is_within", defArgs (top 10), defBody (top 10), defScope (top 10), [], []⟩
def dd_is_stage : He.DefD := ⟨("is_stage", none), "is_stage", "is_stage", defArgs (top 11), defBody (top 11), defScope (top 11), [], []⟩
def dd_is_tuple : He.DefD := ⟨("is_tuple", none), "is_tuple", "is_tuple", defArgs (top 12), defBody (top 12), defScope (top 12), [], []⟩
def dd_is_row : He.DefD := ⟨("is_row", none), "is_row", "is_row", defArgs (top 19), defBody (top 19), defScope (top 19), [], []⟩
def dd_judge_row : He.DefD := ⟨("judge_row", none), "judge_row", "judge_row", defArgs (top 30), defBody (top 30), defScope (top 30), [], []⟩
def dd_judge_rows : He.DefD := ⟨("judge_rows", none), "judge_rows", "judge_rows", defArgs (top 31), defBody (top 31), defScope (top 31), [], []⟩
def dd_moved : He.DefD := ⟨("moved", none), "moved", "moved", defArgs (top 21), defBody (top 21), defScope (top 21), [], []⟩
def dd_renamed : He.DefD := ⟨("renamed", none), "renamed", "renamed", defArgs (top 24), defBody (top 24), defScope (top 24), [], []⟩
def dd_rounds_of : He.DefD := ⟨("rounds_of", none), "rounds_of", "rounds_of", defArgs (top 14), defBody (top 14), defScope (top 14), [], []⟩
def dd_rounds : He.DefD := ⟨("rounds", none), "rounds", "rounds", defArgs (top 20), defBody (top 20), defScope (top 20), [], []⟩
def dd_step_between : He.DefD := ⟨("step_between", none), "step_between", "step_between", defArgs (top 17), defBody (top 17), defScope (top 17), [], []⟩
def dd_step : He.DefD := ⟨("step", none), "step", "step", defArgs (top 23), defBody (top 23), defScope (top 23), [], []⟩
def dd_inverse : He.DefD := ⟨("inverse", none), "inverse", "inverse", defArgs (top 16), defBody (top 16), defScope (top 16), [], []⟩
def dd_undone : He.DefD := ⟨("undone", none), "undone", "undone", defArgs (top 22), defBody (top 22), defScope (top 22), [], []⟩
def dd__law_moves_fit : He.DefD := ⟨("_law_moves_fit", none), "_law_moves_fit", "_law_moves_fit", defArgs (top 48), defBody (top 48), defScope (top 48), [], []⟩
def dd__law_bad_row : He.DefD := ⟨("_law_bad_row", none), "_law_bad_row", "_law_bad_row", defArgs (top 45), defBody (top 45), defScope (top 45), [], []⟩
def dd_cycle_from : He.DefD := ⟨("cycle_from", none), "cycle_from", "cycle_from", defArgs (top 29), defBody (top 29), defScope (top 29), [], []⟩
def dd_cycles : He.DefD := ⟨("cycles", none), "cycles", "cycles", defArgs (top 28), defBody (top 28), defScope (top 28), [], []⟩
def dd_is_even : He.DefD := ⟨("is_even", none), "is_even", "is_even", defArgs (top 26), defBody (top 26), defScope (top 26), [], []⟩
def dd_order : He.DefD := ⟨("order", none), "order", "order", defArgs (top 25), defBody (top 25), defScope (top 25), [], []⟩
def dd_place : He.DefD := ⟨("place", none), "place", "place", defArgs (top 27), defBody (top 27), defScope (top 27), [], []⟩
def dd__law_call : He.DefD := ⟨("_law_call", none), "_law_call", "_law_call", defArgs (top 46), defBody (top 46), defScope (top 46), [], []⟩
def dd__law_refusal : He.DefD := ⟨("_law_refusal", none), "_law_refusal", "_law_refusal", defArgs (top 47), defBody (top 47), defScope (top 47), [], []⟩
def dd__law_row : He.DefD := ⟨("_law_row", none), "_law_row", "_law_row", defArgs (top 39), defBody (top 39), defScope (top 39), [], []⟩
def dd__law_refusals_fit : He.DefD := ⟨("_law_refusals_fit", none), "_law_refusals_fit", "_law_refusals_fit", defArgs (top 53), defBody (top 53), defScope (top 53), [], []⟩
def dd__law_undone : He.DefD := ⟨("_law_undone", none), "_law_undone", "_law_undone", defArgs (top 38), defBody (top 38), defScope (top 38), [], []⟩
def dd__law_second : He.DefD := ⟨("_law_second", none), "_law_second", "_law_second", defArgs (top 44), defBody (top 44), defScope (top 44), [], []⟩
def dd__law_stage_refused : He.DefD := ⟨("_law_stage_refused", none), "_law_stage_refused", "_law_stage_refused", defArgs (top 54), defBody (top 54), defScope (top 54), [], []⟩
def dd__law_cycles : He.DefD := ⟨("_law_cycles", none), "_law_cycles", "_law_cycles", defArgs (top 49), defBody (top 49), defScope (top 49), [], []⟩
def dd__law_is_even : He.DefD := ⟨("_law_is_even", none), "_law_is_even", "_law_is_even", defArgs (top 50), defBody (top 50), defScope (top 50), [], []⟩
def dd__law_order : He.DefD := ⟨("_law_order", none), "_law_order", "_law_order", defArgs (top 51), defBody (top 51), defScope (top 51), [], []⟩
def dd__law_told_fit : He.DefD := ⟨("_law_told_fit", none), "_law_told_fit", "_law_told_fit", defArgs (top 52), defBody (top 52), defScope (top 52), [], []⟩
def dd_law : He.DefD := ⟨("law", none), "law", "law", defArgs (top 55), defBody (top 55), defScope (top 55), [], []⟩
def fn : List He.DefD := ([dd__law_draw, dd__law_moved, dd__law_mix, dd__law_pick, dd__law_hand, dd__law_listed, dd__law_rounds, dd__law_is_int, dd__law_same, dd_compose, dd_is_integer, dd_is_within, dd_is_stage, dd_is_tuple, dd_is_row, dd_judge_row, dd_judge_rows, dd_moved, dd_renamed, dd_rounds_of, dd_rounds, dd_step_between, dd_step, dd_inverse, dd_undone, dd__law_moves_fit, dd__law_bad_row, dd_cycle_from, dd_cycles, dd_is_even] : List He.DefD) ++ ([dd_order, dd_place, dd__law_call, dd__law_refusal, dd__law_row, dd__law_refusals_fit, dd__law_undone, dd__law_second, dd__law_stage_refused, dd__law_cycles, dd__law_is_even, dd__law_order, dd__law_told_fit, dd_law] : List He.DefD)
def fa : List He.Fa := ([.glo "_law_draw", .glo "_law_moved", .glo "_law_mix", .glo "_law_pick", .glo "_law_hand", .glo "_law_listed", .glo "_law_rounds", .glo "_law_is_int", .glo "_law_same", .glo "compose", .glo "is_integer", .glo "is_within", .glo "is_stage", .glo "is_tuple", .glo "is_row", .glo "judge_row", .glo "judge_rows", .glo "moved", .glo "renamed", .glo "rounds_of", .glo "rounds", .glo "step_between", .glo "step", .glo "inverse", .glo "undone", .glo "_law_moves_fit", .glo "_law_bad_row", .glo "cycle_from", .glo "cycles", .glo "is_even"] : List He.Fa) ++ ([.glo "order", .glo "place", .glo "_law_call", .glo "_law_refusal", .glo "_law_row", .glo "_law_refusals_fit", .glo "_law_undone", .glo "_law_second", .glo "_law_stage_refused", .glo "_law_cycles", .glo "_law_is_even", .glo "_law_order", .glo "_law_told_fit", .glo "law", .free "abs", .free "all", .free "bool", .free "enumerate", .free "int", .free "isinstance", .free "len", .free "list", .free "range", .free "sorted", .free "str", .free "sum", .free "tuple", .free "zip", .int "LEAST_STAGE" 3, .int "GREATEST_STAGE" 8] : List He.Fa)
def others : List PySem.Str := (["TouchError", "BadStage", "BadRow", "BadBell", "Unlike", "LEAST_STAGE", "GREATEST_STAGE", "is_integer", "is_within", "is_stage", "is_tuple", "rounds_of", "compose", "inverse", "step_between", "is_row", "rounds", "moved", "undone", "step", "renamed", "order", "is_even", "place", "cycles", "cycle_from", "judge_row", "judge_rows", "_law_draw", "_law_mix"] : List PySem.Str) ++ (["_law_pick", "_law_rounds", "_law_moved", "_law_undone", "_law_row", "_law_is_int", "_law_listed", "_law_same", "_law_hand", "_law_second", "_law_bad_row", "_law_call", "_law_refusal", "_law_moves_fit", "_law_cycles", "_law_is_even", "_law_order", "_law_told_fit", "_law_refusals_fit", "_law_stage_refused"] : List PySem.Str)
abbrev R : PySem.W.OpenRow := PySem.W.OpenLaw.row PySem.Challenge.rw_truetouch_k01_rows_as_moves
abbrev hk : PySem.W.Hook := hookM 5 fa fn PySem.Challenge.pw_truetouch_k01_rows_as_moves.main.file xs "TouchError" sub
def ob (s : PySem.W.SharedT) : AlM := obsM 5 fa fn PySem.Challenge.pw_truetouch_k01_rows_as_moves.main.file xs "TouchError" sub (HandSHeadRun.getT s)
theorem ob_eq (s : PySem.W.SharedT) : ob s = hk.obs s.abs := obsM_eq (HandSHeadRun.getT_eq s)
theorem run (w : World) : HandSHeadRun.RunEq R (PySem.W.view R.prog [55]) hk ob 20000 others w := by
  intro os
  kernel_rfl
end K01
set_option Elab.async false
set_option linter.all false
set_option maxRecDepth 100000
set_option maxHeartbeats 0
namespace K01
open PySem PySem.Spec PyProof.Rows L2 Mi PySem.MiX
theorem tx {K : PySem.W.Frag} {h : Heap} {mg : Str → Option Value} (X : K.In h) (G : h.Ns mainGlobals mg) (c : SaysM fa fn PySem.Challenge.pw_truetouch_k01_rows_as_moves.main.file xs "TouchError" sub K) : Tx PySem.Challenge.pw_truetouch_k01_rows_as_moves K mg (He.ga K) where
  d__law_draw := by
    obtain ⟨fd, F⟩ := c.d.defs (d := dd__law_draw) (by simp [fn])
    exact ⟨_, fd, F, He.glo_ok X G (c.d.facts (f := .glo "_law_draw") (by simp [fa]))⟩
  d__law_moved := by
    obtain ⟨fd, F⟩ := c.d.defs (d := dd__law_moved) (by simp [fn])
    exact ⟨_, fd, F, He.glo_ok X G (c.d.facts (f := .glo "_law_moved") (by simp [fa]))⟩
  d__law_mix := by
    obtain ⟨fd, F⟩ := c.d.defs (d := dd__law_mix) (by simp [fn])
    exact ⟨_, fd, F, He.glo_ok X G (c.d.facts (f := .glo "_law_mix") (by simp [fa]))⟩
  d__law_pick := by
    obtain ⟨fd, F⟩ := c.d.defs (d := dd__law_pick) (by simp [fn])
    exact ⟨_, fd, F, He.glo_ok X G (c.d.facts (f := .glo "_law_pick") (by simp [fa]))⟩
  d__law_hand := by
    obtain ⟨fd, F⟩ := c.d.defs (d := dd__law_hand) (by simp [fn])
    exact ⟨_, fd, F, He.glo_ok X G (c.d.facts (f := .glo "_law_hand") (by simp [fa]))⟩
  d__law_listed := by
    obtain ⟨fd, F⟩ := c.d.defs (d := dd__law_listed) (by simp [fn])
    exact ⟨_, fd, F, He.glo_ok X G (c.d.facts (f := .glo "_law_listed") (by simp [fa]))⟩
  d__law_rounds := by
    obtain ⟨fd, F⟩ := c.d.defs (d := dd__law_rounds) (by simp [fn])
    exact ⟨_, fd, F, He.glo_ok X G (c.d.facts (f := .glo "_law_rounds") (by simp [fa]))⟩
  d__law_is_int := by
    obtain ⟨fd, F⟩ := c.d.defs (d := dd__law_is_int) (by simp [fn])
    exact ⟨_, fd, F, He.glo_ok X G (c.d.facts (f := .glo "_law_is_int") (by simp [fa]))⟩
  d__law_same := by
    obtain ⟨fd, F⟩ := c.d.defs (d := dd__law_same) (by simp [fn])
    exact ⟨_, fd, F, He.glo_ok X G (c.d.facts (f := .glo "_law_same") (by simp [fa]))⟩
  d_compose := by
    obtain ⟨fd, F⟩ := c.d.defs (d := dd_compose) (by simp [fn])
    exact ⟨_, fd, F, He.glo_ok X G (c.d.facts (f := .glo "compose") (by simp [fa]))⟩
  d_is_integer := by
    obtain ⟨fd, F⟩ := c.d.defs (d := dd_is_integer) (by simp [fn])
    exact ⟨_, fd, F, He.glo_ok X G (c.d.facts (f := .glo "is_integer") (by simp [fa]))⟩
  d_is_within := by
    obtain ⟨fd, F⟩ := c.d.defs (d := dd_is_within) (by simp [fn])
    exact ⟨_, fd, F, He.glo_ok X G (c.d.facts (f := .glo "is_within") (by simp [fa]))⟩
  d_is_stage := by
    obtain ⟨fd, F⟩ := c.d.defs (d := dd_is_stage) (by simp [fn])
    exact ⟨_, fd, F, He.glo_ok X G (c.d.facts (f := .glo "is_stage") (by simp [fa]))⟩
  d_is_tuple := by
    obtain ⟨fd, F⟩ := c.d.defs (d := dd_is_tuple) (by simp [fn])
    exact ⟨_, fd, F, He.glo_ok X G (c.d.facts (f := .glo "is_tuple") (by simp [fa]))⟩
  d_is_row := by
    obtain ⟨fd, F⟩ := c.d.defs (d := dd_is_row) (by simp [fn])
    exact ⟨_, fd, F, He.glo_ok X G (c.d.facts (f := .glo "is_row") (by simp [fa]))⟩
  d_judge_row := by
    obtain ⟨fd, F⟩ := c.d.defs (d := dd_judge_row) (by simp [fn])
    exact ⟨_, fd, F, He.glo_ok X G (c.d.facts (f := .glo "judge_row") (by simp [fa]))⟩
  d_judge_rows := by
    obtain ⟨fd, F⟩ := c.d.defs (d := dd_judge_rows) (by simp [fn])
    exact ⟨_, fd, F, He.glo_ok X G (c.d.facts (f := .glo "judge_rows") (by simp [fa]))⟩
  d_moved := by
    obtain ⟨fd, F⟩ := c.d.defs (d := dd_moved) (by simp [fn])
    exact ⟨_, fd, F, He.glo_ok X G (c.d.facts (f := .glo "moved") (by simp [fa]))⟩
  d_renamed := by
    obtain ⟨fd, F⟩ := c.d.defs (d := dd_renamed) (by simp [fn])
    exact ⟨_, fd, F, He.glo_ok X G (c.d.facts (f := .glo "renamed") (by simp [fa]))⟩
  d_rounds_of := by
    obtain ⟨fd, F⟩ := c.d.defs (d := dd_rounds_of) (by simp [fn])
    exact ⟨_, fd, F, He.glo_ok X G (c.d.facts (f := .glo "rounds_of") (by simp [fa]))⟩
  d_rounds := by
    obtain ⟨fd, F⟩ := c.d.defs (d := dd_rounds) (by simp [fn])
    exact ⟨_, fd, F, He.glo_ok X G (c.d.facts (f := .glo "rounds") (by simp [fa]))⟩
  d_step_between := by
    obtain ⟨fd, F⟩ := c.d.defs (d := dd_step_between) (by simp [fn])
    exact ⟨_, fd, F, He.glo_ok X G (c.d.facts (f := .glo "step_between") (by simp [fa]))⟩
  d_step := by
    obtain ⟨fd, F⟩ := c.d.defs (d := dd_step) (by simp [fn])
    exact ⟨_, fd, F, He.glo_ok X G (c.d.facts (f := .glo "step") (by simp [fa]))⟩
  d_inverse := by
    obtain ⟨fd, F⟩ := c.d.defs (d := dd_inverse) (by simp [fn])
    exact ⟨_, fd, F, He.glo_ok X G (c.d.facts (f := .glo "inverse") (by simp [fa]))⟩
  d_undone := by
    obtain ⟨fd, F⟩ := c.d.defs (d := dd_undone) (by simp [fn])
    exact ⟨_, fd, F, He.glo_ok X G (c.d.facts (f := .glo "undone") (by simp [fa]))⟩
  d__law_moves_fit := by
    obtain ⟨fd, F⟩ := c.d.defs (d := dd__law_moves_fit) (by simp [fn])
    exact ⟨_, fd, F, He.glo_ok X G (c.d.facts (f := .glo "_law_moves_fit") (by simp [fa]))⟩
  d__law_bad_row := by
    obtain ⟨fd, F⟩ := c.d.defs (d := dd__law_bad_row) (by simp [fn])
    exact ⟨_, fd, F, He.glo_ok X G (c.d.facts (f := .glo "_law_bad_row") (by simp [fa]))⟩
  d_cycle_from := by
    obtain ⟨fd, F⟩ := c.d.defs (d := dd_cycle_from) (by simp [fn])
    exact ⟨_, fd, F, He.glo_ok X G (c.d.facts (f := .glo "cycle_from") (by simp [fa]))⟩
  d_cycles := by
    obtain ⟨fd, F⟩ := c.d.defs (d := dd_cycles) (by simp [fn])
    exact ⟨_, fd, F, He.glo_ok X G (c.d.facts (f := .glo "cycles") (by simp [fa]))⟩
  d_is_even := by
    obtain ⟨fd, F⟩ := c.d.defs (d := dd_is_even) (by simp [fn])
    exact ⟨_, fd, F, He.glo_ok X G (c.d.facts (f := .glo "is_even") (by simp [fa]))⟩
  d_order := by
    obtain ⟨fd, F⟩ := c.d.defs (d := dd_order) (by simp [fn])
    exact ⟨_, fd, F, He.glo_ok X G (c.d.facts (f := .glo "order") (by simp [fa]))⟩
  d_place := by
    obtain ⟨fd, F⟩ := c.d.defs (d := dd_place) (by simp [fn])
    exact ⟨_, fd, F, He.glo_ok X G (c.d.facts (f := .glo "place") (by simp [fa]))⟩
  d__law_call := by
    obtain ⟨fd, F⟩ := c.d.defs (d := dd__law_call) (by simp [fn])
    exact ⟨_, fd, F, He.glo_ok X G (c.d.facts (f := .glo "_law_call") (by simp [fa]))⟩
  d__law_refusal := by
    obtain ⟨fd, F⟩ := c.d.defs (d := dd__law_refusal) (by simp [fn])
    exact ⟨_, fd, F, He.glo_ok X G (c.d.facts (f := .glo "_law_refusal") (by simp [fa]))⟩
  d__law_row := by
    obtain ⟨fd, F⟩ := c.d.defs (d := dd__law_row) (by simp [fn])
    exact ⟨_, fd, F, He.glo_ok X G (c.d.facts (f := .glo "_law_row") (by simp [fa]))⟩
  d__law_refusals_fit := by
    obtain ⟨fd, F⟩ := c.d.defs (d := dd__law_refusals_fit) (by simp [fn])
    exact ⟨_, fd, F, He.glo_ok X G (c.d.facts (f := .glo "_law_refusals_fit") (by simp [fa]))⟩
  d__law_undone := by
    obtain ⟨fd, F⟩ := c.d.defs (d := dd__law_undone) (by simp [fn])
    exact ⟨_, fd, F, He.glo_ok X G (c.d.facts (f := .glo "_law_undone") (by simp [fa]))⟩
  d__law_second := by
    obtain ⟨fd, F⟩ := c.d.defs (d := dd__law_second) (by simp [fn])
    exact ⟨_, fd, F, He.glo_ok X G (c.d.facts (f := .glo "_law_second") (by simp [fa]))⟩
  d__law_stage_refused := by
    obtain ⟨fd, F⟩ := c.d.defs (d := dd__law_stage_refused) (by simp [fn])
    exact ⟨_, fd, F, He.glo_ok X G (c.d.facts (f := .glo "_law_stage_refused") (by simp [fa]))⟩
  d__law_cycles := by
    obtain ⟨fd, F⟩ := c.d.defs (d := dd__law_cycles) (by simp [fn])
    exact ⟨_, fd, F, He.glo_ok X G (c.d.facts (f := .glo "_law_cycles") (by simp [fa]))⟩
  d__law_is_even := by
    obtain ⟨fd, F⟩ := c.d.defs (d := dd__law_is_even) (by simp [fn])
    exact ⟨_, fd, F, He.glo_ok X G (c.d.facts (f := .glo "_law_is_even") (by simp [fa]))⟩
  d__law_order := by
    obtain ⟨fd, F⟩ := c.d.defs (d := dd__law_order) (by simp [fn])
    exact ⟨_, fd, F, He.glo_ok X G (c.d.facts (f := .glo "_law_order") (by simp [fa]))⟩
  d__law_told_fit := by
    obtain ⟨fd, F⟩ := c.d.defs (d := dd__law_told_fit) (by simp [fn])
    exact ⟨_, fd, F, He.glo_ok X G (c.d.facts (f := .glo "_law_told_fit") (by simp [fa]))⟩
  d_law := by
    obtain ⟨fd, F⟩ := c.d.defs (d := dd_law) (by simp [fn])
    exact ⟨_, fd, F, He.glo_ok X G (c.d.facts (f := .glo "law") (by simp [fa]))⟩
  b_abs := He.free_ok X G (c.d.facts (f := .free "abs") (by simp [fa]))
  b_all := He.free_ok X G (c.d.facts (f := .free "all") (by simp [fa]))
  b_bool := He.free_ok X G (c.d.facts (f := .free "bool") (by simp [fa]))
  b_enumerate := He.free_ok X G (c.d.facts (f := .free "enumerate") (by simp [fa]))
  b_int := He.free_ok X G (c.d.facts (f := .free "int") (by simp [fa]))
  b_isinstance := He.free_ok X G (c.d.facts (f := .free "isinstance") (by simp [fa]))
  b_len := He.free_ok X G (c.d.facts (f := .free "len") (by simp [fa]))
  b_list := He.free_ok X G (c.d.facts (f := .free "list") (by simp [fa]))
  b_range := He.free_ok X G (c.d.facts (f := .free "range") (by simp [fa]))
  b_sorted := He.free_ok X G (c.d.facts (f := .free "sorted") (by simp [fa]))
  b_str := He.free_ok X G (c.d.facts (f := .free "str") (by simp [fa]))
  b_sum := He.free_ok X G (c.d.facts (f := .free "sum") (by simp [fa]))
  b_tuple := He.free_ok X G (c.d.facts (f := .free "tuple") (by simp [fa]))
  b_zip := He.free_ok X G (c.d.facts (f := .free "zip") (by simp [fa]))
  c_LEAST_STAGE := by
    obtain ⟨t, e⟩ := He.int_ok X G (c.d.facts (f := .int "LEAST_STAGE" 3) (by simp [fa]))
    exact ⟨_, e, t, rfl⟩
  c_GREATEST_STAGE := by
    obtain ⟨t, e⟩ := He.int_ok X G (c.d.facts (f := .int "GREATEST_STAGE" 8) (by simp [fa]))
    exact ⟨_, e, t, rfl⟩
  cls := clsT_of X G (by decide +kernel) xs_txt c
end K01
set_option Elab.async false
set_option linter.all false
set_option maxRecDepth 100000
set_option maxHeartbeats 0
open PySem PySem.W PySem.Calls PyProof.Rows
theorem K01.holds_of (hlaw : ∀ ns : List Int, ns.length ≤ 63 → K01.m_law [.val (.frl (ns.map Mi.D.int))] = .ok (.v (.bl true)) []) : PySem.Challenge.rw_truetouch_k01_rows_as_moves.Holds := by
  w_on; o_law
  refine HandSHeadRun.head_any (r := OpenLaw.row PySem.Challenge.rw_truetouch_k01_rows_as_moves) (q := view (OpenLaw.row PySem.Challenge.rw_truetouch_k01_rows_as_moves).prog [55]) (H := K01.hk) (ob := K01.ob) (M := 20000) (loose := K01.others) (d := HandSHeadRun.topDef (OpenLaw.row PySem.Challenge.rw_truetouch_k01_rows_as_moves).prog 55) (kwd := []) K01.ob_eq
    (by kernel_rfl) (fun s => by kernel_rfl) K01.run (by kernel_rfl) (by kernel_rfl) (by kernel_rfl) (by rfl) (by first | assumption | decide +kernel) (by decide +kernel) ⟨rfl, rfl, rfl, rfl, rfl, by decide +kernel⟩ ?hw ?hc
  case hw => w_witness2
  case hc =>
    refine L2.walk_ofE (l := PySem.Challenge.rw_truetouch_k01_rows_as_moves) (n := 63) (k := 12) (x := "_law_script") (CX := Mi.CXU (PySem.Challenge.rw_truetouch_k01_rows_as_moves).prog) rfl (by decide) (by kernel_rfl) ⟨rfl, by decide, by decide⟩ ?F (fun H s e s' z => Mi.cxu_none H s e s' z)
    intro w mg fa h Y G hmg0
    obtain ⟨K, KX, c⟩ := Y
    have hmg : mg ("law" : PySem.Str) = some (.ref fa) := by
      have e : (HandSHeadRun.topDef (OpenLaw.row PySem.Challenge.rw_truetouch_k01_rows_as_moves).prog 55).name = ("law" : PySem.Str) := by kernel_rfl
      rw [← e]
      exact hmg0
    have T := K01.tx KX G c
    obtain ⟨f, fd, F0, hm0⟩ := T.d_law
    have ef : f = fa := by
      rw [hmg] at hm0
      cases hm0
      rfl
    subst ef
    have b := L2.FunD.bindsA (ps := ["_law_script"]) F0 fun _ _ _ _ _ _ us hl => match us, hl with | [_], _ => rfl
    exact ⟨K, fd, Mi.spM K mg 1 [] K01.m_law, KX, fun s v => b s [v] rfl, fun H a ns hl _ hS => Mi.law_sp hS (hlaw ns hl), fun base _ _ => Mi.fnok_wide (K01.fn_law T F0)⟩
theorem PySem.Challenge.cw_truetouch_k01_rows_as_moves_holds : PySem.Challenge.rw_truetouch_k01_rows_as_moves.Holds := by
  exact K01.holds_of K01.hlaw

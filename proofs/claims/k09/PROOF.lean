import PyProof.Rows.All
import Wide.All
import OpenK.AllK
import Wide.FinOn
import HandS.ForMost
import HandS.ForExc
import HandS.Defaults
import HandS.CallSlots
import HandS.Conv
import HandS.TupAny
import HandS.TupMul
import HandS.Strs
import HandS.SortInts
import HandS.IsInst
import HandS.Style
import HandS.Zip
import KE.KExcSuper
import HandS.ExcIs
import HandS.ExcField
import KE.KExcIs
import HandS.TupLen
import KE.GoesEnum
import HandS.Words
import HandS.TryMany
import PyProof.Rows.StrMul
import HandS.Rev
import HandS.Star
import KE.KRevSl
import PyProof.ReprRoads
import KE.KSuper
import KE.KStateDown
import HandS.Ends
import HandS.More
import HandS.Head0
import HandS.Head1
import HandS.Head2
import HandS.HeadEnd
import HandS.HeadHook1
import HandS.HeadHook2
import HandS.HeadHook3
import HandS.HeadHook4
import HandS.CallLocal
import KE.KDictDisplayH
import KE.DataMinKey
import HandS.SortKw
import HandS.TupLe
import HandS.FStr
import PyProof.Draws
import PyProof.EnumMake
import PySem.Challenge.RW_truetouch_k09_whole_shortest_calling
set_option Elab.async false
set_option linter.all false
set_option maxRecDepth 100000
set_option maxHeartbeats 1000000
/-! Mi, part T: tuples whose own object is known (so that their methods can be called). -/
namespace Mi
open PySem PySem.Spec PyProof.Rows L2
abbrev St := L2.St
/-- a tuple, its object known to have no dict -/
def FT (H : Hp) (a : Addr) (vs : List V) : Prop := ∃ o, H a = some (.frz o (.tup vs)) ∧ o.dict = none
theorem FT.seq {K : PySem.W.Frag} {H : Hp} {a : Addr} {vs : List V} (h : FT H a vs) : SqT K H a vs := by
  obtain ⟨o, e, _⟩ := h
  exact .inl (.inr ⟨o, e⟩)
section
variable {X : Cx} {pins : List (Addr × Obj)} {σ : St} {H : Hp} {s : Shared}
/-- what a new tuple is wanted for -/
def newT (xs : List V) (H : Hp) (Q : VK) : Prop := ∀ p o, H p = none → o.dict = none → Q (.ref p) (upd H p (.frz o (.tup xs)))
theorem laidT {h' : Heap} {xs : List V} {its : List Value} {Q : VK} {t' : Nat} (I : Inv X pins σ H s) (k : ∀ b u, s.heap.get? b = some u → h'.get? b = some u) (r : Vals xs its) (z : xs.length ≤ sizeLine) (q : newT xs H Q) :
    EP X pins σ Q (.ref h'.objs.size) { s with heap := h'.push { cls := .type "tuple", data := .seq its.toArray }, toks := t' } := by
  have I1 : Inv X pins σ H { s with heap := h', toks := t' } := I.kept (t' := t') k
  have hg : (h'.push { cls := .type "tuple", data := .seq its.toArray }).get? h'.objs.size = some { cls := .type "tuple", data := .seq its.toArray } := Heap.get?_push_size _ rfl
  refine ⟨.ref h'.objs.size, _, I1.laid (t' := t') (o := .frz { cls := .type "tuple", data := .seq its.toArray } (.tup xs)) (fun b u e => Heap.get?_push_of_some _ e) (Nat.le_refl _) ?_, rfl, q _ _ (I1.hok.fresh (Nat.le_refl _)) rfl⟩
  exact ⟨hg, z, its, r, ⟨_, hg, rfl, _, rfl⟩⟩
end
section
variable {X : Cx} {es : List Expr} {t : TA} {pos : Pos}
/-- (a, b, ..) -/
def tTupF (t : TA) : TE := fun σ H Q => t σ H fun xs H1 => xs.length ≤ sizeLine ∧ newT xs H1 Q
theorem pe_tupF {x1} (h : PA X es t) : PE X (.Tuple es x1 pos) (tTupF t) := by
  refine ⟨fun pins s σ H Q I hq => ?_⟩
  refine wpAny_Tuple_spliced (thn (h.run pos pins s σ H _ I hq) fun us s1 ⟨xs, H1, I1, r, z, q⟩ => ⟨by rw [← r.length]; exact z, ?_⟩)
  exact laidT (t' := s1.toks) I1 (fun _ _ e => e) r z q
/-- t + u -/
def rCatF (K : PySem.W.Frag) : R2 := fun x y H Q => ∃ a b xs ys, x = .ref a ∧ y = .ref b ∧ SqT K H a xs ∧ SqT K H b ys ∧ xs.length + ys.length ≤ sizeLine ∧
  (xs = [] → Q (.ref b) H) ∧ (xs ≠ [] → ys = [] → Q (.ref a) H) ∧ (xs ≠ [] → ys ≠ [] → newT (xs ++ ys) H Q)
theorem op_catF : OpR X (binaryOp .Add) (rCatF X.K) := by
  intro pins s σ H x y v u Q I rx ry h
  obtain ⟨a, b, xs, ys, rfl, rfl, ha, hb, hz, q0, q1, q2⟩ := h
  by_cases hx : xs = []
  · exact op_catA pins s σ H _ _ v u Q I rx ry ⟨a, b, xs, ys, rfl, rfl, ha, hb, hz, q0, fun z => absurd hx z, fun z => absurd hx z⟩
  · by_cases hy : ys = []
    · exact op_catA pins s σ H _ _ v u Q I rx ry ⟨a, b, xs, ys, rfl, rfl, ha, hb, hz, q0, q1, fun _ z => absurd hy z⟩
    · cases rx
      cases ry
      obtain ⟨its, r1, p1, _⟩ := I.tuple ha
      obtain ⟨its2, r2, p2, _⟩ := I.tuple hb
      refine HT.cat_tup p1 p2 (fun z => hx (r1.nil_iff.mp z)) (fun z => absurd (r2.nil_iff.mp z) hy) (fun z => ?_) (by rw [← r1.length, ← r2.length]; exact hz)
      exact laidT (t' := s.toks) I (fun _ _ e => e) (r1.append r2) (by rw [List.length_append]; exact hz) (q2 hx hy)
/-- t[a:b] -/
def rSlF (K : PySem.W.Frag) : V → Option Int → Option Int → Hp → VK → Prop := fun x lo hi H Q => ∃ a xs, x = .ref a ∧ SqT K H a xs ∧
  (HT.sIx xs.length 0 lo = 0 ∧ HT.sIx xs.length xs.length hi = xs.length → Q (.ref a) H) ∧ (¬ (HT.sIx xs.length 0 lo = 0 ∧ HT.sIx xs.length xs.length hi = xs.length) → newT (cutV xs lo hi) H Q)
theorem sl_tupF : SlR X (rSlF X.K) := by
  intro pins s σ H x v vl vu lo hi sl Q I rx hs pl pu h
  obtain ⟨a, xs, rfl, hx, q1, q2⟩ := h
  by_cases hw : HT.sIx xs.length 0 lo = 0 ∧ HT.sIx xs.length xs.length hi = xs.length
  · exact sl_tupA pins s σ H _ v vl vu lo hi sl Q I rx hs pl pu ⟨a, xs, rfl, hx, q1, fun z => absurd hw z⟩
  · cases rx
    obtain ⟨its, r, ht, hz⟩ := I.tuple hx
    have hlen : its.toArray.size = xs.length := by rw [List.size_toArray]; exact r.length.symm
    refine ⟨"tuple", _, PyProof.Rows.slot_tuple_getitem.lookup, ht.typeIs, ?_⟩
    refine HT.getItem_tuple_cut ht hs pl pu (by rw [hlen]; exact hw) ?_ (by rw [hlen]; exact hz)
    rw [hlen]
    exact laidT (t' := s.toks) I (fun _ _ e => e) ((r.drop (HT.sIx xs.length 0 lo)).take (HT.sIx xs.length xs.length hi - HT.sIx xs.length 0 lo)) (Nat.le_trans (cutV_length xs lo hi) hz) (q2 hw)
/-- tuple(xs), tuple(t) -/
def rTupOf (K : PySem.W.Frag) : List V → Hp → VK → Prop := fun xs H Q => ∃ p ys, xs = [.ref p] ∧ ((SqL K H p ys ∧ newT ys H Q) ∨ (SqT K H p ys ∧ Q (.ref p) H))
theorem call_tupleF : CallR X (.type "tuple") (rTupOf X.K) := by
  intro pins s σ H xs us Q I r h
  obtain ⟨p, ys, rfl, h⟩ := h
  obtain ⟨u, rfl, rx⟩ := vals1 r
  cases rx
  rcases h with ⟨hq, q⟩ | ⟨hq, q⟩
  · obtain ⟨its, r', pl, hz⟩ := I.list hq
    have hlen := r'.length
    refine call_tuple_list pl.isList (fun h' kp => ?_) (by simp only [List.size_toArray] <;> omega)
    exact laidT (t' := s.toks) I kp r' hz q
  · obtain ⟨its, r', pl, hz⟩ := I.tuple hq
    exact call_tuple_same pl ⟨.ref p, H, I, rfl, q⟩
/-- tuple(range(..)) -/
def tTupRgF (te : St → Hp → (Int → Int → Hp → Prop) → Prop) : TE := fun σ H Q => te σ H fun a b H1 => RgOk a b ∧ newT (rgV a b) H1 Q
theorem pe_tupRgF {e : Expr} {te : St → Hp → (Int → Int → Hp → Prop) → Prop} {p pos : Pos} (hc : X.calm = true) (hg : Gl X "tuple") (hm : X.mg "tuple" = none) (he : PRg X e te) (na : starEach [e] X.env = (false, eval e X.env) :: starEach [] X.env := by rfl) :
    PE X (.Call (.Name "tuple" p) [e] [] pos) (tTupRgF te) := by
  refine ⟨fun pins s σ H Q I h => ?_⟩
  refine Call_ (ld_blt I hg hm boot_tuple (PyProof.Rows.callWith_type1 (args_cons (thn (he pins s σ H _ I h) fun x s1 ⟨r, a, b, t, u, v, H1, ex, hr, I1, ok, q⟩ => args_nil ?_) na) na))
  subst ex
  obtain ⟨b1, b2, b3, b4, b5⟩ := ok
  refine call_tuple_range (n := (b - a).toNat) (I1.ok.hd hc) hr (small_one b1 b2 b3 b4) (rangeSize_nat a b) b5 fun h' tk acc hk hi => ?_
  have e : acc = acc.toList.toArray := (Array.toArray_toList).symm
  rw [e]
  exact laidT (t' := tk) I1 hk (vals_rg hi) (by rw [rgV_length, sizeLine_eq]; omega) q
/-- t.m(e, ..), t a tuple that is known -/
def tBMT (r : V → List V → Hp → VK → Prop) (to : TE) (t : TA) : TE := fun σ H Q => to σ H fun x H1 => (∃ a vs, x = .ref a ∧ FT H1 a vs) ∧ t σ H1 fun xs H2 => r x xs H2 Q
theorem pe_bmT {o e : Expr} {to : TE} {name : Str} {apos cpos : Pos} {id : String} {r : V → List V → Hp → VK → Prop} (pa : PlainAttrs "tuple") (slot : Slot "tuple" name id) (hty : typeOf (.builtin id) = pure (.type "method_descriptor")) (hm : MtR X id r) (ho : PE X o to) (ha : PA X (e :: es) t)
    (hbase : attributeBase o name X.env (eval o X.env) = eval o X.env := by rfl)
    (hfew : ((backTo cpos (starEach (e :: es) X.env)).all (fun x => !x.1) && (backToKw cpos (keywordEach [] X.env)).all (fun x => x.1.isSome)
      && decide ((e :: es).length + ([] : List Keyword).length + (if ([] : List Keyword).isEmpty then 0 else 1) < 30)) = true := by rfl)
    (hline : (apos.endLine == cpos.line) = true := by rfl) (hs : starEach (e :: es) X.env = (false, eval e X.env) :: starEach es X.env := by rfl) (hplain : (backTo cpos (starEach es X.env)).any (·.1) = false := by rfl) :
    PE X (.Call (.Attribute o name apos) (e :: es) [] cpos) (tBMT r to t) := by
  refine ⟨fun pins s σ H Q I h => ?_⟩
  refine wpAny_Call_method_late hbase hfew hline rfl (thn (ho.run pins s σ H _ I h) fun v s1 ⟨x, H1, I1, r1, ⟨a, vs, ex, ob, eo, ed⟩, q1⟩ => ?_)
  subst ex
  obtain rfl : v = Value.ref a := r1
  obtain ⟨go, z, its, rv, it⟩ := (show ObjOk X.prog X.w H1 s1.heap a (.frz ob (.tup vs)) from I1.hok a _ eo)
  refine ⟨"tuple", id, pa, slot, hty, (show IsTup s1.heap a its.toArray from it).typeIs, fun b eb => ?_, ?_⟩
  · cases eb
    exact ⟨ob, go, ed⟩
  have hA := ha.run cpos pins s1 σ H1 _ I1 q1
  rw [hs] at hA ⊢
  refine Calls.callWith_builtin (by show (false || (backTo cpos (starEach es X.env)).any (·.1)) = false; rw [hplain] <;> rfl) (Calls.evalArgs_plain ?_)
  exact thn hA fun us s2 ⟨ws, H2, I2, r2, q2⟩ => hm pins s2 σ H2 (.ref a) ws (.ref a) us Q I2 (show RelV (.ref a) (.ref a) from rfl) r2 q2
/-- t.index(y), flat items, y is there -/
def rTIndex (K : PySem.W.Frag) : V → List V → Hp → VK → Prop := fun x xs H Q => ∃ (a : Addr) (ys : List V) (y : V) (j : Nat) (z : V), x = V.ref a ∧ xs = [y] ∧ SqT K H a ys ∧ flatV y = true ∧ ys.all flatV = true ∧ ys[j]? = some z ∧ eqV z y = true ∧
  (∀ (m : Nat) (z' : V), m < j → ys[m]? = some z' → eqV z' y = false) ∧ Q (.int (j : Nat)) H
theorem mt_tindex : MtR X "tuple.index" (rTIndex X.K) := by
  intro pins s σ H x xs v us Q I rx rs h
  obtain ⟨p, ys, y, j, z, rfl, rfl, hq, fy, fys, hy, hzj, hno, q⟩ := h
  cases rx
  obtain ⟨u, rfl, ru⟩ := vals1 rs
  obtain ⟨its, r, pl, hz⟩ := I.tuple hq
  obtain ⟨⟨cls, dd, dt, sl⟩, ho, hc, n, hd⟩ := pl
  simp only at hc hd
  subst hc
  subst hd
  have hl : its.toArray.size = ys.length := by rw [List.size_toArray, ← r.length]
  have hj : j < its.toArray.size := by rw [hl]; exact (List.getElem?_eq_some_iff.mp hy).1
  have at' : ∀ (m : Nat) (hm : m < its.toArray.size), ∃ w, ys[m]? = some w ∧ eqU y its.toArray[m] = eqV w y := fun m hm => by
    have hm' : m < ys.length := by rw [← hl]; exact hm
    obtain ⟨w, hw, rw'⟩ := r.get (i := m) (x := ys[m]) (List.getElem?_eq_getElem hm')
    have e := (List.getElem?_eq_some_iff.mp hw).2
    refine ⟨ys[m], List.getElem?_eq_getElem hm', ?_⟩
    have e2 : its.toArray[m] = w := by rw [← e]; simp
    rw [e2]
    exact eqU_of rw' (flat_at fys (List.getElem?_eq_getElem hm'))
  refine call_meets PySem.F.slot_tuple_index ⟨_, ho, rfl⟩ PySem.F.entry_tuple_index (PySem.F.args_tuple_index_2 _ _) (TI.tuple_indexAt p its.toArray n dd sl u (eqU y) j hj ?_ ?_)
    ⟨ho, fun w hw => mem_eqAt (x := y) ru fy r fys w (by simpa using hw), ⟨.int (j : Nat), H, I.tok _, ⟨_, rfl⟩, q⟩⟩
  · obtain ⟨w, h1, h2⟩ := at' j hj
    rw [hy] at h1
    cases h1
    rw [h2]
    exact hzj
  · intro m hm hmj
    obtain ⟨w, h1, h2⟩ := at' m hm
    rw [h2]
    exact hno m w hmj h1
end
end Mi
set_option Elab.async false
set_option linter.all false
set_option maxRecDepth 100000
set_option maxHeartbeats 1000000
/-! Mi, part A: data without addresses, the frozen part of a heap, slots, the relation between a def's slots and their mirror. -/
namespace Mi
open PySem PySem.Spec PyProof.Rows L2

/-- a value without addresses -/
inductive D where
  | non | bl (b : Bool) | int (i : Int) | str (x : Str)
  | tup (xs : List D) | lst (xs : List D) | frl (xs : List D)
  | dk (kvs : List (Key × D)) | dt (kvs : List (List Key × D))
  | obj (c : Str) (fs : List (Str × D))
  | exc (a d : Addr) (c : Str) (fs : List (Str × D))
  | fn (x : Str)

section
variable (K : PySem.W.Frag) (mg : Str → Option Value)
mutual
inductive Rp (F : Hp) : V → D → Prop
  | non : Rp F .non .non
  | bl (b : Bool) : Rp F (.bl b) (.bl b)
  | int (i : Int) : Rp F (.int i) (.int i)
  | str (x : Str) : Rp F (.str x) (.str x)
  | tup {a : Addr} {vs : List V} {ds : List D} : FT F a vs → RpA F vs ds → Rp F (.ref a) (.tup ds)
  | lst {a : Addr} {vs : List V} {ds : List D} : F a = some (.lst vs) → RpA F vs ds → Rp F (.ref a) (.lst ds)
  | frl {a : Addr} {vs : List V} {ds : List D} : SqL K F a vs → RpA F vs ds → Rp F (.ref a) (.frl ds)
  | dk {a : Addr} {ks : List (Key × V)} {ds : List (Key × D)} : F a = some (.dK ks) → RpK F ks ds → Rp F (.ref a) (.dk ds)
  | dt {a : Addr} {ks : List (List Key × V)} {ds : List (List Key × D)} : F a = some (.dT ks) → RpT F ks ds → Rp F (.ref a) (.dt ds)
  | obj {a C dx : Addr} {c : Str} {fs : List (Str × V)} {ds : List (Str × D)} : mg c = some (.ref C) → F a = some (.ins C dx fs) → RpF F fs ds → Rp F (.ref a) (.obj c ds)
  | exc {a C d : Addr} {c : Str} {fs : List (Str × V)} {ds : List (Str × D)} : mg c = some (.ref C) → F d = some (.xd fs) → RpF F fs ds → Rp F (.ref a) (.exc a d c ds)
  | fn {a : Addr} {x : Str} : mg x = some (.ref a) → Rp F (.ref a) (.fn x)
inductive RpA (F : Hp) : List V → List D → Prop
  | nil : RpA F [] []
  | cons {v : V} {vs : List V} {d : D} {ds : List D} : Rp F v d → RpA F vs ds → RpA F (v :: vs) (d :: ds)
inductive RpK (F : Hp) : List (Key × V) → List (Key × D) → Prop
  | nil : RpK F [] []
  | cons {k : Key} {v : V} {vs : List (Key × V)} {d : D} {ds : List (Key × D)} : Rp F v d → RpK F vs ds → RpK F ((k, v) :: vs) ((k, d) :: ds)
inductive RpT (F : Hp) : List (List Key × V) → List (List Key × D) → Prop
  | nil : RpT F [] []
  | cons {k : List Key} {v : V} {vs : List (List Key × V)} {d : D} {ds : List (List Key × D)} : Rp F v d → RpT F vs ds → RpT F ((k, v) :: vs) ((k, d) :: ds)
inductive RpF (F : Hp) : List (Str × V) → List (Str × D) → Prop
  | nil : RpF F [] []
  | cons {k : Str} {v : V} {vs : List (Str × V)} {d : D} {ds : List (Str × D)} : Rp F v d → RpF F vs ds → RpF F ((k, v) :: vs) ((k, d) :: ds)
end
end

section
variable {K : PySem.W.Frag} {mg : Str → Option Value} {F F' H H' : Hp}
theorem FT.mono {a : Addr} {xs : List V} (h : FT F a xs) (e : Same F F') : FT F' a xs := by
  obtain ⟨o, h1, h2⟩ := h
  exact ⟨o, e _ _ h1, h2⟩
mutual
theorem Rp.mono {v : V} {d : D} (e : Same F F') : Rp K mg F v d → Rp K mg F' v d
  | .non => .non
  | .bl b => .bl b
  | .int i => .int i
  | .str x => .str x
  | .tup h r => .tup (h.mono e) (RpA.mono e r)
  | .lst h r => .lst (e _ _ h) (RpA.mono e r)
  | .frl h r => .frl (e.seq h) (RpA.mono e r)
  | .dk h r => .dk (e _ _ h) (RpK.mono e r)
  | .dt h r => .dt (e _ _ h) (RpT.mono e r)
  | .obj g h r => .obj g (e _ _ h) (RpF.mono e r)
  | .exc g h r => .exc g (e _ _ h) (RpF.mono e r)
  | .fn g => .fn g
theorem RpA.mono {v : List V} {d : List D} (e : Same F F') : RpA K mg F v d → RpA K mg F' v d
  | .nil => .nil
  | .cons r t => .cons (Rp.mono e r) (RpA.mono e t)
theorem RpK.mono {v : List (Key × V)} {d : List (Key × D)} (e : Same F F') : RpK K mg F v d → RpK K mg F' v d
  | .nil => .nil
  | .cons r t => .cons (Rp.mono e r) (RpK.mono e t)
theorem RpT.mono {v : List (List Key × V)} {d : List (List Key × D)} (e : Same F F') : RpT K mg F v d → RpT K mg F' v d
  | .nil => .nil
  | .cons r t => .cons (Rp.mono e r) (RpT.mono e t)
theorem RpF.mono {v : List (Str × V)} {d : List (Str × D)} (e : Same F F') : RpF K mg F v d → RpF K mg F' v d
  | .nil => .nil
  | .cons r t => .cons (Rp.mono e r) (RpF.mono e t)
end
theorem RpA.len {vs : List V} {ds : List D} : RpA K mg F vs ds → vs.length = ds.length
  | .nil => rfl
  | .cons _ t => congrArg Nat.succ (RpA.len t)
theorem RpA.get {vs : List V} {ds : List D} : ∀ {i : Nat} {d : D}, RpA K mg F vs ds → ds[i]? = some d → ∃ v, vs[i]? = some v ∧ Rp K mg F v d
  | _, _, .nil, h => by simp at h
  | 0, _, .cons r _, h => by
    cases h
    exact ⟨_, rfl, r⟩
  | i + 1, d, .cons _ t, h => RpA.get (i := i) (d := d) t h
theorem RpA.getV {vs : List V} {ds : List D} : ∀ {i : Nat} {v : V}, RpA K mg F vs ds → vs[i]? = some v → ∃ d, ds[i]? = some d ∧ Rp K mg F v d
  | _, _, .nil, h => by simp at h
  | 0, _, .cons r _, h => by
    cases h
    exact ⟨_, rfl, r⟩
  | i + 1, d, .cons _ t, h => RpA.getV (i := i) (v := d) t h
theorem RpA.app {vs ws : List V} {ds es : List D} : RpA K mg F vs ds → RpA K mg F ws es → RpA K mg F (vs ++ ws) (ds ++ es)
  | .nil, s => s
  | .cons r t, s => .cons r (RpA.app t s)
theorem RpA.take {vs : List V} {ds : List D} : ∀ (n : Nat), RpA K mg F vs ds → RpA K mg F (vs.take n) (ds.take n)
  | 0, _ => by simpa using RpA.nil
  | n + 1, .nil => .nil
  | n + 1, .cons r t => .cons r (RpA.take n t)
theorem RpA.drop {vs : List V} {ds : List D} : ∀ (n : Nat), RpA K mg F vs ds → RpA K mg F (vs.drop n) (ds.drop n)
  | 0, r => r
  | n + 1, .nil => .nil
  | n + 1, .cons _ t => RpA.drop n t
theorem RpA.set {v : V} {d : D} (q : Rp K mg F v d) {vs : List V} {ds : List D} : ∀ (i : Nat), RpA K mg F vs ds → RpA K mg F (vs.set i v) (ds.set i d)
  | _, .nil => .nil
  | 0, .cons _ t => .cons q t
  | i + 1, .cons r t => .cons r (RpA.set q i t)
theorem RpA.erase {vs : List V} {ds : List D} : ∀ (i : Nat), RpA K mg F vs ds → RpA K mg F (vs.eraseIdx i) (ds.eraseIdx i)
  | _, .nil => .nil
  | 0, .cons _ t => t
  | i + 1, .cons r t => .cons r (RpA.erase i t)
theorem RpA.dropLast {vs : List V} {ds : List D} (r : RpA K mg F vs ds) : RpA K mg F vs.dropLast ds.dropLast := by
  rw [List.dropLast_eq_take, List.dropLast_eq_take, r.len]
  exact r.take _
theorem RpA.rev {vs : List V} {ds : List D} : RpA K mg F vs ds → RpA K mg F vs.reverse ds.reverse
  | .nil => .nil
  | .cons r t => by
    rw [List.reverse_cons, List.reverse_cons]
    exact (RpA.rev t).app (.cons r .nil)
theorem RpA.one {v : V} {d : D} (r : Rp K mg F v d) : RpA K mg F [v] [d] := .cons r .nil
theorem RpA.ints : ∀ (ns : List Int), RpA K mg F (ns.map V.int) (ns.map D.int)
  | [] => .nil
  | n :: r => .cons (.int n) (RpA.ints r)
theorem RpA.to_ints {vs : List V} : ∀ {ns : List Int}, RpA K mg F vs (ns.map D.int) → vs = ns.map V.int
  | [], .nil => rfl
  | n :: r, .cons h t => by
    cases h
    rw [RpA.to_ints t]
    rfl
theorem RpA.to_bls {vs : List V} : ∀ {ns : List Bool}, RpA K mg F vs (ns.map D.bl) → vs = ns.map V.bl
  | [], .nil => rfl
  | n :: r, .cons h t => by
    cases h
    rw [RpA.to_bls t]
    rfl
theorem RpA.to_strs {vs : List V} : ∀ {ns : List Str}, RpA K mg F vs (ns.map D.str) → vs = ns.map V.str
  | [], .nil => rfl
  | n :: r, .cons h t => by
    cases h
    rw [RpA.to_strs t]
    rfl

/-! ### what a def holds in its slots -/
/-- an object that one slot alone holds, and that may be changed -/
inductive Ow where
  | lst (xs : List D) | dk (kvs : List (Key × D)) | dt (kvs : List (List Key × D)) | ins (c : Str) (fs : List (Str × D))
/-- a slot: without a value; a value that stays; an object of one's own (io: the caller's, lent) -/
inductive Sl where
  | un | val (d : D) | own (io : Bool) (o : Ow)
abbrev En := List Sl
def isOw : Option Sl → Bool
  | some (.own _ _) => true
  | _ => false
def Ow.d : Ow → D
  | .lst xs => .lst xs
  | .dk kvs => .dk kvs
  | .dt kvs => .dt kvs
  | .ins c fs => .obj c fs
end
section
variable (K : PySem.W.Frag) (mg : Str → Option Value)
inductive OwOk (F H : Hp) (a : Addr) : Ow → Prop
  | lst {vs : List V} {ds : List D} : H a = some (.lst vs) → RpA K mg F vs ds → OwOk F H a (.lst ds)
  | dk {vs : List (Key × V)} {ds : List (Key × D)} : H a = some (.dK vs) → RpK K mg F vs ds → OwOk F H a (.dk ds)
  | dt {vs : List (List Key × V)} {ds : List (List Key × D)} : H a = some (.dT vs) → RpT K mg F vs ds → OwOk F H a (.dt ds)
  | ins {c : Str} {C dx : Addr} {vs : List (Str × V)} {ds : List (Str × D)} : mg c = some (.ref C) → H a = some (.ins C dx vs) → RpF K mg F vs ds → OwOk F H a (.ins c ds)
/-- the entry of a def (or of a comprehension's block): the frozen part, the heap, what may be changed, the lent objects' slots -/
structure Gh where
  F0 : Hp
  H0 : Hp
  O : Addr → Prop
  io : List (Nat × Addr)
structure Sat (G : Gh) (F H : Hp) (σ : St) (ρ : En) : Prop where
  fh : Same F H
  f0 : Same G.F0 F
  h0 : ∀ b o, G.H0 b = some o → ¬ G.O b → H b = some o
  fn : ∀ b o, F b = some o → G.F0 b = some o ∨ G.H0 b = none ∨ G.O b
  len : ρ.length = σ.length
  val : ∀ (i : Nat) (d : D), ρ[i]? = some (Sl.val d) → ∃ v, σ[i]? = some (some v) ∧ Rp K mg F v d
  own : ∀ (i : Nat) (io : Bool) (o : Ow), ρ[i]? = some (Sl.own io o) → ∃ a, σ[i]? = some (some (V.ref a)) ∧ F a = none ∧ OwOk K mg F H a o ∧ (G.O a ∨ G.H0 a = none)
  dis : ∀ (i j : Nat) (a : Addr), i ≠ j → isOw ρ[i]? = true → isOw ρ[j]? = true → σ[i]? = some (some (V.ref a)) → σ[j]? = some (some (V.ref a)) → False
  io : ∀ (k : Nat) (a : Addr), (k, a) ∈ G.io → σ[k]? = some (some (V.ref a)) ∧ ∃ o, ρ[k]? = some (Sl.own true o)
end
section
variable {K : PySem.W.Frag} {mg : Str → Option Value} {F F' H H' : Hp} {G : Gh} {σ : St} {ρ : En} {a : Addr} {o : Ow}
theorem OwOk.at (h : OwOk K mg F H a o) : ∃ u, H a = some u := by
  cases h with
  | lst h _ => exact ⟨_, h⟩
  | dk h _ => exact ⟨_, h⟩
  | dt h _ => exact ⟨_, h⟩
  | ins _ h _ => exact ⟨_, h⟩
theorem OwOk.mono (h : OwOk K mg F H a o) (e : Same F F') (k : H' a = H a) : OwOk K mg F' H' a o := by
  cases h with
  | lst h r => exact .lst (k.trans h) (r.mono e)
  | dk h r => exact .dk (k.trans h) (r.mono e)
  | dt h r => exact .dt (k.trans h) (r.mono e)
  | ins g h r => exact .ins g (k.trans h) (r.mono e)
/-- what new objects leave: frozen and heap grow, by fresh addresses alone -/
structure Ext (F H F' H' : Hp) : Prop where
  ff : Same F F'
  hh : Same H H'
  fh : Same F' H'
  nw : ∀ b o, F' b = some o → F b = some o ∨ H b = none
theorem Ext.refl (e : Same F H) : Ext F H F H := ⟨Same.refl _, Same.refl _, e, fun _ _ h => .inl h⟩
theorem same_upd {p : Addr} {u : HO} (h : H p = none) : Same H (upd H p u) := fun b x e => by
  rw [upd_ne (ne_of_none e h)]
  exact e
/-- a new object, frozen at once -/
theorem Ext.new {p : Addr} {u : HO} (e : Same F H) (hp : H p = none) : Ext F H (upd F p u) (upd H p u) := by
  have fp : F p = none := e.free hp
  refine ⟨same_upd fp, same_upd hp, fun b o q => ?_, fun b o q => ?_⟩
  · by_cases hb : b = p
    · subst hb
      rw [upd_same] at q ⊢
      exact q
    · rw [upd_ne hb] at q ⊢
      exact e b o q
  · by_cases hb : b = p
    · subst hb
      exact .inr hp
    · rw [upd_ne hb] at q
      exact .inl q
theorem Ext.trans {F2 H2 : Hp} (a : Ext F H F' H') (b : Ext F' H' F2 H2) : Ext F H F2 H2 := by
  refine ⟨a.ff.trans b.ff, a.hh.trans b.hh, b.fh, fun c o q => ?_⟩
  rcases b.nw c o q with h | h
  · exact a.nw c o h
  · exact .inr (a.hh.free h)
theorem Sat.fresh0 (S : Sat K mg G F H σ ρ) {p : Addr} (h : H p = none) : G.H0 p = none ∨ G.O p := by
  cases q : G.H0 p with
  | none => exact .inl rfl
  | some u =>
    refine .inr (Classical.byContradiction fun z => ?_)
    rw [S.h0 p u q z] at h
    cases h
theorem Sat.ext (S : Sat K mg G F H σ ρ) (e : Ext F H F' H') : Sat K mg G F' H' σ ρ := by
  refine ⟨e.fh, S.f0.trans e.ff, fun b o h n => e.hh b o (S.h0 b o h n), fun b o h => ?_, S.len, fun i d h => ?_, fun i io o h => ?_, S.dis, S.io⟩
  · rcases e.nw b o h with q | q
    · exact S.fn b o q
    · exact .inr (S.fresh0 q)
  · obtain ⟨v, h1, h2⟩ := S.val i d h
    exact ⟨v, h1, h2.mono e.ff⟩
  · obtain ⟨a, h1, h2, h3, h4⟩ := S.own i io o h
    obtain ⟨u, hu⟩ := h3.at
    refine ⟨a, h1, ?_, h3.mono e.ff ((e.hh a u hu).trans hu.symm), h4⟩
    cases q : F' a with
    | none => rfl
    | some z =>
      rcases e.nw a z q with q | q
      · rw [h2] at q; cases q
      · rw [hu] at q; cases q
end
end Mi
set_option Elab.async false
set_option linter.all false
set_option maxRecDepth 100000
set_option maxHeartbeats 1000000
/-! Mi, part B: results, the judgements, expressions. -/
namespace Mi
open PySem PySem.Spec PyProof.Rows L2

/-- an error of a class of one's own -/
structure Xc where
  c : Str
  fs : List (Str × D)
/-- what a piece comes to: a thing and the slots behind it; an error; not told -/
inductive R (α : Type) where
  | ok (a : α) (ρ : En) | ex (x : Xc) (ρ : En) | bad
def R.bind {α β : Type} (r : R α) (f : α → En → R β) : R β := match r with
  | .ok a ρ => f a ρ
  | .ex x ρ => .ex x ρ
  | .bad => .bad
/-- what an expression hands on: data, what a slot holds (looked at when it is used), a new object that nothing else names -/
inductive OV where
  | d (x : D) | o (i : Nat) | n (w : Ow)
/-- an operand that waits -/
inductive OB where
  | d (x : D) | o (i : Nat)
def OV.fz : OV → OB
  | .d x => .d x
  | .o i => .o i
  | .n w => .d w.d
def OB.get (ρ : En) : OB → Option D
  | .d x => some x
  | .o i => match ρ[i]? with
    | some (.own _ w) => some w.d
    | some (.val w) => some w
    | _ => none
abbrev EM := En → R OV
abbrev TM := En → R Bool
abbrev AM := En → R (List OB)

section
variable (K : PySem.W.Frag) (mg : Str → Option Value)
inductive RpB (F : Hp) (σ : St) : V → OB → Prop
  | d {v : V} {x : D} : Rp K mg F v x → RpB F σ v (.d x)
  | o {v : V} {i : Nat} : σ[i]? = some (some v) → RpB F σ v (.o i)
inductive RpBs (F : Hp) (σ : St) : List V → List OB → Prop
  | nil : RpBs F σ [] []
  | cons {v : V} {x : OB} {vs : List V} {xs : List OB} : RpB K mg F σ v x → RpBs F σ vs xs → RpBs F σ (v :: vs) (x :: xs)
inductive RpO (G : Gh) (F H : Hp) (σ : St) (ρ : En) : V → OV → Prop
  | d {v : V} {x : D} : Rp K mg F v x → RpO G F H σ ρ v (.d x)
  | o {v : V} {i : Nat} : σ[i]? = some (some v) → RpO G F H σ ρ v (.o i)
  | n {a : Addr} {w : Ow} : F a = none → OwOk K mg F H a w → (G.O a ∨ G.H0 a = none) → (∀ j : Nat, isOw ρ[j]? = true → σ[j]? = some (some (V.ref a)) → False) → RpO G F H σ ρ (.ref a) (.n w)
/-- an operand at the moment when it is used -/
inductive RpI (F H : Hp) : V → D → Prop
  | fz {v : V} {d : D} : Rp K mg F v d → RpI F H v d
  | own {a : Addr} {o : Ow} : OwOk K mg F H a o → RpI F H (.ref a) o.d
def Raised (W : WX) (G : Gh) (F : Hp) (σ : St) (x : Xc) (ρ : En) : Prop :=
  ∀ F' H' C d fs, mg x.c = some (.ref C) → Sat K mg G F' H' σ ρ → Same F F' → F' d = some (.xd fs) → RpF K mg F' fs x.fs → W (.ref C) (some d) σ H'
def Gd (W : WX) {α β : Type} (Rep : Gh → Hp → Hp → St → En → β → α → Prop) (G : Gh) (F : Hp) (σ : St) (r : R α) (Q : β → Hp → Prop) : Prop := match r with
  | .ok v ρ => ∀ F' H' x, Sat K mg G F' H' σ ρ → Same F F' → Rep G F' H' σ ρ x v → Q x H'
  | .ex x ρ => Raised K mg W G F σ x ρ
  | .bad => False
def tE (W : WX) (m : EM) : TE := fun σ H Q => ∃ G F ρ, Sat K mg G F H σ ρ ∧ Gd K mg W (RpO K mg) G F σ (m ρ) Q
def tA (W : WX) (m : AM) : TA := fun σ H Q => ∃ G F ρ, Sat K mg G F H σ ρ ∧ Gd K mg W (fun _ F _ σ _ => RpBs K mg F σ) G F σ (m ρ) Q
def tT (W : WX) (m : TM) : TT := fun σ H Q => ∃ G F ρ, Sat K mg G F H σ ρ ∧ Gd K mg W (fun _ _ _ _ _ b c => b = c) G F σ (m ρ) Q
end
abbrev ME (X : Cx) (W : WX) (e : Expr) (m : EM) : Prop := PE X e (tE X.K X.mg W m)
abbrev MA (X : Cx) (W : WX) (es : List Expr) (m : AM) : Prop := PA X es (tA X.K X.mg W m)
abbrev MT (X : Cx) (W : WX) (e : Expr) (m : TM) : Prop := PT X e (tT X.K X.mg W m)
abbrev MW (X : Cx) (W : WX) (e : Expr) (m : TM) : Prop := PW X e (tT X.K X.mg W m)

section
variable {K : PySem.W.Frag} {mg : Str → Option Value} {W : WX} {F F' H H' : Hp} {G : Gh} {σ : St} {ρ : En}
theorem RpB.mono {v : V} {x : OB} (e : Same F F') (r : RpB K mg F σ v x) : RpB K mg F' σ v x := by
  cases r with
  | d r => exact .d (r.mono e)
  | o h => exact .o h
theorem RpBs.mono {v : List V} {x : List OB} (e : Same F F') : RpBs K mg F σ v x → RpBs K mg F' σ v x
  | .nil => .nil
  | .cons r t => .cons (r.mono e) (RpBs.mono e t)
theorem Raised.mono {x : Xc} (e : Same F F') (h : Raised K mg W G F σ x ρ) : Raised K mg W G F' σ x ρ := fun F2 H2 C d fs g S e2 hd r => h F2 H2 C d fs g S (e.trans e2) hd r
theorem Gd.mono {α β : Type} {Rep : Gh → Hp → Hp → St → En → β → α → Prop} {r : R α} {Q : β → Hp → Prop} (e : Same F F') (h : Gd K mg W Rep G F σ r Q) : Gd K mg W Rep G F' σ r Q := by
  cases r with
  | ok v ρ => exact fun F2 H2 x S e2 r => h F2 H2 x S (e.trans e2) r
  | ex x ρ => exact Raised.mono e h
  | bad => exact h
/-- one piece behind another -/
theorem Gd.bind {α β γ δ : Type} {Rep : Gh → Hp → Hp → St → En → β → α → Prop} {Rep2 : Gh → Hp → Hp → St → En → δ → γ → Prop} {r : R α} {f : α → En → R γ} {Q : δ → Hp → Prop} {Q' : β → Hp → Prop} (h : Gd K mg W Rep2 G F σ (r.bind f) Q)
    (k : ∀ v ρ' F' H' x, r = .ok v ρ' → Sat K mg G F' H' σ ρ' → Same F F' → Rep G F' H' σ ρ' x v → Gd K mg W Rep2 G F' σ (f v ρ') Q → Q' x H') : Gd K mg W Rep G F σ r Q' := by
  cases r with
  | ok v ρ => exact fun F2 H2 x S e2 r => k v ρ F2 H2 x rfl S e2 r (Gd.mono e2 h)
  | ex x ρ => exact h
  | bad => exact h
theorem OwOk.rp {a : Addr} {o : Ow} (e : Same F H) (h : OwOk K mg F H a o) : Rp K mg H (.ref a) o.d := by
  cases h with
  | lst h r => exact .lst h (r.mono e)
  | dk h r => exact .dk h (r.mono e)
  | dt h r => exact .dt h (r.mono e)
  | ins g h r => exact .obj g h (r.mono e)
theorem RpI.rp {x : V} {d : D} (e : Same F H) (h : RpI K mg F H x d) : Rp K mg H x d := by
  cases h with
  | fz r => exact r.mono e
  | own o => exact o.rp e
/-- a list's items stay -/
theorem RpI.lst {x : V} {ds : List D} (e : Same F H) (h : RpI K mg F H x (.lst ds)) : ∃ a vs, x = .ref a ∧ H a = some (.lst vs) ∧ RpA K mg F vs ds := by
  generalize hd : D.lst ds = d at h
  cases h with
  | fz r =>
    cases r with
    | lst h r =>
      cases hd
      exact ⟨_, _, rfl, e _ _ h, r⟩
    | _ => cases hd
  | own o =>
    cases o with
    | lst h r =>
      cases hd
      exact ⟨_, _, rfl, h, r⟩
    | _ => cases hd
theorem RpI.tup {x : V} {ds : List D} (e : Same F H) (h : RpI K mg F H x (.tup ds)) : ∃ a vs, x = .ref a ∧ FT F a vs ∧ RpA K mg F vs ds := by
  generalize hd : D.tup ds = d at h
  cases h with
  | fz r =>
    cases r with
    | tup h r =>
      cases hd
      exact ⟨_, _, rfl, h, r⟩
    | _ => cases hd
  | own o =>
    cases o with
    | _ => cases hd
theorem RpI.int {x : V} {i : Int} (h : RpI K mg F H x (.int i)) : x = .int i := by
  generalize hd : D.int i = d at h
  cases h with
  | fz r =>
    cases r with
    | int =>
      cases hd
      rfl
    | _ => cases hd
  | own o =>
    cases o with
    | _ => cases hd
theorem RpI.bl {x : V} {i : Bool} (h : RpI K mg F H x (.bl i)) : x = .bl i := by
  generalize hd : D.bl i = d at h
  cases h with
  | fz r =>
    cases r with
    | bl =>
      cases hd
      rfl
    | _ => cases hd
  | own o =>
    cases o with
    | _ => cases hd
theorem RpI.str {x : V} {i : Str} (h : RpI K mg F H x (.str i)) : x = .str i := by
  generalize hd : D.str i = d at h
  cases h with
  | fz r =>
    cases r with
    | str =>
      cases hd
      rfl
    | _ => cases hd
  | own o =>
    cases o with
    | _ => cases hd
theorem RpI.non {x : V} (h : RpI K mg F H x .non) : x = .non := by
  generalize hd : D.non = d at h
  cases h with
  | fz r =>
    cases r with
    | non => rfl
    | _ => cases hd
  | own o =>
    cases o with
    | _ => cases hd
theorem Sat.get (S : Sat K mg G F H σ ρ) {x : V} {v : OB} {d : D} (r : RpB K mg F σ x v) (h : v.get ρ = some d) : RpI K mg F H x d := by
  cases r with
  | d r =>
    cases h
    exact .fz r
  | o e =>
    rename_i i
    have h' : (match ρ[i]? with
      | some (.own _ o) => some o.d
      | some (.val d) => some d
      | _ => none) = some d := h
    cases q : ρ[i]? with
    | none =>
      rw [q] at h'
      cases h'
    | some s =>
      rw [q] at h'
      cases s with
      | un => cases h'
      | val d' =>
        cases h'
        obtain ⟨w, h1, h2⟩ := S.val i _ q
        rw [e] at h1
        cases h1
        exact .fz h2
      | own io o =>
        cases h'
        obtain ⟨a, h1, h2, h3, h4⟩ := S.own i io o q
        rw [e] at h1
        cases h1
        exact .own h3

/-- an object of one's own is named by others from now on: it stays as it is -/
theorem Sat.freeze (S : Sat K mg G F H σ ρ) {a : Addr} {w : Ow} (fa : F a = none) (ok : OwOk K mg F H a w) (g : G.O a ∨ G.H0 a = none) (nj : ∀ j : Nat, isOw ρ[j]? = true → σ[j]? = some (some (V.ref a)) → False) :
    ∃ F', Same F F' ∧ Sat K mg G F' H σ ρ ∧ Rp K mg F' (.ref a) w.d ∧ ∀ b, b ≠ a → F' b = F b := by
  obtain ⟨u, hu⟩ := ok.at
  have sm : Same F (upd F a u) := same_upd fa
  refine ⟨upd F a u, sm, ⟨fun b o q => ?_, S.f0.trans sm, S.h0, fun b o q => ?_, S.len, fun i d q => ?_, fun i io o q => ?_, S.dis, S.io⟩, ?_, fun b hb => upd_ne hb⟩
  · by_cases hb : b = a
    · subst hb
      rw [upd_same] at q
      exact hu.trans q
    · rw [upd_ne hb] at q
      exact S.fh b o q
  · by_cases hb : b = a
    · subst hb
      rcases g with g | g
      · exact .inr (.inr g)
      · exact .inr (.inl g)
    · rw [upd_ne hb] at q
      exact S.fn b o q
  · obtain ⟨v, h1, h2⟩ := S.val i d q
    exact ⟨v, h1, h2.mono sm⟩
  · obtain ⟨c, h1, h2, h3, h4⟩ := S.own i io o q
    have hc : c ≠ a := fun e => by
      subst e
      exact nj i (by rw [q]; rfl) h1
    exact ⟨c, h1, by rw [upd_ne hc]; exact h2, h3.mono sm rfl, h4⟩
  · cases ok with
    | lst h r =>
      rw [h] at hu
      cases hu
      exact .lst upd_same (r.mono sm)
    | dk h r =>
      rw [h] at hu
      cases hu
      exact .dk upd_same (r.mono sm)
    | dt h r =>
      rw [h] at hu
      cases hu
      exact .dt upd_same (r.mono sm)
    | ins m h r =>
      rw [h] at hu
      cases hu
      exact .obj m upd_same (r.mono sm)
theorem Sat.fz (S : Sat K mg G F H σ ρ) {x : V} {v : OV} (r : RpO K mg G F H σ ρ x v) : ∃ F', Same F F' ∧ Sat K mg G F' H σ ρ ∧ RpB K mg F' σ x v.fz := by
  cases r with
  | d r => exact ⟨F, Same.refl _, S, .d r⟩
  | o h => exact ⟨F, Same.refl _, S, .o h⟩
  | n h1 h2 h3 h4 =>
    obtain ⟨F', a1, a2, a3, _⟩ := S.freeze h1 h2 h3 h4
    exact ⟨F', a1, a2, .d a3⟩
end

section
variable {X : Cx} {W : WX} {e : Expr} {m : EM}
theorem ME.weak {t : TE} (h : PE X e t) (k : ∀ {σ : St} {H : Hp} {Q : VK} {G : Gh} {F : Hp} {ρ : En}, Sat X.K X.mg G F H σ ρ → Gd X.K X.mg W (RpO X.K X.mg) G F σ (m ρ) Q → t σ H Q) : ME X W e m :=
  ⟨fun pins s σ H Q I ⟨_, _, _, S, g⟩ => h.run pins s σ H Q I (k S g)⟩
theorem MT.weak {e : Expr} {m : TM} {t : TT} (h : PT X e t) (k : ∀ {σ : St} {H : Hp} {Q : Bool → Hp → Prop} {G : Gh} {F : Hp} {ρ : En}, Sat X.K X.mg G F H σ ρ → Gd X.K X.mg W (fun _ _ _ _ _ b c => b = c) G F σ (m ρ) Q → t σ H Q) : MT X W e m :=
  ⟨fun pins s σ H Q I ⟨_, _, _, S, g⟩ => h.run pins s σ H Q I (k S g)⟩
theorem MW.weak {e : Expr} {m : TM} {t : TT} (h : PW X e t) (k : ∀ {σ : St} {H : Hp} {Q : Bool → Hp → Prop} {G : Gh} {F : Hp} {ρ : En}, Sat X.K X.mg G F H σ ρ → Gd X.K X.mg W (fun _ _ _ _ _ b c => b = c) G F σ (m ρ) Q → t σ H Q) : MW X W e m :=
  ⟨fun wh pins s σ H Q I ⟨_, _, _, S, g⟩ => h.run wh pins s σ H Q I (k S g)⟩
theorem MA.weak {es : List Expr} {m : AM} {t : TA} (h : PA X es t) (k : ∀ {σ : St} {H : Hp} {Q : List V → Hp → Prop} {G : Gh} {F : Hp} {ρ : En}, Sat X.K X.mg G F H σ ρ → Gd X.K X.mg W (fun _ F _ σ _ => RpBs X.K X.mg F σ) G F σ (m ρ) Q → t σ H Q) : MA X W es m :=
  ⟨fun pos pins s σ H Q I ⟨_, _, _, S, g⟩ => h.run pos pins s σ H Q I (k S g)⟩

/-! ### names, constants -/
/-- a slot: what it holds, at once (a value) or when it is used (an object of one's own) -/
def mVar (i : Nat) : EM := fun ρ => match ρ[i]? with
  | some (.val d) => .ok (.d d) ρ
  | some (.own _ _) => .ok (.o i) ρ
  | _ => .bad
def mC (d : D) : EM := fun ρ => .ok (.d d) ρ
theorem me_var (i : Nat) {x : Str} {pos : Pos} (h : PE X (.Name x pos) (tVar i)) : ME X W (.Name x pos) (mVar i) := by
  refine ME.weak h fun {σ H Q G F ρ} S g => ?_
  unfold mVar at g
  cases q : ρ[i]? with
  | none =>
    rw [q] at g
    exact g.elim
  | some s =>
    rw [q] at g
    cases s with
    | un => exact g.elim
    | val d =>
      obtain ⟨v, h1, h2⟩ := S.val i d q
      exact ⟨v, h1, g F H v S (Same.refl _) (.d h2)⟩
    | own io o =>
      obtain ⟨a, h1, _⟩ := S.own i io o q
      exact ⟨_, h1, g F H _ S (Same.refl _) (.o h1)⟩
theorem me_c {v : V} {d : D} (h : PE X e (tC v)) (r : ∀ F, Rp X.K X.mg F v d) : ME X W e (mC d) :=
  ME.weak h fun {σ H Q G F ρ} S g => g F H v S (Same.refl _) (.d (r F))
theorem me_int {i j pos} : ME X W (.Constant (.int i) j pos) (mC (.int i)) := me_c pe_int fun _ => .int i
theorem me_bl {b j pos} : ME X W (.Constant (.bool b) j pos) (mC (.bl b)) := me_c pe_bl fun _ => .bl b
theorem me_non {j pos} : ME X W (.Constant .none j pos) (mC .non) := me_c pe_non fun _ => .non
theorem me_str {x j pos} : ME X W (.Constant (.str x) j pos) (mC (.str x)) := me_c pe_str fun _ => .str x

/-! ### operators -/
/-- how a two-place rule of the layer reckons with data -/
def Op2 (K : PySem.W.Frag) (mg : Str → Option Value) (r : R2) (g : D → D → Option D) : Prop := ∀ {F H : Hp} {x y : V} {d e z : D} {Q : VK}, Same F H → RpI K mg F H x d → RpI K mg F H y e → g d e = some z →
  (∀ F' H' w, Ext F H F' H' → Rp K mg F' w z → Q w H') → r x y H Q
def Op1 (K : PySem.W.Frag) (mg : Str → Option Value) (r : V → Hp → VK → Prop) (g : D → Option D) : Prop := ∀ {F H : Hp} {x : V} {d z : D} {Q : VK}, Same F H → RpI K mg F H x d → g d = some z →
  (∀ F' H' w, Ext F H F' H' → Rp K mg F' w z → Q w H') → r x H Q
def rz (o : Option D) (ρ : En) : R OV := match o with
  | some z => .ok (.d z) ρ
  | none => .bad
def ap2 (g : D → D → Option D) (v u : OB) (ρ : En) : R OV := match v.get ρ with
  | some d => (match u.get ρ with
    | some e => rz (g d e) ρ
    | none => .bad)
  | none => .bad
def ap1 (g : D → Option D) (v : OB) (ρ : En) : R OV := match v.get ρ with
  | some d => rz (g d) ρ
  | none => .bad
def mB (g : D → D → Option D) (ma mb : EM) : EM := fun ρ => (ma ρ).bind fun v ρ => (mb ρ).bind fun u ρ => ap2 g v.fz u.fz ρ
def mU (g : D → Option D) (ma : EM) : EM := fun ρ => (ma ρ).bind fun v ρ => ap1 g v.fz ρ
variable {K : PySem.W.Frag} {mg : Str → Option Value} {F F' H H' : Hp} {G : Gh} {σ : St} {ρ : En}
theorem fin_rz {o : Option D} {Q : VK} (S : Sat K mg G F H σ ρ) (g : Gd K mg W (RpO K mg) G F σ (rz o ρ) Q) : ∃ z, o = some z ∧ ∀ F' H' w, Ext F H F' H' → Rp K mg F' w z → Q w H' := by
  cases o with
  | none => exact g.elim
  | some z => exact ⟨z, rfl, fun F' H' w e r => g F' H' w (S.ext e) e.ff (.d r)⟩
theorem fin2 {g : D → D → Option D} {r : R2} {x y : V} {v u : OB} {Q : VK} (o : Op2 K mg r g) (S : Sat K mg G F H σ ρ) (rx : RpB K mg F σ x v) (ry : RpB K mg F σ y u) (h : Gd K mg W (RpO K mg) G F σ (ap2 g v u ρ) Q) : r x y H Q := by
  unfold ap2 at h
  cases q1 : v.get ρ with
  | none =>
    rw [q1] at h
    exact h.elim
  | some d =>
    rw [q1] at h
    cases q2 : u.get ρ with
    | none =>
      rw [q2] at h
      exact h.elim
    | some e =>
      rw [q2] at h
      obtain ⟨z, hz, k⟩ := fin_rz S h
      exact o S.fh (S.get rx q1) (S.get ry q2) hz k
theorem fin1 {g : D → Option D} {r : V → Hp → VK → Prop} {x : V} {v : OB} {Q : VK} (o : Op1 K mg r g) (S : Sat K mg G F H σ ρ) (rx : RpB K mg F σ x v) (h : Gd K mg W (RpO K mg) G F σ (ap1 g v ρ) Q) : r x H Q := by
  unfold ap1 at h
  cases q1 : v.get ρ with
  | none =>
    rw [q1] at h
    exact h.elim
  | some d =>
    rw [q1] at h
    obtain ⟨z, hz, k⟩ := fin_rz S h
    exact o S.fh (S.get rx q1) hz k
theorem sub {ma : EM} {Q : VK} (S : Sat K mg G F H σ ρ) (h : Gd K mg W (RpO K mg) G F σ (ma ρ) Q) : tE K mg W ma σ H Q := ⟨G, F, ρ, S, h⟩
/-- an operand, then the rest -/
theorem Gd.opd {γ δ : Type} {Rep2 : Gh → Hp → Hp → St → En → δ → γ → Prop} {r : R OV} {f : OB → En → R γ} {Q : δ → Hp → Prop} {Q' : V → Hp → Prop} (h : Gd K mg W Rep2 G F σ (r.bind fun v ρ => f v.fz ρ) Q)
    (k : ∀ v ρ' F' H' x, Sat K mg G F' H' σ ρ' → Same F F' → RpB K mg F' σ x v → Gd K mg W Rep2 G F' σ (f v ρ') Q → Q' x H') : Gd K mg W (RpO K mg) G F σ r Q' :=
  Gd.bind h fun v ρ1 F1 H1 x _ S1 e1 r1 k1 => by
    obtain ⟨F2, e2, S2, r2⟩ := S1.fz r1
    exact k v.fz ρ1 F2 H1 x S2 (e1.trans e2) r2 (Gd.mono e2 k1)
theorem two_ok {r : R2} {g : D → D → Option D} {ma mb : EM} {Q : VK} (o : Op2 K mg r g) (S : Sat K mg G F H σ ρ) (k : Gd K mg W (RpO K mg) G F σ (mB g ma mb ρ) Q) : tOp r (tE K mg W ma) (tE K mg W mb) σ H Q :=
  sub S (Gd.opd (f := fun v ρ => (mb ρ).bind fun u ρ => ap2 g v u.fz ρ) k fun v ρ1 F1 H1 x S1 e1 r1 k1 => sub S1 (Gd.opd (f := fun u ρ => ap2 g v u ρ) k1 fun u ρ2 F2 H2 y S2 e2 r2 k2 => fin2 o S2 (r1.mono e2) r2 k2))
theorem one_ok {r : V → Hp → VK → Prop} {g : D → Option D} {ma : EM} {Q : VK} (o : Op1 K mg r g) (S : Sat K mg G F H σ ρ) (k : Gd K mg W (RpO K mg) G F σ (mU g ma ρ) Q) : tUn r (tE K mg W ma) σ H Q :=
  sub S (Gd.opd (f := fun v ρ => ap1 g v ρ) k fun v ρ1 F1 H1 x S1 e1 r1 k1 => fin1 o S1 r1 k1)
theorem me_op {a b : Expr} {op : Operator} {r : R2} {g : D → D → Option D} {ma mb : EM} {pos : Pos} (o : Op2 X.K X.mg r g) (ho : OpR X (binaryOp op) r) (ha : ME X W a ma) (hb : ME X W b mb) : ME X W (.BinOp a op b pos) (mB g ma mb) :=
  ME.weak (pe_op ho ha hb) fun S k => two_ok o S k
theorem me_cmp {a b : Expr} {op : CmpOp} {r : R2} {g : D → D → Option D} {ma mb : EM} {pos : Pos} (o : Op2 X.K X.mg r g) (ho : OpR X (compareOp op) r) (ha : ME X W a ma) (hb : ME X W b mb) (hm : behindInMarks op b = false) : ME X W (.Compare a [op] [b] pos) (mB g ma mb) :=
  ME.weak (pe_cmpR ho ha hb hm) fun S k => two_ok o S k
theorem me_ix {a b : Expr} {r : R2} {g : D → D → Option D} {ma mb : EM} {pos : Pos} (o : Op2 X.K X.mg r g) (ho : IxR X r) (ha : ME X W a ma) (hb : ME X W b mb) (hs : PlainIx b) : ME X W (.Subscript a b pos) (mB g ma mb) :=
  ME.weak (pe_ix ho ha hb hs) fun S k => two_ok o S k
theorem me_un {a : Expr} {op : UnaryOp} {r : V → Hp → VK → Prop} {g : D → Option D} {ma : EM} {pos : Pos} (o : Op1 X.K X.mg r g) (ho : UnR X (unaryOp op) r) (ha : ME X W a ma) : ME X W (.UnaryOp op a pos) (mU g ma) :=
  ME.weak (pe_un ho ha) fun S k => one_ok o S k

/-! ### tests -/
def tb (v : OV) (ρ : En) : R Bool := match v with
  | .d (.bl b) => .ok b ρ
  | _ => .bad
/-- an expression that gives True or False, as a test -/
def mTst (m : EM) : TM := fun ρ => (m ρ).bind tb
theorem Gd.tst {m : EM} {Q : Bool → Hp → Prop} (k : Gd K mg W (fun _ _ _ _ _ b c => b = c) G F σ (mTst m ρ) Q) : Gd K mg W (RpO K mg) G F σ (m ρ) (fun x H' => ∃ c, x = .bl c ∧ Q c H') :=
  Gd.bind k fun v ρ1 F1 H1 x _ S1 e1 r1 k1 => by
    cases r1 with
    | d r =>
      cases r with
      | bl b => exact ⟨b, rfl, k1 F1 H1 b S1 (Same.refl _) rfl⟩
      | _ => exact k1.elim
    | o h => exact k1.elim
    | n => exact k1.elim
theorem mt_val {e : Expr} {m : EM} (h : ME X W e m) (he : ∀ whole, isTrue e X.env whole = (do let v ← whole; standAt e.pos; holding [v] (truthy v)) := by intro _; rfl) : MT X W e (mTst m) :=
  MT.weak (pt_val h he) fun S k => sub S (Gd.tst k)
theorem mt_cmp {a b : Expr} {op : CmpOp} {r : R2} {g : D → D → Option D} {ma mb : EM} {pos : Pos} (o : Op2 X.K X.mg r g) (ho : OpR X (compareOp op) r) (ha : ME X W a ma) (hb : ME X W b mb) (hm : behindInMarks op b = false) : MT X W (.Compare a [op] [b] pos) (mTst (mB g ma mb)) :=
  MT.weak (pt_cmpR ho ha hb hm) fun S k => two_ok o S (Gd.tst k)
def mAnd (a b : TM) : TM := fun ρ => (a ρ).bind fun c ρ => if c then b ρ else .ok false ρ
def mOr (a b : TM) : TM := fun ρ => (a ρ).bind fun c ρ => if c then .ok true ρ else b ρ
def mNot (a : TM) : TM := fun ρ => (a ρ).bind fun c ρ => .ok (!c) ρ
theorem subT {m : TM} {Q : Bool → Hp → Prop} (S : Sat K mg G F H σ ρ) (h : Gd K mg W (fun _ _ _ _ _ b c => b = c) G F σ (m ρ) Q) : tT K mg W m σ H Q := ⟨G, F, ρ, S, h⟩
theorem mw_and1 {a : Expr} {ma : TM} {pos : Pos} (ha : MT X W a ma) : MW X W (.BoolOp .And [a] pos) ma := pw_and1 ha
theorem mw_or1 {a : Expr} {ma : TM} {pos : Pos} (ha : MT X W a ma) : MW X W (.BoolOp .Or [a] pos) ma := pw_or1 ha
theorem mw_and {a b : Expr} {rest : List Expr} {ma mb : TM} {pos : Pos} (ha : MT X W a ma) (hb : MW X W (.BoolOp .And (b :: rest) pos) mb) : MW X W (.BoolOp .And (a :: b :: rest) pos) (mAnd ma mb) :=
  MW.weak (pw_and ha hb) fun S k => subT S (Gd.bind k fun c ρ1 F1 H1 x _ S1 e1 r1 k1 => by
    subst r1
    cases x with
    | true => exact subT S1 k1
    | false => exact k1 F1 H1 false S1 (Same.refl _) rfl)
theorem mw_or {a b : Expr} {rest : List Expr} {ma mb : TM} {pos : Pos} (ha : MT X W a ma) (hb : MW X W (.BoolOp .Or (b :: rest) pos) mb) : MW X W (.BoolOp .Or (a :: b :: rest) pos) (mOr ma mb) :=
  MW.weak (pw_or ha hb) fun S k => subT S (Gd.bind k fun c ρ1 F1 H1 x _ S1 e1 r1 k1 => by
    subst r1
    cases x with
    | false => exact subT S1 k1
    | true => exact k1 F1 H1 true S1 (Same.refl _) rfl)
theorem mt_not {a : Expr} {ma : TM} {pos : Pos} (ha : MT X W a ma) : MT X W (.UnaryOp .Not a pos) (mNot ma) :=
  MT.weak (pt_not ha) fun S k => subT S (Gd.bind k fun c ρ1 F1 H1 x _ S1 e1 r1 k1 => by
    subst r1
    exact k1 F1 H1 _ S1 (Same.refl _) rfl)
/-- as values -/
def bD (c : Bool) (ρ : En) : R OV := .ok (.d (.bl c)) ρ
def mAndV (a b : EM) : EM := fun ρ => (mTst a ρ).bind fun c ρ => if c then b ρ else bD false ρ
def mOrV (a b : EM) : EM := fun ρ => (mTst a ρ).bind fun c ρ => if c then bD true ρ else b ρ
def mNotV (a : EM) : EM := fun ρ => (mTst a ρ).bind fun c ρ => bD (!c) ρ
/-- an expression that must be True or False, then the rest -/
theorem Gd.tstV {m : EM} {f : Bool → En → R OV} {Q : VK} {Q' : VK} (k : Gd K mg W (RpO K mg) G F σ ((mTst m ρ).bind f) Q)
    (h : ∀ c ρ1 F1 H1, Sat K mg G F1 H1 σ ρ1 → Same F F1 → Gd K mg W (RpO K mg) G F1 σ (f c ρ1) Q → Q' (.bl c) H1) : Gd K mg W (RpO K mg) G F σ (m ρ) Q' := by
  have k2 : Gd K mg W (RpO K mg) G F σ ((m ρ).bind fun v ρ => (tb v ρ).bind f) Q := by
    unfold mTst at k
    cases q : m ρ with
    | ok v ρ1 => rw [q] at k; exact k
    | ex x ρ1 => rw [q] at k; exact k
    | bad => rw [q] at k; exact k
  refine Gd.bind k2 fun v ρ1 F1 H1 x _ S1 e1 r1 k1 => ?_
  cases r1 with
  | d r =>
    cases r with
    | bl b => exact h b ρ1 F1 H1 S1 e1 k1
    | _ => exact k1.elim
  | o h => exact k1.elim
  | n => exact k1.elim
theorem me_one {a : Expr} {op : BoolOp} {m : EM} {pos : Pos} (h : ME X W a m) : ME X W (.BoolOp op [a] pos) m := pe_one h
theorem me_and {a b : Expr} {rest : List Expr} {ma mb : EM} {pos : Pos} (ha : ME X W a ma) (hb : ME X W (.BoolOp .And (b :: rest) pos) mb) : ME X W (.BoolOp .And (a :: b :: rest) pos) (mAndV ma mb) :=
  ME.weak (pe_and ha hb) fun S k => sub S (Gd.tstV k fun c ρ1 F1 H1 S1 e1 k1 => by
    cases c with
    | true => exact ⟨true, rfl, sub S1 k1⟩
    | false => exact ⟨false, rfl, k1 F1 H1 _ S1 (Same.refl _) (.d (.bl _))⟩)
theorem me_or {a b : Expr} {rest : List Expr} {ma mb : EM} {pos : Pos} (ha : ME X W a ma) (hb : ME X W (.BoolOp .Or (b :: rest) pos) mb) : ME X W (.BoolOp .Or (a :: b :: rest) pos) (mOrV ma mb) :=
  ME.weak (pe_or ha hb) fun S k => sub S (Gd.tstV k fun c ρ1 F1 H1 S1 e1 k1 => by
    cases c with
    | false => exact ⟨false, rfl, sub S1 k1⟩
    | true => exact ⟨true, rfl, k1 F1 H1 _ S1 (Same.refl _) (.d (.bl _))⟩)
theorem me_not {a : Expr} {ma : EM} {pos : Pos} (ha : ME X W a ma) : ME X W (.UnaryOp .Not a pos) (mNotV ma) :=
  ME.weak (pe_not ha) fun S k => sub S (Gd.tstV k fun c ρ1 F1 H1 S1 e1 k1 => ⟨c, rfl, k1 F1 H1 _ S1 (Same.refl _) (.d (.bl _))⟩)
def mIf (c : TM) (a b : EM) : EM := fun ρ => (c ρ).bind fun c ρ => if c then a ρ else b ρ
theorem me_if {c a b : Expr} {mc : TM} {ma mb : EM} {pos : Pos} (hc : MT X W c mc) (ha : ME X W a ma) (hb : ME X W b mb) : ME X W (.IfExp c a b pos) (mIf mc ma mb) :=
  ME.weak (pe_ifExp hc ha hb) fun S k => subT S (Gd.bind k fun c ρ1 F1 H1 x _ S1 e1 r1 k1 => by
    subst r1
    cases x with
    | true => exact sub S1 k1
    | false => exact sub S1 k1)
end
end Mi
set_option Elab.async false
set_option linter.all false
set_option maxRecDepth 100000
set_option maxHeartbeats 1000000
/-! Mi, part C: operators, built-ins on data. -/
namespace Mi
open PySem PySem.Spec PyProof.Rows L2
def BIG : Nat := 1000000
theorem BIG_le : BIG ≤ sizeLine := by rw [sizeLine_eq]; decide
/-! ### data as the library compares it -/
mutual
def D.py : D → PyData
  | .non => .none
  | .bl b => .bool b
  | .int i => .int i
  | .str x => .str x
  | .tup xs => .tuple (D.pys xs)
  | .lst xs => .list (D.pys xs)
  | .frl _ => .none
  | .dk _ => .none
  | .dt _ => .none
  | .obj _ _ => .none
  | .exc _ _ _ _ => .none
  | .fn _ => .none
def D.pys : List D → List PyData
  | [] => []
  | x :: r => x.py :: D.pys r
end
mutual
/-- it can be compared by ==, and is at most n deep -/
def D.cmp : Nat → D → Bool
  | _, .non => true
  | _, .bl _ => true
  | _, .int _ => true
  | _, .str x => PyData.strOk x
  | 0, .tup _ => false
  | 0, .lst _ => false
  | n + 1, .tup xs => D.cmps n xs
  | n + 1, .lst xs => D.cmps n xs
  | _, _ => false
def D.cmps : Nat → List D → Bool
  | _, [] => true
  | n, x :: r => D.cmp n x && D.cmps n r
end
mutual
theorem cmp_lay : ∀ (n : Nat) (d : D), d.cmp n = true → d.py.canLay0 = true ∧ d.py.depth ≤ n
  | n, .non, _ => by simp [D.py, PyData.canLay0, PyData.depth]
  | n, .bl _, _ => by simp [D.py, PyData.canLay0, PyData.depth]
  | n, .int _, _ => by simp [D.py, PyData.canLay0, PyData.depth]
  | n, .str x, h => by
    have h' : PyData.strOk x = true := by simpa [D.cmp] using h
    simp [D.py, PyData.canLay0, PyData.depth, h']
  | 0, .tup _, h => by simp [D.cmp] at h
  | 0, .lst _, h => by simp [D.cmp] at h
  | n + 1, .tup xs, h => by
    obtain ⟨h1, h2⟩ := cmps_lay n xs (by simpa [D.cmp] using h)
    simp [D.py, PyData.canLay0, PyData.depth, h1, h2]
  | n + 1, .lst xs, h => by
    obtain ⟨h1, h2⟩ := cmps_lay n xs (by simpa [D.cmp] using h)
    simp [D.py, PyData.canLay0, PyData.depth, h1, h2]
  | _, .frl _, h => by simp [D.cmp] at h
  | _, .dk _, h => by simp [D.cmp] at h
  | _, .dt _, h => by simp [D.cmp] at h
  | _, .obj _ _, h => by simp [D.cmp] at h
  | _, .exc _ _ _ _, h => by simp [D.cmp] at h
  | _, .fn _, h => by simp [D.cmp] at h
theorem cmps_lay : ∀ (n : Nat) (ds : List D), D.cmps n ds = true → PyData.canLayAll0 (D.pys ds) = true ∧ PyData.depthAll (D.pys ds) ≤ n
  | n, [], _ => by simp [D.pys, PyData.canLayAll0, PyData.depthAll]
  | n, x :: r, h => by
    have h' : D.cmp n x = true ∧ D.cmps n r = true := by simpa [D.cmps] using h
    obtain ⟨a1, a2⟩ := cmp_lay n x h'.1
    obtain ⟨b1, b2⟩ := cmps_lay n r h'.2
    refine ⟨by simp [D.pys, PyData.canLayAll0, a1, b1], ?_⟩
    show max (PyData.depth x.py) (PyData.depthAll (D.pys r)) ≤ n
    omega
end
section
variable {K : PySem.W.Frag} {mg : Str → Option Value} {F H : Hp}
mutual
theorem rp_dp : ∀ (n : Nat) (d : D) (v : V), d.cmp n = true → Rp K mg F v d → Dp K F v d.py
  | n, .non, _, _, .non => by simp only [D.py]; exact .non
  | n, .bl _, _, _, .bl b => by simp only [D.py]; exact .bl b
  | n, .int _, _, _, .int b => by simp only [D.py]; exact .int b
  | n, .str _, _, _, .str b => by simp only [D.py]; exact .str b
  | 0, .tup _, _, h, _ => by simp [D.cmp] at h
  | 0, .lst _, _, h, _ => by simp [D.cmp] at h
  | n + 1, .tup xs, _, h, .tup s r => by simp only [D.py]; exact .tup s.seq (rp_dps n xs _ (by simpa [D.cmp] using h) r)
  | n + 1, .lst xs, _, h, .lst s r => by simp only [D.py]; exact .lst (.of s) (rp_dps n xs _ (by simpa [D.cmp] using h) r)
  | _, .frl _, _, h, _ => by simp [D.cmp] at h
  | _, .dk _, _, h, _ => by simp [D.cmp] at h
  | _, .dt _, _, h, _ => by simp [D.cmp] at h
  | _, .obj _ _, _, h, _ => by simp [D.cmp] at h
theorem rp_dps : ∀ (n : Nat) (ds : List D) (vs : List V), D.cmps n ds = true → RpA K mg F vs ds → DpAll K F vs (D.pys ds)
  | n, [], _, _, .nil => .nil
  | n, x :: r, _, h, .cons a b => by
    have h' : D.cmp n x = true ∧ D.cmps n r = true := by simpa [D.cmps] using h
    exact .cons (rp_dp n x _ h'.1 a) (rp_dps n r _ h'.2 b)
end
theorem cmp_shaped {d : D} (h : d.cmp 40 = true) : SeqAt.shaped d.py = true := by
  obtain ⟨h1, h2⟩ := cmp_lay 40 d h
  unfold SeqAt.shaped
  rw [h1, decide_eq_true (by omega : d.py.depth ≤ 64)]
  rfl
end
/-! ### the functions on data -/
def dEq (x y : D) : Option D := if x.cmp 40 && y.cmp 40 then some (.bl (PyData.eqv x.py y.py)) else none
def dNe (x y : D) : Option D := if x.cmp 40 && y.cmp 40 then some (.bl (!PyData.eqv x.py y.py)) else none
def dAdd : D → D → Option D
  | .int a, .int b => some (.int (a + b))
  | .tup a, .tup b => if a.length + b.length ≤ BIG then some (.tup (a ++ b)) else none
  | .lst a, .lst b => if a.length + b.length ≤ BIG then some (.lst (a ++ b)) else none
  | .str a, .str b => if a.length + b.length ≤ BIG then some (.str (a ++ b)) else none
  | _, _ => none
def dSub : D → D → Option D
  | .int a, .int b => some (.int (a - b))
  | _, _ => none
def dMul : D → D → Option D
  | .int a, .int b => if (-(2 ^ 64) < a ∧ a < 2 ^ 64) ∨ (-(2 ^ 64) < b ∧ b < 2 ^ 64) then some (.int (a * b)) else none
  | _, _ => none
def dDiv : D → D → Option D
  | .int a, .int b => if 0 < b ∧ b < 1073741824 then some (.int (a / b)) else none
  | _, _ => none
def dMod : D → D → Option D
  | .int a, .int b => if 0 < b then some (.int (a % b)) else none
  | _, _ => none
def dPow : D → D → Option D
  | .int a, .int b => if 0 ≤ b ∧ (Builtin.Int.intBits a : Int) * b ≤ 2 ^ 27 then some (.int (a ^ b.toNat)) else none
  | _, _ => none
def dNeg : D → Option D
  | .int a => some (.int (-a))
  | _ => none
def dLt : D → D → Option D
  | .int a, .int b => some (.bl (decide (a < b)))
  | _, _ => none
def dLe : D → D → Option D
  | .int a, .int b => some (.bl (decide (a ≤ b)))
  | _, _ => none
def dGt : D → D → Option D
  | .int a, .int b => some (.bl (decide (b < a)))
  | _, _ => none
def dGe : D → D → Option D
  | .int a, .int b => some (.bl (decide (b ≤ a)))
  | _, _ => none
/-- is, is not: None, True, False on the right -/
def dIs : D → D → Option D
  | .bl a, .bl b => some (.bl (decide (a = b)))
  | _, _ => none
def dIsNot : D → D → Option D
  | .bl a, .bl b => some (.bl (!decide (a = b)))
  | _, _ => none
/-- flat data, and how it is compared -/
def D.flat : D → Bool
  | .non => true
  | .bl _ => true
  | .int _ => true
  | .str _ => true
  | _ => false
def D.eqf : D → D → Bool
  | .non, .non => true
  | .bl a, .bl b => a == b
  | .bl a, .int b => (if a then 1 else 0) == b
  | .int a, .bl b => a == (if b then 1 else 0)
  | .int a, .int b => a == b
  | .str a, .str b => a == b
  | _, _ => false
def keyD : D → Option Key
  | .int i => some (.inl i)
  | .str x => some (.inr x)
  | _ => none
def lookK (kvs : List (Key × D)) (k : Key) : Option D := (kvs.find? fun kv => decide (kv.1 = k)).map (·.2)
def dIn : D → D → Option D
  | x, .lst ys => if x.flat && ys.all D.flat then some (.bl (ys.any fun y => y.eqf x)) else none
  | x, .tup ys => if x.flat && ys.all D.flat then some (.bl (ys.any fun y => y.eqf x)) else none
  | _, _ => none
def dNotIn : D → D → Option D
  | x, .lst ys => if x.flat && ys.all D.flat then some (.bl (!(ys.any fun y => y.eqf x))) else none
  | x, .tup ys => if x.flat && ys.all D.flat then some (.bl (!(ys.any fun y => y.eqf x))) else none
  | _, _ => none
def dIx : D → D → Option D
  | .lst xs, .int i => atI xs i
  | .tup xs, .int i => atI xs i
  | _, _ => none

section
variable {K : PySem.W.Frag} {mg : Str → Option Value}
theorem if_some {c : Prop} [Decidable c] {α : Type} {x z : α} (h : (if c then some x else none) = some z) : c ∧ x = z := by
  by_cases hc : c
  · rw [if_pos hc] at h
    exact ⟨hc, Option.some.inj h⟩
  · rw [if_neg hc] at h
    cases h
theorem o_eq : Op2 K mg (rEqD K) dEq := fun {F H x y d e z Q} hs rx ry h q => by
  obtain ⟨c, rfl⟩ := if_some h
  obtain ⟨c1, c2⟩ := Bool.and_eq_true_iff.mp c
  exact ⟨d.py, e.py, rp_dp 40 d x c1 (rx.rp hs), rp_dp 40 e y c2 (ry.rp hs), cmp_shaped c1, cmp_shaped c2, q F H _ (.refl hs) (.bl _)⟩
theorem o_ne : Op2 K mg (rNeD K) dNe := fun {F H x y d e z Q} hs rx ry h q => by
  obtain ⟨c, rfl⟩ := if_some h
  obtain ⟨c1, c2⟩ := Bool.and_eq_true_iff.mp c
  exact ⟨d.py, e.py, rp_dp 40 d x c1 (rx.rp hs), rp_dp 40 e y c2 (ry.rp hs), cmp_shaped c1, cmp_shaped c2, q F H _ (.refl hs) (.bl _)⟩
/-- two ints -/
theorem o_ints {f : D → D → Option D} {C : Int → Int → Prop} {g : Int → Int → V} (h : ∀ d e z, f d e = some z → ∃ i j, d = .int i ∧ e = .int j ∧ C i j ∧ ∀ F, Rp K mg F (g i j) z) : Op2 K mg (rI C g) f := fun {F H x y d e z Q} hs rx ry e q => by
  obtain ⟨i, j, rfl, rfl, c, r⟩ := h _ _ _ e
  exact ⟨i, j, rx.int, ry.int, c, q F H _ (.refl hs) (r F)⟩
theorem o_ints0 {f : D → D → Option D} {g : Int → Int → V} (h : ∀ d e z, f d e = some z → ∃ i j, d = .int i ∧ e = .int j ∧ ∀ F, Rp K mg F (g i j) z) : Op2 K mg (rI0 g) f := fun {F H x y d e z Q} hs rx ry e q => by
  obtain ⟨i, j, rfl, rfl, r⟩ := h _ _ _ e
  exact ⟨i, j, rx.int, ry.int, q F H _ (.refl hs) (r F)⟩
theorem o_sub : Op2 K mg (rI0 fun i j => .int (i - j)) dSub := o_ints0 fun d e z h => by
  cases d <;> cases e <;> first | (cases h; done) | (cases h; exact ⟨_, _, rfl, rfl, fun _ => .int _⟩)
theorem o_mul : Op2 K mg (rI CMul fun i j => .int (i * j)) dMul := o_ints fun d e z h => by
  cases d <;> cases e <;> first | (cases h; done) | (obtain ⟨c, rfl⟩ := if_some h; exact ⟨_, _, rfl, rfl, c, fun _ => .int _⟩)
theorem o_div : Op2 K mg (rI CDiv fun i j => .int (i / j)) dDiv := o_ints fun d e z h => by
  cases d <;> cases e <;> first | (cases h; done) | (obtain ⟨c, rfl⟩ := if_some h; exact ⟨_, _, rfl, rfl, c, fun _ => .int _⟩)
theorem o_mod : Op2 K mg (rI (fun _ j => 0 < j) fun i j => .int (i % j)) dMod := o_ints fun d e z h => by
  cases d <;> cases e <;> first | (cases h; done) | (obtain ⟨c, rfl⟩ := if_some h; exact ⟨_, _, rfl, rfl, c, fun _ => .int _⟩)
def CPowW (i j : Int) : Prop := 0 ≤ j ∧ (Builtin.Int.intBits i : Int) * j ≤ 2 ^ 27
theorem op_powW {X : Cx} : OpR X (binaryOp .Pow) (rI CPowW fun i j => .int (i ^ j.toNat)) := opI fun _ _ _ _ _ _ _ hc q => pow_int hc.1 hc.2 q
theorem o_pow : Op2 K mg (rI CPowW fun i j => .int (i ^ j.toNat)) dPow := o_ints fun d e z h => by
  cases d <;> cases e <;> first | (cases h; done) | (obtain ⟨c, rfl⟩ := if_some h; exact ⟨_, _, rfl, rfl, c, fun _ => .int _⟩)
theorem o_lt : Op2 K mg (rI0 fun i j => .bl (decide (i < j))) dLt := o_ints0 fun d e z h => by
  cases d <;> cases e <;> first | (cases h; done) | (cases h; exact ⟨_, _, rfl, rfl, fun _ => .bl _⟩)
theorem o_le : Op2 K mg (rI0 fun i j => .bl (decide (i ≤ j))) dLe := o_ints0 fun d e z h => by
  cases d <;> cases e <;> first | (cases h; done) | (cases h; exact ⟨_, _, rfl, rfl, fun _ => .bl _⟩)
theorem o_gt : Op2 K mg (rI0 fun i j => .bl (decide (j < i))) dGt := o_ints0 fun d e z h => by
  cases d <;> cases e <;> first | (cases h; done) | (cases h; exact ⟨_, _, rfl, rfl, fun _ => .bl _⟩)
theorem o_ge : Op2 K mg (rI0 fun i j => .bl (decide (j ≤ i))) dGe := o_ints0 fun d e z h => by
  cases d <;> cases e <;> first | (cases h; done) | (cases h; exact ⟨_, _, rfl, rfl, fun _ => .bl _⟩)
theorem o_is : Op2 K mg rIsB dIs := fun {F H x y d e z Q} hs rx ry h q => by
  cases d <;> cases e <;> first | (cases h; done) | (cases h; exact ⟨_, _, rx.bl, ry.bl, q F H _ (.refl hs) (.bl _)⟩)
theorem o_isNot : Op2 K mg rNotB dIsNot := fun {F H x y d e z Q} hs rx ry h q => by
  cases d <;> cases e <;> first | (cases h; done) | (cases h; exact ⟨_, _, rx.bl, ry.bl, q F H _ (.refl hs) (.bl _)⟩)
theorem o_neg : Op1 K mg (rU fun i => .int (-i)) dNeg := fun {F H x d z Q} hs rx h q => by
  cases d <;> first | (cases h; done) | (cases h; exact ⟨_, rx.int, q F H _ (.refl hs) (.int _)⟩)
abbrev rAdd (K : PySem.W.Frag) : R2 := fun x y H Q => rI0 (fun i j => .int (i + j)) x y H Q ∨ (rCatF K x y H Q ∨ (rCat x y H Q ∨ (∃ i j, x = .str i ∧ y = .str j ∧ i.length + j.length ≤ sizeLine ∧ Q (.str (i ++ j)) H)))
theorem op_addA {X : Cx} : OpR X (binaryOp .Add) (rAdd X.K) := op_add.or (op_catF.or (op_cat.or op_add_str))
theorem o_add : Op2 K mg (rAdd K) dAdd := fun {F H x y d e z Q} hs rx ry h q => by
  cases d <;> cases e <;> try (cases h; done)
  · cases h
    exact .inl ⟨_, _, rx.int, ry.int, q F H _ (.refl hs) (.int _)⟩
  · obtain ⟨c, rfl⟩ := if_some h
    rw [rx.str, ry.str]
    exact .inr (.inr (.inr ⟨_, _, rfl, rfl, Nat.le_trans c BIG_le, q F H _ (.refl hs) (.str _)⟩))
  · obtain ⟨c, rfl⟩ := if_some h
    obtain ⟨a, vs, rfl, sa, ra⟩ := rx.tup hs
    obtain ⟨b, ws, rfl, sb, rb⟩ := ry.tup hs
    refine .inr (.inl ⟨a, b, vs, ws, rfl, rfl, (sa.mono hs).seq, (sb.mono hs).seq, ?_, fun e => ?_, fun _ e => ?_, fun _ _ p o hp hd => ?_⟩)
    · rw [ra.len, rb.len]
      exact Nat.le_trans c BIG_le
    · subst e
      cases ra
      exact q F H _ (.refl hs) (.tup sb rb)
    · subst e
      cases rb
      refine q F H _ (.refl hs) ?_
      rw [List.append_nil]
      exact .tup sa ra
    · have e := Ext.new (u := HO.frz o (.tup (vs ++ ws))) hs hp
      exact q _ _ _ e (.tup ⟨o, upd_same, hd⟩ ((ra.app rb).mono e.ff))
  · obtain ⟨c, rfl⟩ := if_some h
    obtain ⟨a, vs, rfl, sa, ra⟩ := rx.lst hs
    obtain ⟨b, ws, rfl, sb, rb⟩ := ry.lst hs
    refine .inr (.inr (.inl ⟨a, b, vs, ws, rfl, rfl, sa, sb, ?_, fun p hp => ?_⟩))
    · rw [ra.len, rb.len]
      exact Nat.le_trans c BIG_le
    · have e := Ext.new (u := HO.lst (vs ++ ws)) hs hp
      exact q _ _ _ e (.lst upd_same ((ra.app rb).mono e.ff))
theorem flat_V {F : Hp} {v : V} {d : D} (r : Rp K mg F v d) (h : d.flat = true) : flatV v = true := by
  cases r <;> first | rfl | cases h
theorem flat_all {F : Hp} : ∀ {vs : List V} {ds : List D}, RpA K mg F vs ds → ds.all D.flat = true → vs.all flatV = true
  | _, _, .nil, _ => rfl
  | _, _, .cons r t, h => by
    rw [List.all_cons, Bool.and_eq_true] at h ⊢
    exact ⟨flat_V r h.1, flat_all t h.2⟩
theorem flat_eq {F F' : Hp} {v w : V} {d e : D} (r : Rp K mg F v d) (r' : Rp K mg F' w e) (h : d.flat = true) (h' : e.flat = true) : eqV v w = d.eqf e := by
  cases r <;> first | (cases h; done) | (cases r' <;> first | (cases h'; done) | rfl)
theorem flat_any {F F' : Hp} {x : V} {d : D} (r' : Rp K mg F' x d) (h' : d.flat = true) : ∀ {vs : List V} {ds : List D}, RpA K mg F vs ds → ds.all D.flat = true → inV x vs = ds.any fun y => y.eqf d
  | _, _, .nil, _ => rfl
  | _, _, .cons r t, h => by
    rw [List.all_cons, Bool.and_eq_true] at h
    have ih := flat_any r' h' t h.2
    unfold inV at ih ⊢
    rw [List.any_cons, List.any_cons, flat_eq r r' h.1 h', ih]
theorem o_in : Op2 K mg (rIn K false) dIn := fun {F H x y d e z Q} hs rx ry h q => by
  cases e with
  | tup ys =>
    have h : (if d.flat && ys.all D.flat then some (D.bl ((ys.any fun y => D.eqf y d))) else none) = some z := by cases d <;> exact h
    obtain ⟨c, rfl⟩ := if_some h
    obtain ⟨c1, c2⟩ := Bool.and_eq_true_iff.mp c
    obtain ⟨a, vs, rfl, sa, ra⟩ := ry.tup hs
    refine ⟨a, vs, rfl, .inr (sa.mono hs).seq, flat_V (rx.rp hs) c1, flat_all ra c2, ?_⟩
    rw [if_neg (by decide), flat_any (rx.rp hs) c1 ra c2]
    exact q F H _ (.refl hs) (.bl _)
  | lst ys =>
    have h : (if d.flat && ys.all D.flat then some (D.bl ((ys.any fun y => D.eqf y d))) else none) = some z := by cases d <;> exact h
    obtain ⟨c, rfl⟩ := if_some h
    obtain ⟨c1, c2⟩ := Bool.and_eq_true_iff.mp c
    obtain ⟨a, vs, rfl, sa, ra⟩ := ry.lst hs
    refine ⟨a, vs, rfl, .inl (.of sa), flat_V (rx.rp hs) c1, flat_all ra c2, ?_⟩
    rw [if_neg (by decide), flat_any (rx.rp hs) c1 ra c2]
    exact q F H _ (.refl hs) (.bl _)
  | _ => cases d <;> cases h
theorem o_notIn : Op2 K mg (rIn K true) dNotIn := fun {F H x y d e z Q} hs rx ry h q => by
  cases e with
  | tup ys =>
    have h : (if d.flat && ys.all D.flat then some (D.bl (!(ys.any fun y => D.eqf y d))) else none) = some z := by cases d <;> exact h
    obtain ⟨c, rfl⟩ := if_some h
    obtain ⟨c1, c2⟩ := Bool.and_eq_true_iff.mp c
    obtain ⟨a, vs, rfl, sa, ra⟩ := ry.tup hs
    refine ⟨a, vs, rfl, .inr (sa.mono hs).seq, flat_V (rx.rp hs) c1, flat_all ra c2, ?_⟩
    rw [if_pos rfl, flat_any (rx.rp hs) c1 ra c2]
    exact q F H _ (.refl hs) (.bl _)
  | lst ys =>
    have h : (if d.flat && ys.all D.flat then some (D.bl (!(ys.any fun y => D.eqf y d))) else none) = some z := by cases d <;> exact h
    obtain ⟨c, rfl⟩ := if_some h
    obtain ⟨c1, c2⟩ := Bool.and_eq_true_iff.mp c
    obtain ⟨a, vs, rfl, sa, ra⟩ := ry.lst hs
    refine ⟨a, vs, rfl, .inl (.of sa), flat_V (rx.rp hs) c1, flat_all ra c2, ?_⟩
    rw [if_pos rfl, flat_any (rx.rp hs) c1 ra c2]
    exact q F H _ (.refl hs) (.bl _)
  | _ => cases d <;> cases h
theorem at_get {F : Hp} {vs : List V} {ds : List D} {i : Int} {z : D} (r : RpA K mg F vs ds) (h : atI ds i = some z) : ∃ v, atI vs i = some v ∧ Rp K mg F v z := by
  unfold atI at h ⊢
  rw [r.len]
  cases e : ixN ds.length i with
  | none =>
    rw [e] at h
    cases h
  | some j =>
    rw [e] at h
    exact r.get h
theorem o_ix : Op2 K mg (rIx K) dIx := fun {F H x y d e z Q} hs rx ry h q => by
  cases d <;> cases e <;> try (cases h; done)
  · obtain ⟨a, vs, rfl, sa, ra⟩ := rx.tup hs
    obtain ⟨v, h1, h2⟩ := at_get ra h
    exact .inr (.inl ⟨a, vs, _, v, rfl, ry.int, (sa.mono hs).seq, h1, q F H _ (.refl hs) h2⟩)
  · obtain ⟨a, vs, rfl, sa, ra⟩ := rx.lst hs
    obtain ⟨v, h1, h2⟩ := at_get ra h
    exact .inl ⟨a, vs, _, v, rfl, ry.int, .of sa, h1, q F H _ (.refl hs) h2⟩
end
end Mi
set_option Elab.async false
set_option linter.all false
set_option maxRecDepth 100000
set_option maxHeartbeats 1000000
/-! Mi, part D: arguments, displays, built-ins, statements. -/
namespace Mi
open PySem PySem.Spec PyProof.Rows L2

/-- a value that others name from now on -/
def esc (v : OB) (ρ : En) : Option (D × En) := match v with
  | .d x => some (x, ρ)
  | .o i => match ρ[i]? with
    | some (.val x) => some (x, ρ)
    | some (.own false w) => some (w.d, ρ.set i (.val w.d))
    | _ => none
def escs : List OB → En → Option (List D × En)
  | [], ρ => some ([], ρ)
  | v :: vs, ρ => match esc v ρ with
    | some (d, ρ1) => (match escs vs ρ1 with
      | some (ds, ρ2) => some (d :: ds, ρ2)
      | none => none)
    | none => none

section
variable {K : PySem.W.Frag} {mg : Str → Option Value} {W : WX} {F F' H H' : Hp} {G : Gh} {σ : St} {ρ : En}
theorem isOw_set {ρ : En} {i j : Nat} {s : Sl} (h : isOw (ρ.set i s)[j]? = true) (hs : isOw (some s) = false) : j ≠ i ∧ isOw ρ[j]? = true := by
  by_cases e : j = i
  · subst e
    by_cases hl : j < ρ.length
    · rw [List.getElem?_set_self hl, hs] at h
      cases h
    · rw [List.getElem?_eq_none (by rw [List.length_set]; omega)] at h
      cases h
  · rw [List.getElem?_set_ne (Ne.symm e)] at h
    exact ⟨e, h⟩
/-- the slot i, which held an object of one's own, holds it as a value -/
theorem Sat.own_val (S : Sat K mg G F H σ ρ) {i : Nat} {w : Ow} {a : Addr} (q : ρ[i]? = some (Sl.own false w)) (hσ : σ[i]? = some (some (V.ref a))) :
    ∃ F', Same F F' ∧ Sat K mg G F' H σ (ρ.set i (.val w.d)) ∧ Rp K mg F' (.ref a) w.d := by
  obtain ⟨a', h1, h2, h3, h4⟩ := S.own i false w q
  rw [hσ] at h1
  cases h1
  have hl : i < ρ.length := (List.getElem?_eq_some_iff.mp q).1
  obtain ⟨u, hu⟩ := h3.at
  have S1 : Sat K mg G F H σ (ρ.set i .un) := by
    refine ⟨S.fh, S.f0, S.h0, S.fn, by rw [List.length_set]; exact S.len, fun j d h => ?_, fun j io o h => ?_, fun j k b hjk h1 h2 => ?_, fun k b h => ?_⟩
    · by_cases e : j = i
      · subst e
        rw [List.getElem?_set_self hl] at h
        cases h
      · rw [List.getElem?_set_ne (Ne.symm e)] at h
        exact S.val j d h
    · by_cases e : j = i
      · subst e
        rw [List.getElem?_set_self hl] at h
        cases h
      · rw [List.getElem?_set_ne (Ne.symm e)] at h
        exact S.own j io o h
    · exact S.dis j k b hjk (isOw_set h1 rfl).2 (isOw_set h2 rfl).2
    · obtain ⟨e1, o, e2⟩ := S.io k b h
      have hk : k ≠ i := fun e => by
        subst e
        rw [q] at e2
        cases e2
      exact ⟨e1, o, by rw [List.getElem?_set_ne (Ne.symm hk)]; exact e2⟩
  obtain ⟨F', e1, S2, r, _⟩ := S1.freeze h2 h3 h4 (fun j hj hs => by
    obtain ⟨ne, hj'⟩ := isOw_set hj rfl
    exact S.dis i j a (Ne.symm ne) (by rw [q]; rfl) hj' hσ hs)
  refine ⟨F', e1, ⟨S2.fh, S2.f0, S2.h0, S2.fn, by rw [List.length_set]; exact S.len, fun j d h => ?_, fun j io o h => ?_, fun j k b hjk h1 h2 => ?_, fun k b h => ?_⟩, r⟩
  · by_cases e : j = i
    · subst e
      rw [List.getElem?_set_self hl] at h
      cases h
      exact ⟨_, hσ, r⟩
    · refine S2.val j d ?_
      rw [List.getElem?_set_ne (Ne.symm e)] at h ⊢
      exact h
  · by_cases e : j = i
    · subst e
      rw [List.getElem?_set_self hl] at h
      cases h
    · refine S2.own j io o ?_
      rw [List.getElem?_set_ne (Ne.symm e)] at h ⊢
      exact h
  · exact S.dis j k b hjk (isOw_set h1 rfl).2 (isOw_set h2 rfl).2
  · obtain ⟨e1, o, e2⟩ := S.io k b h
    have hk : k ≠ i := fun e => by
      subst e
      rw [q] at e2
      cases e2
    exact ⟨e1, o, by rw [List.getElem?_set_ne (Ne.symm hk)]; exact e2⟩
theorem Sat.esc (S : Sat K mg G F H σ ρ) {x : V} {v : OB} {d : D} {ρ' : En} (r : RpB K mg F σ x v) (h : esc v ρ = some (d, ρ')) : ∃ F', Same F F' ∧ Sat K mg G F' H σ ρ' ∧ Rp K mg F' x d := by
  cases r with
  | d r =>
    cases h
    exact ⟨F, Same.refl _, S, r⟩
  | o e =>
    rename_i i
    have h' : (match ρ[i]? with
      | some (.val x) => some (x, ρ)
      | some (.own false w) => some (w.d, ρ.set i (.val w.d))
      | _ => none) = some (d, ρ') := h
    cases q : ρ[i]? with
    | none =>
      rw [q] at h'
      cases h'
    | some s =>
      rw [q] at h'
      cases s with
      | un => cases h'
      | val y =>
        cases h'
        obtain ⟨w, h1, h2⟩ := S.val i _ q
        rw [e] at h1
        cases h1
        exact ⟨F, Same.refl _, S, h2⟩
      | own io w =>
        cases io with
        | true => cases h'
        | false =>
          cases h'
          obtain ⟨a, h1, _⟩ := S.own i false w q
          have h1' := h1
          rw [e] at h1'
          cases h1'
          exact S.own_val q h1
theorem Sat.escs : ∀ {F : Hp} {ρ : En} {vs : List OB} {xs : List V} {ds : List D} {ρ' : En}, Sat K mg G F H σ ρ → RpBs K mg F σ xs vs → escs vs ρ = some (ds, ρ') → ∃ F', Same F F' ∧ Sat K mg G F' H σ ρ' ∧ RpA K mg F' xs ds
  | F, ρ, [], _, ds, ρ', S, .nil, h => by
    cases h
    exact ⟨F, Same.refl _, S, .nil⟩
  | F, ρ, v :: vs, _, ds, ρ', S, .cons r t, h => by
    unfold Mi.escs at h
    cases q : Mi.esc v ρ with
    | none =>
      rw [q] at h
      cases h
    | some p =>
      obtain ⟨d, ρ1⟩ := p
      rw [q] at h
      obtain ⟨F1, e1, S1, r1⟩ := S.esc r q
      dsimp only at h
      cases q2 : Mi.escs vs ρ1 with
      | none =>
        rw [q2] at h
        cases h
      | some p2 =>
        obtain ⟨ds2, ρ2⟩ := p2
        rw [q2] at h
        cases h
        obtain ⟨F2, e2, S2, r2⟩ := Sat.escs S1 (t.mono e1) q2
        exact ⟨F2, e1.trans e2, S2, .cons (r1.mono e2) r2⟩
/-- a new object of one's own -/
theorem Sat.newOwn (S : Sat K mg G F H σ ρ) {p : Addr} {u : HO} {w : Ow} (hp : H p = none) (ok : OwOk K mg F (upd H p u) p w) : Sat K mg G F (upd H p u) σ ρ ∧ RpO K mg G F (upd H p u) σ ρ (.ref p) (.n w) := by
  have e : Ext F H F (upd H p u) := ⟨Same.refl _, same_upd hp, S.fh.trans (same_upd hp), fun _ _ h => .inl h⟩
  refine ⟨S.ext e, .n (S.fh.free hp) ok ((S.fresh0 hp).elim .inr .inl) fun j hj hs => ?_⟩
  cases q : ρ[j]? with
  | none =>
    rw [q] at hj
    cases hj
  | some s =>
    cases s with
    | own io o =>
      obtain ⟨a, h1, h2, h3, _⟩ := S.own j io o q
      rw [hs] at h1
      cases h1
      obtain ⟨z, hz⟩ := h3.at
      rw [hp] at hz
      cases hz
    | _ =>
      rw [q] at hj
      cases hj
end

/-! ### argument lists -/
def mNil : AM := fun ρ => .ok [] ρ
def mCons (m : EM) (ms : AM) : AM := fun ρ => (m ρ).bind fun v ρ => (ms ρ).bind fun vs ρ => .ok (v.fz :: vs) ρ
def rv (o : Option D) (ρ : En) : R OV := rz o ρ
def rn (o : Option Ow) (ρ : En) : R OV := match o with
  | some w => .ok (.n w) ρ
  | none => .bad
def getAll : List OB → En → Option (List D)
  | [], _ => some []
  | v :: vs, ρ => match v.get ρ with
    | some d => (match getAll vs ρ with
      | some ds => some (d :: ds)
      | none => none)
    | none => none
def apN (g : List D → Option D) (vs : List OB) (ρ : En) : R OV := match getAll vs ρ with
  | some ds => rz (g ds) ρ
  | none => .bad
def apNn (g : List D → Option Ow) (vs : List OB) (ρ : En) : R OV := match getAll vs ρ with
  | some ds => rn (g ds) ρ
  | none => .bad
/-- a built-in's call: data out; a new object out -/
def mCB (g : List D → Option D) (ms : AM) : EM := fun ρ => (ms ρ).bind fun vs ρ => apN g vs ρ
def mCBn (g : List D → Option Ow) (ms : AM) : EM := fun ρ => (ms ρ).bind fun vs ρ => apNn g vs ρ
def mTup (ms : AM) : EM := fun ρ => (ms ρ).bind fun vs ρ => match escs vs ρ with
  | some (ds, ρ) => if ds.length ≤ BIG then .ok (.d (.tup ds)) ρ else .bad
  | none => .bad
def mLst (ms : AM) : EM := fun ρ => (ms ρ).bind fun vs ρ => match escs vs ρ with
  | some (ds, ρ) => if ds.length ≤ BIG then .ok (.n (.lst ds)) ρ else .bad
  | none => .bad
section
variable {K : PySem.W.Frag} {mg : Str → Option Value} {W : WX} {F F' H H' : Hp} {G : Gh} {σ : St} {ρ : En}
inductive RpIs (K : PySem.W.Frag) (mg : Str → Option Value) (F H : Hp) : List V → List D → Prop
  | nil : RpIs K mg F H [] []
  | cons {v : V} {vs : List V} {d : D} {ds : List D} : RpI K mg F H v d → RpIs K mg F H vs ds → RpIs K mg F H (v :: vs) (d :: ds)
def OpN (K : PySem.W.Frag) (mg : Str → Option Value) (r : List V → Hp → VK → Prop) (g : List D → Option D) : Prop := ∀ {F H : Hp} {xs : List V} {ds : List D} {z : D} {Q : VK}, Same F H → RpIs K mg F H xs ds → g ds = some z →
  (∀ F' H' w, Ext F H F' H' → Rp K mg F' w z → Q w H') → r xs H Q
def OpNn (K : PySem.W.Frag) (mg : Str → Option Value) (r : List V → Hp → VK → Prop) (g : List D → Option Ow) : Prop := ∀ {F H : Hp} {xs : List V} {ds : List D} {z : Ow} {Q : VK}, Same F H → RpIs K mg F H xs ds → g ds = some z →
  (∀ p u, H p = none → OwOk K mg F (upd H p u) p z → Q (.ref p) (upd H p u)) → r xs H Q
theorem Sat.getAll : ∀ {vs : List OB} {xs : List V} {ds : List D}, Sat K mg G F H σ ρ → RpBs K mg F σ xs vs → getAll vs ρ = some ds → RpIs K mg F H xs ds
  | [], _, _, S, .nil, h => by
    cases h
    exact .nil
  | v :: vs, _, _, S, .cons r t, h => by
    unfold Mi.getAll at h
    cases q : v.get ρ with
    | none =>
      rw [q] at h
      cases h
    | some d =>
      rw [q] at h
      cases q2 : Mi.getAll vs ρ with
      | none =>
        rw [q2] at h
        cases h
      | some ds =>
        rw [q2] at h
        cases h
        exact .cons (S.get r q) (Sat.getAll S t q2)
theorem finN {g : List D → Option D} {r : List V → Hp → VK → Prop} {xs : List V} {vs : List OB} {Q : VK} (o : OpN K mg r g) (S : Sat K mg G F H σ ρ) (rx : RpBs K mg F σ xs vs) (h : Gd K mg W (RpO K mg) G F σ (apN g vs ρ) Q) : r xs H Q := by
  unfold apN at h
  cases q1 : getAll vs ρ with
  | none =>
    rw [q1] at h
    exact h.elim
  | some ds =>
    rw [q1] at h
    obtain ⟨z, hz, k⟩ := fin_rz S h
    exact o S.fh (S.getAll rx q1) hz k
theorem finNn {g : List D → Option Ow} {r : List V → Hp → VK → Prop} {xs : List V} {vs : List OB} {Q : VK} (o : OpNn K mg r g) (S : Sat K mg G F H σ ρ) (rx : RpBs K mg F σ xs vs) (h : Gd K mg W (RpO K mg) G F σ (apNn g vs ρ) Q) : r xs H Q := by
  unfold apNn at h
  cases q1 : getAll vs ρ with
  | none =>
    rw [q1] at h
    exact h.elim
  | some ds =>
    rw [q1] at h
    dsimp only at h
    cases hz : g ds with
    | none =>
      rw [hz] at h
      exact h.elim
    | some w =>
      rw [hz] at h
      refine o S.fh (S.getAll rx q1) hz fun p u hp ok => ?_
      obtain ⟨S2, r2⟩ := S.newOwn hp ok
      exact h F _ _ S2 (Same.refl _) r2
theorem subA {ma : AM} {Q : List V → Hp → Prop} (S : Sat K mg G F H σ ρ) (h : Gd K mg W (fun _ F _ σ _ => RpBs K mg F σ) G F σ (ma ρ) Q) : tA K mg W ma σ H Q := ⟨G, F, ρ, S, h⟩
end
section
variable {X : Cx} {W : WX} {e : Expr} {es : List Expr} {m : EM} {ms : AM} {pos : Pos}
theorem ma_nil : MA X W [] mNil := MA.weak pa_nil fun {σ H Q G F ρ} S g => g F H [] S (Same.refl _) .nil
theorem ma_cons (ha : ME X W e m) (hr : MA X W es ms) (hs : starEach (e :: es) X.env = (false, eval e X.env) :: starEach es X.env := by rfl) : MA X W (e :: es) (mCons m ms) :=
  MA.weak (pa_cons ha hr hs) fun S k => sub S (Gd.opd (f := fun v ρ => (ms ρ).bind fun vs ρ => .ok (v :: vs) ρ) k fun v ρ1 F1 H1 x S1 e1 r1 k1 => subA S1 (Gd.bind k1 fun vs ρ2 F2 H2 xs _ S2 e2 r2 k2 => k2 F2 H2 (x :: xs) S2 (Same.refl _) (.cons (r1.mono e2) r2)))
theorem me_tup {x1} (h : MA X W es ms) : ME X W (.Tuple es x1 pos) (mTup ms) :=
  ME.weak (pe_tupF h) fun S k => subA S (Gd.bind k fun vs ρ1 F1 H1 xs _ S1 e1 r1 k1 => by
    cases q : escs vs ρ1 with
    | none =>
      rw [q] at k1
      exact k1.elim
    | some p =>
      obtain ⟨ds, ρ2⟩ := p
      rw [q] at k1
      obtain ⟨F2, e2, S2, r2⟩ := S1.escs r1 q
      by_cases hz : ds.length ≤ BIG
      · have k2 : Gd X.K X.mg W (RpO X.K X.mg) _ F2 _ (.ok (.d (.tup ds)) ρ2) _ := Gd.mono e2 (by simpa only [if_pos hz] using k1)
        refine ⟨by rw [r2.len]; exact Nat.le_trans hz BIG_le, fun p o hp hd => ?_⟩
        have ex := Ext.new (u := HO.frz o (.tup xs)) S2.fh hp
        exact k2 _ _ _ (S2.ext ex) ex.ff (.d (.tup ⟨o, upd_same, hd⟩ (r2.mono ex.ff)))
      · simp only [if_neg hz] at k1
        exact k1.elim)
theorem me_lst (h : MA X W es ms) : ME X W (.List es pos) (mLst ms) :=
  ME.weak (pe_lst h) fun S k => subA S (Gd.bind k fun vs ρ1 F1 H1 xs _ S1 e1 r1 k1 => by
    cases q : escs vs ρ1 with
    | none =>
      rw [q] at k1
      exact k1.elim
    | some p =>
      obtain ⟨ds, ρ2⟩ := p
      rw [q] at k1
      obtain ⟨F2, e2, S2, r2⟩ := S1.escs r1 q
      by_cases hz : ds.length ≤ BIG
      · have k2 : Gd X.K X.mg W (RpO X.K X.mg) _ F2 _ (.ok (.n (.lst ds)) ρ2) _ := Gd.mono e2 (by simpa only [if_pos hz] using k1)
        refine ⟨by rw [r2.len]; exact Nat.le_trans hz BIG_le, fun p hp => ?_⟩
        obtain ⟨S3, r3⟩ := S2.newOwn hp (OwOk.lst upd_same r2)
        exact k2 _ _ _ S3 (Same.refl _) r3
      · simp only [if_neg hz] at k1
        exact k1.elim)
theorem me_callB {x : Str} {p : Pos} {id : String} {r : List V → Hp → VK → Prop} {g : List D → Option D} (o : OpN X.K X.mg r g) (hc : CallR X (.builtin id) r) (hg : Gl X x) (hm : X.mg x = none) (hv : bootBuiltins x = some (.builtin id)) (ha : MA X W (e :: es) ms)
    (hn : x ≠ "__name__" := by decide) (hdb : (x == ("__debug__" : Str)) = false := by decide) (he : starEach (e :: es) X.env = (false, eval e X.env) :: starEach es X.env := by rfl) (hpl : (backTo pos (starEach es X.env)).any (·.1) = false := by rfl) :
    ME X W (.Call (.Name x p) (e :: es) [] pos) (mCB g ms) :=
  ME.weak (pe_callB hc hg hm hv ha hn hdb he hpl) fun S k => subA S (Gd.bind k fun vs ρ1 F1 H1 xs _ S1 e1 r1 k1 => finN o S1 r1 k1)
theorem me_callBn {x : Str} {p : Pos} {id : String} {r : List V → Hp → VK → Prop} {g : List D → Option Ow} (o : OpNn X.K X.mg r g) (hc : CallR X (.builtin id) r) (hg : Gl X x) (hm : X.mg x = none) (hv : bootBuiltins x = some (.builtin id)) (ha : MA X W (e :: es) ms)
    (hn : x ≠ "__name__" := by decide) (hdb : (x == ("__debug__" : Str)) = false := by decide) (he : starEach (e :: es) X.env = (false, eval e X.env) :: starEach es X.env := by rfl) (hpl : (backTo pos (starEach es X.env)).any (·.1) = false := by rfl) :
    ME X W (.Call (.Name x p) (e :: es) [] pos) (mCBn g ms) :=
  ME.weak (pe_callB hc hg hm hv ha hn hdb he hpl) fun S k => subA S (Gd.bind k fun vs ρ1 F1 H1 xs _ S1 e1 r1 k1 => finNn o S1 r1 k1)
theorem me_callTy {x : Str} {p : Pos} {T : String} {r : List V → Hp → VK → Prop} {g : List D → Option D} (o : OpN X.K X.mg r g) (hc : CallR X (.type T) r) (hg : Gl X x) (hm : X.mg x = none) (hv : bootBuiltins x = some (.type T)) (ha : MA X W (e :: es) ms)
    (hn : x ≠ "__name__" := by decide) (hdb : (x == ("__debug__" : Str)) = false := by decide) (he : starEach (e :: es) X.env = (false, eval e X.env) :: starEach es X.env := by rfl) (hpl : (backTo pos (starEach es X.env)).any (·.1) = false := by rfl) :
    ME X W (.Call (.Name x p) (e :: es) [] pos) (mCB g ms) :=
  ME.weak (pe_callTy hc hg hm hv ha hn hdb he hpl) fun S k => subA S (Gd.bind k fun vs ρ1 F1 H1 xs _ S1 e1 r1 k1 => finN o S1 r1 k1)
theorem me_callTyn {x : Str} {p : Pos} {T : String} {r : List V → Hp → VK → Prop} {g : List D → Option Ow} (o : OpNn X.K X.mg r g) (hc : CallR X (.type T) r) (hg : Gl X x) (hm : X.mg x = none) (hv : bootBuiltins x = some (.type T)) (ha : MA X W (e :: es) ms)
    (hn : x ≠ "__name__" := by decide) (hdb : (x == ("__debug__" : Str)) = false := by decide) (he : starEach (e :: es) X.env = (false, eval e X.env) :: starEach es X.env := by rfl) (hpl : (backTo pos (starEach es X.env)).any (·.1) = false := by rfl) :
    ME X W (.Call (.Name x p) (e :: es) [] pos) (mCBn g ms) :=
  ME.weak (pe_callTy hc hg hm hv ha hn hdb he hpl) fun S k => subA S (Gd.bind k fun vs ρ1 F1 H1 xs _ S1 e1 r1 k1 => finNn o S1 r1 k1)
end

/-! ### statements -/
/-- what a def hands back: data, or a new object that nothing else names -/
inductive RV where
  | v (d : D) | w (o : Ow)
inductive SR where
  | nx (ρ : En) | rt (r : RV) (ρ : En) | bk (ρ : En) | ct (ρ : En) | ex (x : Xc) (ρ : En) | bad
abbrev SM := En → SR
section
variable (K : PySem.W.Frag) (mg : Str → Option Value)
inductive RpR (G : Gh) (F H : Hp) : V → RV → Prop
  | v {x : V} {d : D} : Rp K mg F x d → RpR G F H x (.v d)
  | w {a : Addr} {o : Ow} : F a = none → OwOk K mg F H a o → (G.O a ∨ G.H0 a = none) → RpR G F H (.ref a) (.w o)
def SGd (W : WX) (G : Gh) (F : Hp) (r : SR) (D : Ends) : Prop := match r with
  | .nx ρ => ∀ F' H' σ, Sat K mg G F' H' σ ρ → Same F F' → D.nx σ H'
  | .bk ρ => ∀ F' H' σ, Sat K mg G F' H' σ ρ → Same F F' → D.bk σ H'
  | .ct ρ => ∀ F' H' σ, Sat K mg G F' H' σ ρ → Same F F' → D.ct σ H'
  | .rt r ρ => ∀ F' H' σ x, Sat K mg G F' H' σ ρ → Same F F' → RpR K mg G F' H' x r → (∀ a, x = .ref a → (∃ o, r = .w o) → ∀ j : Nat, isOw ρ[j]? = true → σ[j]? = some (some (V.ref a)) → False) → D.rt x H'
  | .ex x ρ => ∀ σ, Raised K mg W G F σ x ρ
  | .bad => False
def tS (W : WX) (m : SM) : TS := fun D σ H => ∃ G F ρ, Sat K mg G F H σ ρ ∧ SGd K mg W G F (m ρ) D
end
abbrev MS (X : Cx) (W : WX) (st : Stmt) (m : SM) : Prop := PS X st (tS X.K X.mg W m)
abbrev MSs (X : Cx) (W : WX) (st : List Stmt) (m : SM) : Prop := PSs X st (tS X.K X.mg W m)
section
variable {K : PySem.W.Frag} {mg : Str → Option Value} {W : WX} {F F' H H' : Hp} {G : Gh} {σ : St} {ρ : En}
theorem SGd.mono {r : SR} {D : Ends} (e : Same F F') (h : SGd K mg W G F r D) : SGd K mg W G F' r D := by
  cases r with
  | nx ρ => exact fun F2 H2 σ S e2 => h F2 H2 σ S (e.trans e2)
  | bk ρ => exact fun F2 H2 σ S e2 => h F2 H2 σ S (e.trans e2)
  | ct ρ => exact fun F2 H2 σ S e2 => h F2 H2 σ S (e.trans e2)
  | rt r ρ => exact fun F2 H2 σ x S e2 => h F2 H2 σ x S (e.trans e2)
  | ex x ρ => exact fun σ => Raised.mono e (h σ)
  | bad => exact h
def R.st {α : Type} (r : R α) (f : α → En → SR) : SR := match r with
  | .ok a ρ => f a ρ
  | .ex x ρ => .ex x ρ
  | .bad => .bad
/-- a piece of an expression, then a statement's rest -/
theorem Gd.st {α β : Type} {Rep : Gh → Hp → Hp → St → En → β → α → Prop} {r : R α} {f : α → En → SR} {D : Ends} {Q' : β → Hp → Prop} (h : SGd K mg W G F (r.st f) D)
    (k : ∀ v ρ' F' H' x, Sat K mg G F' H' σ ρ' → Same F F' → Rep G F' H' σ ρ' x v → SGd K mg W G F' (f v ρ') D → Q' x H') : Gd K mg W Rep G F σ r Q' := by
  cases r with
  | ok v ρ => exact fun F2 H2 x S e2 r => k v ρ F2 H2 x S e2 r (SGd.mono e2 h)
  | ex x ρ => exact h σ
  | bad => exact h
theorem subS {m : SM} {D : Ends} (S : Sat K mg G F H σ ρ) (h : SGd K mg W G F (m ρ) D) : tS K mg W m D σ H := ⟨G, F, ρ, S, h⟩
def mNext : SM := fun ρ => .nx ρ
def mSeq (a b : SM) : SM := fun ρ => match a ρ with
  | .nx ρ => b ρ
  | r => r
theorem SGd.seq {a b : SM} {D : Ends} (h : SGd K mg W G F (mSeq a b ρ) D) : SGd K mg W G F (a ρ) { D with nx := tS K mg W b D } := by
  unfold mSeq at h
  cases q : a ρ with
  | nx ρ1 =>
    rw [q] at h
    exact fun F2 H2 σ S e => subS S (SGd.mono e h)
  | bk _ => rw [q] at h; exact h
  | ct _ => rw [q] at h; exact h
  | rt _ _ => rw [q] at h; exact h
  | ex _ _ => rw [q] at h; exact h
  | bad => rw [q] at h; exact h
end
section
variable {X : Cx} {W : WX} {pos : Pos}
theorem MS.weak {st : Stmt} {m : SM} {t : TS} (h : PS X st t) (k : ∀ {σ : St} {H : Hp} {D : Ends} {G : Gh} {F : Hp} {ρ : En}, Sat X.K X.mg G F H σ ρ → SGd X.K X.mg W G F (m ρ) D → t D σ H) : MS X W st m :=
  ⟨fun pins s σ H D I ⟨_, _, _, S, g⟩ => h.run pins s σ H D I (k S g)⟩
theorem MSs.weak {st : List Stmt} {m : SM} {t : TS} (h : PSs X st t) (k : ∀ {σ : St} {H : Hp} {D : Ends} {G : Gh} {F : Hp} {ρ : En}, Sat X.K X.mg G F H σ ρ → SGd X.K X.mg W G F (m ρ) D → t D σ H) : MSs X W st m :=
  ⟨fun pins s σ H D I ⟨_, _, _, S, g⟩ => h.run pins s σ H D I (k S g)⟩
theorem mss_nil : MSs X W [] mNext := MSs.weak pss_nil fun {σ H D G F ρ} S g => g F H σ S (Same.refl _)
theorem mss_cons {st : Stmt} {rest : List Stmt} {a b : SM} (h1 : MS X W st a) (h2 : MSs X W rest b) : MSs X W (st :: rest) (mSeq a b) :=
  MSs.weak (pss_cons h1 h2) fun S g => subS S (SGd.seq g)
theorem mss_one {st : Stmt} {a : SM} (h1 : MS X W st a) : MSs X W [st] a := pss_one h1
theorem ms_pass : MS X W (.Pass pos) mNext := MS.weak ps_pass fun {σ H D G F ρ} S g => g F H σ S (Same.refl _)
def mBreak : SM := fun ρ => .bk ρ
def mCont : SM := fun ρ => .ct ρ
theorem ms_break : MS X W (.Break pos) mBreak := MS.weak ps_break fun {σ H D G F ρ} S g => g F H σ S (Same.refl _)
theorem ms_continue : MS X W (.Continue pos) mCont := MS.weak ps_continue fun {σ H D G F ρ} S g => g F H σ S (Same.refl _)
/-- an expression as a statement -/
def mDrop (m : EM) : SM := fun ρ => (m ρ).st fun _ ρ => .nx ρ
theorem ms_expr {e : Expr} {m : EM} (he : ME X W e m) (hs : swapsWith e none pos.line X.env = pure false := by rfl) : MS X W (.Expr e pos) (mDrop m) :=
  MS.weak (ps_expr he hs) fun S g => sub S (Gd.st g fun v ρ1 F1 H1 x S1 e1 r1 k1 => k1 F1 H1 _ S1 (Same.refl _))
def mIfS (c : TM) (a b : SM) : SM := fun ρ => (c ρ).st fun c ρ => if c then a ρ else b ρ
theorem ms_if {c : Expr} {a b : List Stmt} {mc : TM} {ma mb : SM} (hc : MT X W c mc) (ha : MSs X W a ma) (hb : MSs X W b mb) : MS X W (.If c a b pos) (mIfS mc ma mb) :=
  MS.weak (ps_if hc ha hb) fun S g => subT S (Gd.st g fun v ρ1 F1 H1 x S1 e1 r1 k1 => by
    subst r1
    cases x with
    | true => exact subS S1 k1
    | false => exact subS S1 k1)
/-- what is handed back -/
def retV (v : OV) (ρ : En) : SR := match v with
  | .d x => .rt (.v x) ρ
  | .n w => .rt (.w w) ρ
  | .o i => match ρ[i]? with
    | some (.val x) => .rt (.v x) ρ
    | some (.own false w) => .rt (.w w) (ρ.set i .un)
    | _ => .bad
def mRet (m : EM) : SM := fun ρ => (m ρ).st retV
def mRetN : SM := fun ρ => .rt (.v .non) ρ
theorem ms_retN : MS X W (.Return none pos) mRetN := MS.weak ps_retN fun {σ H D G F ρ} S g => g F H σ .non S (Same.refl _) (.v .non) fun _ z => nomatch z
theorem Sat.drop {K : PySem.W.Frag} {mg : Str → Option Value} {F H : Hp} {G : Gh} {σ : St} {ρ : En} (S : Sat K mg G F H σ ρ) {i : Nat} {w : Ow} (q : ρ[i]? = some (Sl.own false w)) : Sat K mg G F H σ (ρ.set i .un) := by
  have hl : i < ρ.length := (List.getElem?_eq_some_iff.mp q).1
  refine ⟨S.fh, S.f0, S.h0, S.fn, by rw [List.length_set]; exact S.len, fun j d h => ?_, fun j io o h => ?_, fun j k b hjk h1 h2 => ?_, fun k b h => ?_⟩
  · by_cases e : j = i
    · subst e
      rw [List.getElem?_set_self hl] at h
      cases h
    · rw [List.getElem?_set_ne (Ne.symm e)] at h
      exact S.val j d h
  · by_cases e : j = i
    · subst e
      rw [List.getElem?_set_self hl] at h
      cases h
    · rw [List.getElem?_set_ne (Ne.symm e)] at h
      exact S.own j io o h
  · exact S.dis j k b hjk (isOw_set h1 rfl).2 (isOw_set h2 rfl).2
  · obtain ⟨e1, o, e2⟩ := S.io k b h
    have hk : k ≠ i := fun e => by
      subst e
      rw [q] at e2
      cases e2
    exact ⟨e1, o, by rw [List.getElem?_set_ne (Ne.symm hk)]; exact e2⟩
theorem ms_ret {e : Expr} {m : EM} (he : ME X W e m) : MS X W (.Return (some e) pos) (mRet m) :=
  MS.weak (ps_ret he) fun S g => sub S (Gd.st g fun v ρ1 F1 H1 x S1 e1 r1 k1 => by
    cases r1 with
    | d r => exact k1 F1 H1 _ x S1 (Same.refl _) (.v r) fun _ _ ⟨_, z⟩ => nomatch z
    | n h1 h2 h3 h4 => exact k1 F1 H1 _ _ S1 (Same.refl _) (.w h1 h2 h3) fun a ea _ => by cases ea; exact h4
    | o h =>
      rename_i i
      have k2 : SGd X.K X.mg W _ F1 (match ρ1[i]? with
        | some (.val x) => .rt (.v x) ρ1
        | some (.own false w) => .rt (.w w) (ρ1.set i .un)
        | _ => .bad) _ := k1
      cases q : ρ1[i]? with
      | none =>
        rw [q] at k2
        exact k2.elim
      | some s =>
        rw [q] at k2
        cases s with
        | un => exact k2.elim
        | val y =>
          obtain ⟨w, h1, h2⟩ := S1.val i _ q
          rw [h] at h1
          cases h1
          exact k2 F1 H1 _ x S1 (Same.refl _) (.v h2) fun _ _ ⟨_, z⟩ => nomatch z
        | own io w =>
          cases io with
          | true => exact k2.elim
          | false =>
            obtain ⟨a, h1, h2, h3, h4⟩ := S1.own i false w q
            have h1' := h1
            rw [h] at h1'
            cases h1'
            refine k2 F1 H1 _ _ (S1.drop q) (Same.refl _) (.w h2 h3 h4) fun b eb _ j hj hs => ?_
            cases eb
            obtain ⟨ne, hj'⟩ := isOw_set hj rfl
            exact S1.dis i j a (Ne.symm ne) (by rw [q]; rfl) hj' h1 hs)
end
end Mi
set_option Elab.async false
set_option linter.all false
set_option maxRecDepth 100000
set_option maxHeartbeats 1000000
/-! Mi, part E: stores, methods that change an object of one's own, loops. -/
namespace Mi
open PySem PySem.Spec PyProof.Rows L2

section
variable {K : PySem.W.Frag} {mg : Str → Option Value} {W : WX} {F F' H H' : Hp} {G : Gh} {σ : St} {ρ : En}
/-- what a slot may be given -/
def PutOk (K : PySem.W.Frag) (mg : Str → Option Value) (G : Gh) (F H : Hp) (σ : St) (ρ : En) (i : Nat) (x : V) : Sl → Prop
  | .un => True
  | .val d => Rp K mg F x d
  | .own io w => io = false ∧ ∃ a, x = .ref a ∧ F a = none ∧ OwOk K mg F H a w ∧ (G.O a ∨ G.H0 a = none) ∧ ∀ j : Nat, j ≠ i → isOw ρ[j]? = true → σ[j]? = some (some (V.ref a)) → False
theorem Sat.put (S : Sat K mg G F H σ ρ) {i : Nat} {x : Option V} {s : Sl} (hi : i < ρ.length) (hio : ∀ o, ρ[i]? ≠ some (Sl.own true o)) (hs : (s = .un) ∨ ∃ y, x = some y ∧ PutOk K mg G F H σ ρ i y s) : Sat K mg G F H (σ.set i x) (ρ.set i s) := by
  have hσ : i < σ.length := by rw [← S.len]; exact hi
  refine ⟨S.fh, S.f0, S.h0, S.fn, by rw [List.length_set, List.length_set]; exact S.len, fun j d h => ?_, fun j io o h => ?_, fun j k b hjk h1 h2 e1 e2 => ?_, fun k b h => ?_⟩
  · by_cases e : j = i
    · subst e
      rw [List.getElem?_set_self hi] at h
      cases h
      rcases hs with hs | ⟨y, rfl, hs⟩
      · cases hs
      · exact ⟨y, List.getElem?_set_self hσ, hs⟩
    · rw [List.getElem?_set_ne (Ne.symm e)] at h ⊢
      exact S.val j d h
  · by_cases e : j = i
    · subst e
      rw [List.getElem?_set_self hi] at h
      cases h
      rcases hs with hs | ⟨y, rfl, _, a, rfl, h1, h2, h3, _⟩
      · cases hs
      · exact ⟨a, List.getElem?_set_self hσ, h1, h2, h3⟩
    · rw [List.getElem?_set_ne (Ne.symm e)] at h ⊢
      exact S.own j io o h
  · have key : ∀ {j k : Nat}, j = i → k ≠ i → isOw (ρ.set i s)[j]? = true → isOw (ρ.set i s)[k]? = true → (σ.set i x)[j]? = some (some (V.ref b)) → (σ.set i x)[k]? = some (some (V.ref b)) → False := fun {j k} ej ek g1 g2 f1 f2 => by
      subst ej
      rw [List.getElem?_set_self hi] at g1
      rw [List.getElem?_set_self hσ] at f1
      have g3 : isOw ρ[k]? = true := by
        rw [List.getElem?_set_ne (Ne.symm ek)] at g2
        exact g2
      have f3 : σ[k]? = some (some (V.ref b)) := by
        rw [List.getElem?_set_ne (Ne.symm ek)] at f2
        exact f2
      clear g2 f2
      cases s with
      | own io w =>
        rcases hs with hs | ⟨y, rfl, _, a, rfl, _, _, _, h4⟩
        · cases hs
        · cases f1
          exact h4 k ek g3 f3
      | _ => cases g1
    by_cases ej : j = i
    · exact key ej (fun ek => hjk (ej.trans ek.symm)) h1 h2 e1 e2
    · by_cases ek : k = i
      · exact key ek ej h2 h1 e2 e1
      · rw [List.getElem?_set_ne (Ne.symm ej)] at h1
        rw [List.getElem?_set_ne (Ne.symm ej)] at e1
        rw [List.getElem?_set_ne (Ne.symm ek)] at h2
        rw [List.getElem?_set_ne (Ne.symm ek)] at e2
        exact S.dis j k b hjk h1 h2 e1 e2
  · obtain ⟨e1, o, e2⟩ := S.io k b h
    have hk : k ≠ i := fun e => by
      subst e
      exact hio o e2
    exact ⟨by rw [List.getElem?_set_ne (Ne.symm hk)]; exact e1, o, by rw [List.getElem?_set_ne (Ne.symm hk)]; exact e2⟩
/-- an object of one's own is changed -/
theorem Sat.upd (S : Sat K mg G F H σ ρ) {i : Nat} {io : Bool} {w w' : Ow} {a : Addr} {u : HO} (q : ρ[i]? = some (Sl.own io w)) (hσ : σ[i]? = some (some (V.ref a))) (ok : OwOk K mg F (upd H a u) a w') :
    Sat K mg G F (upd H a u) σ (ρ.set i (.own io w')) := by
  obtain ⟨a', h1, h2, h3, h4⟩ := S.own i io w q
  rw [hσ] at h1
  cases h1
  have hl : i < ρ.length := (List.getElem?_eq_some_iff.mp q).1
  have ow_set : ∀ {j : Nat}, isOw (ρ.set i (Sl.own io w'))[j]? = true → isOw ρ[j]? = true := fun {j} h => by
    by_cases e : j = i
    · subst e
      rw [q]
      rfl
    · rw [List.getElem?_set_ne (Ne.symm e)] at h
      exact h
  refine ⟨fun b o hb => ?_, S.f0, fun b o hb hn => ?_, S.fn, by rw [List.length_set]; exact S.len, fun j d h => ?_, fun j io' o h => ?_, fun j k b hjk h1 h2 => S.dis j k b hjk (ow_set h1) (ow_set h2), fun k b h => ?_⟩
  · rw [upd_ne (ne_of_none hb h2)]
    exact S.fh b o hb
  · have hba : b ≠ a := fun e => by
      subst e
      rcases h4 with h4 | h4
      · exact hn h4
      · rw [h4] at hb
        cases hb
    rw [upd_ne hba]
    exact S.h0 b o hb hn
  · by_cases e : j = i
    · subst e
      rw [List.getElem?_set_self hl] at h
      cases h
    · rw [List.getElem?_set_ne (Ne.symm e)] at h
      exact S.val j d h
  · by_cases e : j = i
    · subst e
      rw [List.getElem?_set_self hl] at h
      cases h
      exact ⟨a, hσ, h2, ok, h4⟩
    · rw [List.getElem?_set_ne (Ne.symm e)] at h
      obtain ⟨b, k1, k2, k3, k4⟩ := S.own j io' o h
      have hb : b ≠ a := fun eb => by
        subst eb
        exact S.dis i j b (Ne.symm e) (by rw [q]; rfl) (by rw [h]; rfl) hσ k1
      exact ⟨b, k1, k2, k3.mono (Same.refl _) (upd_ne hb), k4⟩
  · obtain ⟨e1, o, e2⟩ := S.io k b h
    by_cases e : k = i
    · subst e
      rw [q] at e2
      cases e2
      exact ⟨e1, _, List.getElem?_set_self hl⟩
    · exact ⟨e1, o, by rw [List.getElem?_set_ne (Ne.symm e)]; exact e2⟩
end

/-! ### x = e -/
def canSet (ρ : En) (i : Nat) : Bool := match ρ[i]? with
  | some (.own true _) => false
  | some _ => true
  | none => false
theorem canSet_ok {ρ : En} {i : Nat} (h : canSet ρ i = true) : i < ρ.length ∧ ∀ o, ρ[i]? ≠ some (Sl.own true o) := by
  unfold canSet at h
  cases q : ρ[i]? with
  | none =>
    rw [q] at h
    cases h
  | some s =>
    refine ⟨(List.getElem?_eq_some_iff.mp q).1, fun o e => ?_⟩
    rw [q] at h
    cases e
    cases h
def setSl (i : Nat) (v : OV) (ρ : En) : Option En := if canSet ρ i then (match v with
  | .d x => some (ρ.set i (.val x))
  | .n w => some (ρ.set i (.own false w))
  | .o j => match esc (.o j) ρ with
    | some (d, ρ) => if canSet ρ i then some (ρ.set i (.val d)) else none
    | none => none) else none
def nxt (o : Option En) : SR := match o with
  | some ρ => .nx ρ
  | none => .bad
def mSet (i : Nat) (m : EM) : SM := fun ρ => (m ρ).st fun v ρ => nxt (setSl i v ρ)
section
variable {K : PySem.W.Frag} {mg : Str → Option Value} {W : WX} {F F' H H' : Hp} {G : Gh} {σ : St} {ρ : En}
theorem Sat.setSl (S : Sat K mg G F H σ ρ) {i : Nat} {x : V} {v : OV} {ρ' : En} (r : RpO K mg G F H σ ρ x v) (h : setSl i v ρ = some ρ') : ∃ F', Same F F' ∧ Sat K mg G F' H (σ.set i (some x)) ρ' := by
  unfold Mi.setSl at h
  by_cases hc : canSet ρ i = true
  · rw [if_pos hc] at h
    obtain ⟨hi, hio⟩ := canSet_ok hc
    cases r with
    | d r =>
      cases h
      exact ⟨F, Same.refl _, S.put hi hio (.inr ⟨x, rfl, r⟩)⟩
    | n h1 h2 h3 h4 =>
      cases h
      exact ⟨F, Same.refl _, S.put hi hio (.inr ⟨_, rfl, rfl, _, rfl, h1, h2, h3, fun j _ => h4 j⟩)⟩
    | o e =>
      rename_i j
      dsimp only at h
      cases q : Mi.esc (.o j) ρ with
      | none =>
        rw [q] at h
        cases h
      | some p =>
        obtain ⟨d, ρ2⟩ := p
        rw [q] at h
        dsimp only at h
        obtain ⟨F2, e2, S2, r2⟩ := S.esc (.o e) q
        by_cases hc2 : canSet ρ2 i = true
        · rw [if_pos hc2] at h
          cases h
          obtain ⟨hi2, hio2⟩ := canSet_ok hc2
          exact ⟨F2, e2, S2.put hi2 hio2 (.inr ⟨x, rfl, r2⟩)⟩
        · rw [if_neg hc2] at h
          cases h
  · rw [if_neg hc] at h
    cases h
theorem set_fin {i : Nat} {x : V} {v : OV} {D : Ends} (S : Sat K mg G F H σ ρ) (r : RpO K mg G F H σ ρ x v) (k : SGd K mg W G F (nxt (setSl i v ρ)) D) : D.nx (σ.set i (some x)) H := by
  cases q : setSl i v ρ with
  | none =>
    rw [q] at k
    exact k.elim
  | some ρ' =>
    rw [q] at k
    obtain ⟨F', e, S'⟩ := S.setSl r q
    exact k F' H _ S' e
end
section
variable {X : Cx} {W : WX} {pos : Pos}
theorem ms_set {i : Nat} {x : Str} {e : Expr} {m : EM} {pos' : Pos} (hN : X.N.Nodup) (hi : X.N[i]? = some x) (hx : Loc X.env.scope x) (he : ME X W e m) (hs : swapsWith e (some (.Name x pos')) pos.line X.env = pure false := by rfl) (hf : X.fn x = true ∨ X.env.scope.names.lookup x = some .local := by first | exact .inl rfl | exact .inr rfl | assumption) :
    MS X W (.Assign [.Name x pos'] e pos) (mSet i m) :=
  MS.weak (ps_set hN hi hx he hs hf) fun S g => sub S (Gd.st g fun v ρ1 F1 H1 x S1 e1 r1 k1 => set_fin S1 r1 k1)
/-- x += e -/
def mAug (i : Nat) (g : D → D → Option D) (m : EM) : SM := fun ρ => match ρ[i]? with
  | some (.val d) => (m ρ).st fun v ρ => match v.fz.get ρ with
    | some e => (match g d e with
      | some z => if canSet ρ i then .nx (ρ.set i (.val z)) else .bad
      | none => .bad)
    | none => .bad
  | _ => .bad
theorem ms_aug {i : Nat} {x : Str} {e : Expr} {m : EM} {op : Operator} {ti : TIp} {g : D → D → Option D} {pos' : Pos} (o : Op2 X.K X.mg ti g) (hN : X.N.Nodup) (hi : X.N[i]? = some x) (hx : Loc X.env.scope x) (he : ME X W e m) (ho : PIp X op ti) (hf : X.fn x = true ∨ X.env.scope.names.lookup x = some .local := by first | exact .inl rfl | exact .inr rfl | assumption) :
    MS X W (.AugAssign (.Name x pos') op e pos) (mAug i g m) :=
  MS.weak (ps_aug hN hi hx he ho hf) fun {σ H D G F ρ} S k => by
    unfold mAug at k
    cases q : ρ[i]? with
    | none =>
      rw [q] at k
      exact k.elim
    | some s =>
      rw [q] at k
      cases s with
      | val d =>
        obtain ⟨y, h1, h2⟩ := S.val i d q
        refine ⟨y, h1, sub S (Gd.st k fun v ρ1 F1 H1 z S1 e1 r1 k1 => ?_)⟩
        obtain ⟨F2, e2, S2, r2⟩ := S1.fz r1
        cases q1 : v.fz.get ρ1 with
        | none =>
          rw [q1] at k1
          exact k1.elim
        | some e =>
          rw [q1] at k1
          dsimp only at k1
          cases q2 : g d e with
          | none =>
            rw [q2] at k1
            exact k1.elim
          | some z' =>
            rw [q2] at k1
            dsimp only at k1
            by_cases hc : canSet ρ1 i = true
            · rw [if_pos hc] at k1
              obtain ⟨hi', hio⟩ := canSet_ok hc
              refine o S2.fh (.fz ((h2.mono e1).mono e2)) (S2.get r2 q1) q2 fun F' H' w' ex rw' => ?_
              exact k1 F' H' _ ((S2.ext ex).put hi' hio (.inr ⟨w', rfl, rw'⟩)) (e2.trans ex.ff)
            · rw [if_neg hc] at k1
              exact k1.elim
      | _ => exact k.elim
theorem o_addI {K : PySem.W.Frag} {mg : Str → Option Value} : Op2 K mg (ipI fun i j => i + j) (fun d e => match d, e with | .int a, .int b => some (.int (a + b)) | _, _ => none) := fun {F H x y d e z Q} hs rx ry h q => by
  cases d <;> cases e <;> first | (cases h; done) | (cases h; exact ⟨_, _, rx.int, ry.int, q F H _ (.refl hs) (.int _)⟩)
theorem o_subI {K : PySem.W.Frag} {mg : Str → Option Value} : Op2 K mg (ipI fun i j => i - j) (fun d e => match d, e with | .int a, .int b => some (.int (a - b)) | _, _ => none) := fun {F H x y d e z Q} hs rx ry h q => by
  cases d <;> cases e <;> first | (cases h; done) | (cases h; exact ⟨_, _, rx.int, ry.int, q F H _ (.refl hs) (.int _)⟩)

/-! ### an object of one's own, changed -/
/-- x[i] = e -/
def mSetIx (s : Nat) (mi me : EM) : SM := fun ρ => (me ρ).st fun v ρ => match esc v.fz ρ with
  | some (d, ρ) => if isOw ρ[s]? then (mi ρ).st fun iv ρ => (match iv with
    | .d (.int k) => (match ρ[s]? with
      | some (.own io (.lst xs)) => (match ixN xs.length k with
        | some j => .nx (ρ.set s (.own io (.lst (xs.set j d))))
        | none => .bad)
      | _ => .bad)
    | _ => .bad) else .bad
  | none => .bad
theorem Sat.owAt {K : PySem.W.Frag} {mg : Str → Option Value} {F H : Hp} {G : Gh} {σ : St} {ρ : En} (S : Sat K mg G F H σ ρ) {s : Nat} (h : isOw ρ[s]? = true) : ∃ a io w, ρ[s]? = some (Sl.own io w) ∧ σ[s]? = some (some (V.ref a)) ∧ F a = none ∧ OwOk K mg F H a w := by
  cases q : ρ[s]? with
  | none =>
    rw [q] at h
    cases h
  | some sl =>
    rw [q] at h
    cases sl with
    | own io w =>
      obtain ⟨a, h1, h2, h3, _⟩ := S.own s io w q
      exact ⟨a, io, w, rfl, h1, h2, h3⟩
    | _ => cases h
theorem ms_setIx {s : Nat} {x : Str} {i e : Expr} {mi me : EM} {px pos' : Pos} (hi : ME X W i mi) (he : ME X W e me) (hpg : PG X (.Subscript (.Name x px) i pos') (gSub (tVar s) (tE X.K X.mg W mi) rSetL))
    (hs : swapsWithSole [.Subscript (.Name x px) i pos'] e pos.line X.env = pure false := by rfl) (hw : swappedStores [.Subscript (.Name x px) i pos'] e X.env = pure none := by rfl) : MS X W (.Assign [.Subscript (.Name x px) i pos'] e pos) (mSetIx s mi me) :=
  MS.weak (ps_asg he hpg hs hw) fun {σ H D G F ρ} S k => sub S (Gd.st k fun v ρ1 F1 H1 x1 S1 e1 r1 k1 => by
    obtain ⟨F2, e2, S2, r2⟩ := S1.fz r1
    cases q1 : esc v.fz ρ1 with
    | none =>
      rw [q1] at k1
      exact k1.elim
    | some p =>
      obtain ⟨d, ρ2⟩ := p
      rw [q1] at k1
      dsimp only at k1
      obtain ⟨F3, e3, S3, r3⟩ := S2.esc r2 q1
      by_cases ho : isOw ρ2[s]? = true
      · rw [if_pos ho] at k1
        have k3 := SGd.mono (e2.trans e3) k1
        obtain ⟨a, io0, w0, _, ha, _⟩ := S3.owAt ho
        refine ⟨_, ha, sub S3 (Gd.st k3 fun iv ρ3 F4 H4 y S4 e4 r4 k4 => ?_)⟩
        cases r4 with
        | d r =>
          cases r with
          | int n =>
            dsimp only at k4
            cases q4 : ρ3[s]? with
            | none =>
              rw [q4] at k4
              exact k4.elim
            | some sl =>
              rw [q4] at k4
              cases sl with
              | own io w =>
                cases w with
                | lst xs =>
                  dsimp only at k4
                  cases q5 : ixN xs.length n with
                  | none =>
                    rw [q5] at k4
                    exact k4.elim
                  | some j =>
                    rw [q5] at k4
                    dsimp only at k4
                    obtain ⟨b, b1, b2, b3, b4⟩ := S4.own s io _ q4
                    rw [ha] at b1
                    cases b1
                    cases b3 with
                    | lst hH rA =>
                      rename_i vs
                      refine ⟨a, vs, n, j, rfl, rfl, hH, by rw [rA.len]; exact q5, ?_⟩
                      exact k4 F4 _ σ (S4.upd q4 ha (.lst upd_same (rA.set (r3.mono e4) j))) (Same.refl _)
                | _ => exact k4.elim
              | _ => exact k4.elim
          | _ => exact k4.elim
        | _ => exact k4.elim
      · rw [if_neg ho] at k1
        exact k1.elim)
/-- d[k] = e, keys ints and texts -/
def putD {κ : Type} [DecidableEq κ] (kvs : List (κ × D)) (k : κ) (v : D) : List (κ × D) :=
  if (kvs.any fun kv => decide (kv.1 = k)) = true then kvs.map (fun kv => if kv.1 = k then (kv.1, v) else kv) else kvs ++ [(k, v)]
def mPut (s : Nat) (mk me : EM) : SM := fun ρ => (me ρ).st fun v ρ => match esc v.fz ρ with
  | some (d, ρ) => if isOw ρ[s]? then (mk ρ).st fun kv ρ => (match kv with
    | .d kd => (match keyD kd with
      | some k => (match ρ[s]? with
        | some (.own io (.dk kvs)) => if kvs.length < BIG then .nx (ρ.set s (.own io (.dk (putD kvs k d)))) else .bad
        | _ => .bad)
      | none => .bad)
    | _ => .bad) else .bad
  | none => .bad
theorem RpK.len {K : PySem.W.Frag} {mg : Str → Option Value} {F : Hp} {vs : List (Key × V)} {ds : List (Key × D)} : RpK K mg F vs ds → vs.length = ds.length
  | .nil => rfl
  | .cons _ t => congrArg Nat.succ (RpK.len t)
theorem keyD_V {K : PySem.W.Frag} {mg : Str → Option Value} {F : Hp} {x : V} {d : D} {k : Key} (r : Rp K mg F x d) (h : keyD d = some k) : x = kV k := by
  cases r <;> first | (cases h; done) | (cases h; rfl)
theorem RpK.any {K : PySem.W.Frag} {mg : Str → Option Value} {F : Hp} (k : Key) : ∀ {vs : List (Key × V)} {ds : List (Key × D)}, RpK K mg F vs ds → (vs.any fun kv => decide (kv.1 = k)) = (ds.any fun kv => decide (kv.1 = k))
  | _, _, .nil => rfl
  | _, _, .cons _ t => by
    rw [List.any_cons, List.any_cons, RpK.any k t]
theorem RpK.mapSet {K : PySem.W.Frag} {mg : Str → Option Value} {F : Hp} {v : V} {d : D} (k : Key) (r : Rp K mg F v d) : ∀ {vs : List (Key × V)} {ds : List (Key × D)}, RpK K mg F vs ds → RpK K mg F (vs.map fun kv => if kv.1 = k then (kv.1, v) else kv) (ds.map fun kv => if kv.1 = k then (kv.1, d) else kv)
  | _, _, .nil => .nil
  | (j, x) :: vs, (_, y) :: ds, .cons q t => by
    rw [List.map_cons, List.map_cons]
    by_cases e : j = k
    · rw [if_pos e, if_pos e]
      exact .cons r (RpK.mapSet k r t)
    · rw [if_neg e, if_neg e]
      exact .cons q (RpK.mapSet k r t)
theorem RpK.app {K : PySem.W.Frag} {mg : Str → Option Value} {F : Hp} {vs ws : List (Key × V)} {ds es : List (Key × D)} : RpK K mg F vs ds → RpK K mg F ws es → RpK K mg F (vs ++ ws) (ds ++ es)
  | .nil, s => s
  | .cons r t, s => .cons r (RpK.app t s)
theorem RpK.put {K : PySem.W.Frag} {mg : Str → Option Value} {F : Hp} {v : V} {d : D} (k : Key) (r : Rp K mg F v d) {vs : List (Key × V)} {ds : List (Key × D)} (t : RpK K mg F vs ds) : RpK K mg F (putK vs k v) (putD ds k d) := by
  unfold putK putD
  rw [RpK.any k t]
  by_cases e : (ds.any fun kv => decide (kv.1 = k)) = true
  · rw [if_pos e, if_pos e]
    exact RpK.mapSet k r t
  · rw [if_neg e, if_neg e]
    exact t.app (.cons r .nil)
theorem RpK.look {K : PySem.W.Frag} {mg : Str → Option Value} {F : Hp} (k : Key) : ∀ {vs : List (Key × V)} {ds : List (Key × D)}, RpK K mg F vs ds → (lookK ds k = none ∧ valV vs k = none) ∨ ∃ v d, lookK ds k = some d ∧ valV vs k = some v ∧ Rp K mg F v d
  | _, _, .nil => .inl ⟨rfl, rfl⟩
  | (j, x) :: vs, (_, y) :: ds, .cons q t => by
    by_cases e : j = k
    · refine .inr ⟨x, y, ?_, valV_pos (p := (j, x)) e, q⟩
      unfold lookK
      rw [List.find?_cons]
      simp [e]
    · have h1 : valV ((j, x) :: vs) k = valV vs k := valV_neg (p := (j, x)) e
      have h2 : lookK ((j, y) :: ds) k = lookK ds k := by
        unfold lookK
        rw [List.find?_cons]
        simp [e]
      rw [h1, h2]
      exact RpK.look k t
theorem ms_put {s : Nat} {x : Str} {i e : Expr} {mi me : EM} {px pos' : Pos} (hu : X.A.units + 1 < cLine) (hx : PE X (.Name x px) (tVar s)) (hi : ME X W i mi) (he : ME X W e me)
    (hs : swapsWith e (some (.Subscript (.Name x px) i pos')) pos.line X.env = pure false := by rfl) : MS X W (.Assign [.Subscript (.Name x px) i pos'] e pos) (mPut s mi me) :=
  MS.weak (ps_dput hu hx hi he hs) fun {σ H D G F ρ} S k => sub S (Gd.st k fun v ρ1 F1 H1 x1 S1 e1 r1 k1 => by
    obtain ⟨F2, e2, S2, r2⟩ := S1.fz r1
    cases q1 : esc v.fz ρ1 with
    | none =>
      rw [q1] at k1
      exact k1.elim
    | some p =>
      obtain ⟨d, ρ2⟩ := p
      rw [q1] at k1
      dsimp only at k1
      obtain ⟨F3, e3, S3, r3⟩ := S2.esc r2 q1
      by_cases ho : isOw ρ2[s]? = true
      · rw [if_pos ho] at k1
        have k3 := SGd.mono (e2.trans e3) k1
        obtain ⟨a, io0, w0, _, ha, _⟩ := S3.owAt ho
        refine ⟨_, ha, sub S3 (Gd.st k3 fun iv ρ3 F4 H4 y S4 e4 r4 k4 => ?_)⟩
        cases r4 with
        | d r =>
          rename_i kd
          dsimp only at k4
          cases q3 : keyD kd with
          | none =>
            rw [q3] at k4
            exact k4.elim
          | some kk =>
            rw [q3] at k4
            dsimp only at k4
            cases q4 : ρ3[s]? with
            | none =>
              rw [q4] at k4
              exact k4.elim
            | some sl =>
              rw [q4] at k4
              cases sl with
              | own io w =>
                cases w with
                | dk kvs =>
                  dsimp only at k4
                  by_cases hz : kvs.length < BIG
                  · rw [if_pos hz] at k4
                    obtain ⟨b, b1, b2, b3, b4⟩ := S4.own s io _ q4
                    rw [ha] at b1
                    cases b1
                    cases b3 with
                    | dk hH rA =>
                      rename_i vs
                      have ek := keyD_V r q3
                      subst ek
                      refine ⟨a, _, rfl, DPut.k hH (by rw [rA.len]; exact Nat.lt_of_lt_of_le hz BIG_le), ?_⟩
                      exact k4 F4 _ σ (S4.upd q4 ha (.dk upd_same (rA.put kk (r3.mono e4)))) (Same.refl _)
                  · rw [if_neg hz] at k4
                    exact k4.elim
                | _ => exact k4.elim
              | _ => exact k4.elim
        | _ => exact k4.elim
      · rw [if_neg ho] at k1
        exact k1.elim)
end
end Mi
set_option Elab.async false
set_option linter.all false
set_option maxRecDepth 100000
set_option maxHeartbeats 1000000
/-! Mi, part F: methods of a list of one's own; what is walked; for, while. -/
namespace Mi
open PySem PySem.Spec PyProof.Rows L2

def isOwL : Option Sl → Bool
  | some (.own _ (.lst _)) => true
  | _ => false
/-- the list in the slot s becomes f of it -/
def chg (s : Nat) (ρ : En) (f : List D → Option (List D × D)) : R OV := match ρ[s]? with
  | some (.own io (.lst xs)) => (match f xs with
    | some (ys, z) => .ok (.d z) (ρ.set s (.own io (.lst ys)))
    | none => .bad)
  | _ => .bad
def fApp (d : D) (xs : List D) : Option (List D × D) := if xs.length < BIG then some (xs ++ [d], .non) else none
def fExt (ys : List D) (xs : List D) : Option (List D × D) := if xs.length + ys.length ≤ BIG then some (xs ++ ys, .non) else none
def fPopAt (i : Int) (xs : List D) : Option (List D × D) := if -(2 ^ 63) ≤ i ∧ i < 2 ^ 63 then (match seqIndex? i xs.length with
  | some k => (match xs[k]? with
    | some y => some (xs.eraseIdx k, y)
    | none => none)
  | none => none) else none
def fPop (xs : List D) : Option (List D × D) := match xs[xs.length - 1]? with
  | some y => some (xs.dropLast, y)
  | none => none
def mAppend (s : Nat) (m : EM) : EM := fun ρ => if isOwL ρ[s]? then (m ρ).bind fun v ρ => (match esc v.fz ρ with
  | some (d, ρ) => chg s ρ (fApp d)
  | none => .bad) else .bad
def mExtend (s : Nat) (m : EM) : EM := fun ρ => if isOwL ρ[s]? then (m ρ).bind fun v ρ => (match v.fz.get ρ with
  | some (.lst ys) => chg s ρ (fExt ys)
  | _ => .bad) else .bad
def mPopAt (s : Nat) (m : EM) : EM := fun ρ => if isOwL ρ[s]? then (m ρ).bind fun v ρ => (match v with
  | .d (.int i) => chg s ρ (fPopAt i)
  | _ => .bad) else .bad
def mPop (s : Nat) : EM := fun ρ => chg s ρ fPop
section
variable {K : PySem.W.Frag} {mg : Str → Option Value} {W : WX} {F F' H H' : Hp} {G : Gh} {σ : St} {ρ : En}
theorem Sat.owLAt (S : Sat K mg G F H σ ρ) {s : Nat} (h : isOwL ρ[s]? = true) : ∃ a vs, σ[s]? = some (some (V.ref a)) ∧ H a = some (.lst vs) := by
  cases q : ρ[s]? with
  | none =>
    rw [q] at h
    cases h
  | some sl =>
    rw [q] at h
    cases sl with
    | own io w =>
      cases w with
      | lst xs =>
        obtain ⟨a, h1, h2, h3, _⟩ := S.own s io _ q
        cases h3 with
        | lst hH _ => exact ⟨a, _, h1, hH⟩
      | _ => cases h
    | _ => cases h
theorem chg_ok {s : Nat} {f : List D → Option (List D × D)} {Q : VK} (S : Sat K mg G F H σ ρ) (k : Gd K mg W (RpO K mg) G F σ (chg s ρ f) Q) :
    ∃ a vs xs ys z, σ[s]? = some (some (V.ref a)) ∧ H a = some (.lst vs) ∧ RpA K mg F vs xs ∧ f xs = some (ys, z) ∧ ∀ ws w, RpA K mg F ws ys → Rp K mg F w z → Q w (upd H a (.lst ws)) := by
  unfold chg at k
  cases q : ρ[s]? with
  | none =>
    rw [q] at k
    exact k.elim
  | some sl =>
    rw [q] at k
    cases sl with
    | own io w =>
      cases w with
      | lst xs =>
        dsimp only at k
        cases q2 : f xs with
        | none =>
          rw [q2] at k
          exact k.elim
        | some p =>
          obtain ⟨ys, z⟩ := p
          rw [q2] at k
          dsimp only at k
          obtain ⟨a, h1, h2, h3, _⟩ := S.own s io _ q
          cases h3 with
          | lst hH rA => exact ⟨a, _, xs, ys, z, h1, hH, rA, q2, fun ws w r1 r2 => k F _ w (S.upd q h1 (.lst upd_same r1)) (Same.refl _) (.d r2)⟩
      | _ => exact k.elim
    | _ => exact k.elim
theorem ifL {s : Nat} {r : R OV} {Q : VK} (k : Gd K mg W (RpO K mg) G F σ (if isOwL ρ[s]? then r else .bad) Q) : isOwL ρ[s]? = true ∧ Gd K mg W (RpO K mg) G F σ r Q := by
  by_cases h : isOwL ρ[s]? = true
  · rw [if_pos h] at k
    exact ⟨h, k⟩
  · rw [if_neg h] at k
    exact k.elim
end
section
variable {X : Cx} {W : WX} {s : Nat} {x : Str} {e : Expr} {m : EM} {px apos cpos : Pos}
theorem tyL {K : PySem.W.Frag} {H : Hp} {a : Addr} {vs : List V} (h : H a = some (.lst vs)) : tyV K "list" (.ref a) H := .inl ⟨rfl, _, .of h⟩
theorem me_append (hx : PE X (.Name x px) (tVar s)) (ha : ME X W e m) (h : PE X (.Call (.Attribute (.Name x px) "append" apos) [e] [] cpos) (tBM X.K "list" rAppend (tVar s) (tCons (tE X.K X.mg W m) tNil))) :
    ME X W (.Call (.Attribute (.Name x px) "append" apos) [e] [] cpos) (mAppend s m) :=
  ME.weak h fun {σ H Q G F ρ} S k => by
    obtain ⟨h0, k⟩ := ifL k
    obtain ⟨a, vs, ha, hv⟩ := S.owLAt h0
    refine ⟨_, ha, tyL hv, sub S (Gd.opd (f := fun v ρ => match esc v ρ with
      | some (d, ρ) => chg s ρ (fApp d)
      | none => .bad) k fun v ρ1 F1 H1 y S1 e1 r1 k1 => ?_)⟩
    cases q : esc v ρ1 with
    | none =>
      rw [q] at k1
      exact k1.elim
    | some p =>
      obtain ⟨d, ρ2⟩ := p
      rw [q] at k1
      dsimp only at k1
      obtain ⟨F2, e2, S2, r2⟩ := S1.esc r1 q
      obtain ⟨b, ws, xs, ys, z, b1, b2, b3, b4, k3⟩ := chg_ok S2 (Gd.mono e2 k1)
      rw [ha] at b1
      cases b1
      obtain ⟨hz, e4⟩ := if_some b4
      cases e4
      exact ⟨a, ws, y, rfl, rfl, b2, by rw [b3.len]; exact Nat.lt_of_lt_of_le hz BIG_le, k3 _ _ (b3.app (.one r2)) .non⟩
theorem me_extend (ha : ME X W e m) (h : PE X (.Call (.Attribute (.Name x px) "extend" apos) [e] [] cpos) (tBM X.K "list" rExtend (tVar s) (tCons (tE X.K X.mg W m) tNil))) :
    ME X W (.Call (.Attribute (.Name x px) "extend" apos) [e] [] cpos) (mExtend s m) :=
  ME.weak h fun {σ H Q G F ρ} S k => by
    obtain ⟨h0, k⟩ := ifL k
    obtain ⟨a, vs, ha, hv⟩ := S.owLAt h0
    refine ⟨_, ha, tyL hv, sub S (Gd.opd (f := fun v ρ => match v.get ρ with
      | some (.lst ys) => chg s ρ (fExt ys)
      | _ => .bad) k fun v ρ1 F1 H1 y S1 e1 r1 k1 => ?_)⟩
    cases q : v.get ρ1 with
    | none =>
      rw [q] at k1
      exact k1.elim
    | some d =>
      rw [q] at k1
      cases d with
      | lst es =>
        dsimp only at k1
        obtain ⟨c, cs, rfl, hc, rc⟩ := (S1.get r1 q).lst S1.fh
        obtain ⟨b, ws, xs, ys, z, b1, b2, b3, b4, k3⟩ := chg_ok S1 k1
        rw [ha] at b1
        cases b1
        obtain ⟨hz, e4⟩ := if_some b4
        cases e4
        exact ⟨a, c, ws, cs, rfl, rfl, b2, hc, by rw [b3.len, rc.len]; exact Nat.le_trans hz BIG_le, k3 _ _ (b3.app rc) .non⟩
      | _ => exact k1.elim
theorem me_popAt (ha : ME X W e m) (h : PE X (.Call (.Attribute (.Name x px) "pop" apos) [e] [] cpos) (tBM X.K "list" rPopAt (tVar s) (tCons (tE X.K X.mg W m) tNil))) :
    ME X W (.Call (.Attribute (.Name x px) "pop" apos) [e] [] cpos) (mPopAt s m) :=
  ME.weak h fun {σ H Q G F ρ} S k => by
    obtain ⟨h0, k⟩ := ifL k
    obtain ⟨a, vs, ha, hv⟩ := S.owLAt h0
    refine ⟨_, ha, tyL hv, sub S (Gd.bind k fun v ρ1 F1 H1 y _ S1 e1 r1 k1 => ?_)⟩
    cases r1 with
    | d r =>
      cases r with
      | int i =>
        dsimp only at k1
        obtain ⟨b, ws, xs, ys, z, b1, b2, b3, b4, k3⟩ := chg_ok S1 k1
        rw [ha] at b1
        cases b1
        unfold fPopAt at b4
        by_cases hz : -(2 ^ 63) ≤ i ∧ i < 2 ^ 63
        · rw [if_pos hz] at b4
          cases q3 : seqIndex? i xs.length with
          | none =>
            rw [q3] at b4
            cases b4
          | some j =>
            rw [q3] at b4
            dsimp only at b4
            cases q4 : xs[j]? with
            | none =>
              rw [q4] at b4
              cases b4
            | some d =>
              rw [q4] at b4
              cases b4
              obtain ⟨v, v1, v2⟩ := b3.get q4
              exact ⟨a, ws, i, j, v, rfl, rfl, b2, hz.1, hz.2, by rw [b3.len]; exact q3, v1, k3 _ _ (b3.erase j) v2⟩
        · rw [if_neg hz] at b4
          cases b4
      | _ => exact k1.elim
    | _ => exact k1.elim
theorem me_pop (h : PE X (.Call (.Attribute (.Name x px) "pop" apos) [] [] cpos) (tBM0 X.K "list" rPop (tVar s))) :
    ME X W (.Call (.Attribute (.Name x px) "pop" apos) [] [] cpos) (mPop s) :=
  ME.weak h fun {σ H Q G F ρ} S k => by
    obtain ⟨b, ws, xs, ys, z, b1, b2, b3, b4, k3⟩ := chg_ok S k
    unfold fPop at b4
    cases q4 : xs[xs.length - 1]? with
    | none =>
      rw [q4] at b4
      cases b4
    | some d =>
      rw [q4] at b4
      cases b4
      obtain ⟨v, v1, v2⟩ := b3.get q4
      exact ⟨_, b1, tyL b2, b, ws, v, rfl, rfl, b2, by rw [b3.len]; exact v1, k3 _ _ b3.dropLast v2⟩
end
end Mi
set_option Elab.async false
set_option linter.all false
set_option maxRecDepth 100000
set_option maxHeartbeats 1000000
/-! Mi, part G: what is walked; for, while, comprehensions. -/
namespace Mi
open PySem PySem.Spec PyProof.Rows L2

/-- an item of a walk: data; a new pair -/
inductive IV where
  | one (d : D) | pair (d e : D)
section
variable (K : PySem.W.Frag) (mg : Str → Option Value)
inductive RpV (F H : Hp) : V → IV → Prop
  | one {x : V} {d : D} : Rp K mg F x d → RpV F H x (.one d)
  | pair {a : Addr} {x y : V} {d e : D} : SqT K H a [x, y] → Rp K mg F x d → Rp K mg F y e → RpV F H (.ref a) (.pair d e)
/-- the walk J hands out the items ivs, as long as what is frozen in F1 stays -/
structure JOk (F1 : Hp) (J : It) (ivs : List IV) : Prop where
  stop : ∀ F H i, Same F1 F → Same F H → ivs.length ≤ i → J.stop i H
  go : ∀ F H i iv, Same F1 F → Same F H → ivs[i]? = some iv → J.go i H
  yld : ∀ F H i iv x H', Same F1 F → Same F H → ivs[i]? = some iv → J.yld i H x H' → (∃ F', Ext F H F' H' ∧ RpV K mg F' H' x iv)
def tI (W : WX) (m : En → R (List IV)) : TI := fun σ H Q => ∃ G F ρ, Sat K mg G F H σ ρ ∧ Gd K mg W (fun _ F _ _ _ J ivs => JOk K mg F J ivs) G F σ (m ρ) Q
end
abbrev IM := En → R (List IV)
abbrev MI (X : Cx) (W : WX) (tg iter : Expr) (m : IM) : Prop := PI X tg iter (tI X.K X.mg W m)

section
variable {K : PySem.W.Frag} {mg : Str → Option Value} {W : WX} {F F' H H' : Hp} {G : Gh} {σ : St} {ρ : En}
theorem JOk.mono {J : It} {ivs : List IV} (e : Same F F') (h : JOk K mg F J ivs) : JOk K mg F' J ivs :=
  ⟨fun F2 H i e2 => h.stop F2 H i (e.trans e2), fun F2 H i iv e2 => h.go F2 H i iv (e.trans e2), fun F2 H i iv x H' e2 => h.yld F2 H i iv x H' (e.trans e2)⟩
theorem get_one {ds : List D} {i : Nat} {iv : IV} (h : (ds.map IV.one)[i]? = some iv) : ∃ d, ds[i]? = some d ∧ iv = .one d := by
  rw [List.getElem?_map] at h
  cases e : ds[i]? with
  | none =>
    rw [e] at h
    cases h
  | some d =>
    rw [e] at h
    exact ⟨d, rfl, (Option.some.inj h).symm⟩
theorem jok_list {a : Addr} {vs : List V} {ds : List D} (h : SqL K F a vs) (r : RpA K mg F vs ds) (inj : ∀ F2 H2, Same F F2 → Same F2 H2 → ∀ xs, SqL K H2 a xs → xs = vs → True) : JOk K mg F (Itl K a) (ds.map .one) := by
  refine ⟨fun F2 H2 i e1 e2 hi => ⟨vs, (e1.trans e2).seq h, by rw [r.len]; simpa using hi⟩, fun F2 H2 i iv e1 e2 hi => ?_, fun F2 H2 i iv x H' e1 e2 hi hy => ?_⟩
  · obtain ⟨d, hd, rfl⟩ := get_one hi
    obtain ⟨v, hv, _⟩ := r.get hd
    exact ⟨vs, v, (e1.trans e2).seq h, hv⟩
  · obtain ⟨d, hd, rfl⟩ := get_one hi
    obtain ⟨v, hv, rv⟩ := r.get hd
    obtain ⟨rfl, k⟩ := hy
    have e := k vs ((e1.trans e2).seq h)
    rw [hv] at e
    cases e
    exact ⟨F2, .refl e2, .one (rv.mono e1)⟩
theorem jok_tup {a : Addr} {vs : List V} {ds : List D} (h : FT F a vs) (r : RpA K mg F vs ds) : JOk K mg F (Itt K a) (ds.map .one) := by
  refine ⟨fun F2 H2 i e1 e2 hi => ⟨vs, (h.mono (e1.trans e2)).seq, by rw [r.len]; simpa using hi⟩, fun F2 H2 i iv e1 e2 hi => ?_, fun F2 H2 i iv x H' e1 e2 hi hy => ?_⟩
  · obtain ⟨d, hd, rfl⟩ := get_one hi
    obtain ⟨v, hv, _⟩ := r.get hd
    exact ⟨vs, v, (h.mono (e1.trans e2)).seq, hv⟩
  · obtain ⟨d, hd, rfl⟩ := get_one hi
    obtain ⟨v, hv, rv⟩ := r.get hd
    obtain ⟨rfl, k⟩ := hy
    have e := k vs (h.mono (e1.trans e2)).seq
    rw [hv] at e
    cases e
    exact ⟨F2, .refl e2, .one (rv.mono e1)⟩
def rgD (a b : Int) : List D := (List.range (b - a).toNat).map fun i => D.int (a + (i : Nat))
theorem jok_rng {lo hi : Int} : JOk K mg F (Itr lo (hi - lo).toNat) ((rgD lo hi).map .one) := by
  have hl : ((rgD lo hi).map IV.one).length = (hi - lo).toNat := by simp [rgD]
  have at_ : ∀ {i : Nat} {iv : IV}, ((rgD lo hi).map IV.one)[i]? = some iv → i < (hi - lo).toNat ∧ iv = .one (.int (lo + (i : Nat))) := fun {i iv} h => by
    obtain ⟨d, hd, rfl⟩ := get_one h
    have hlt : i < (hi - lo).toNat := by
      have := (List.getElem?_eq_some_iff.mp hd).1
      simpa [rgD] using this
    refine ⟨hlt, ?_⟩
    unfold rgD at hd
    rw [List.getElem?_map, List.getElem?_range hlt] at hd
    cases hd
    rfl
  refine ⟨fun F2 H2 i e1 e2 hi' => by rw [hl] at hi'; exact hi', fun F2 H2 i iv e1 e2 hi' => (at_ hi').1, fun F2 H2 i iv x H' e1 e2 hi' hy => ?_⟩
  obtain ⟨_, rfl⟩ := at_ hi'
  obtain ⟨rfl, rfl⟩ := hy
  exact ⟨F2, .refl e2, .one (.int _)⟩
end

/-! ### the walks -/
def itD : D → Option (List IV)
  | .lst ds => some (ds.map .one)
  | .tup ds => some (ds.map .one)
  | .frl ds => some (ds.map .one)
  | _ => none
/-- for x in e: a list or a tuple -/
def mSeqI (m : EM) : IM := fun ρ => (m ρ).bind fun v ρ => match esc v.fz ρ with
  | some (d, ρ) => (match itD d with
    | some ivs => .ok ivs ρ
    | none => .bad)
  | none => .bad
/-- range(a), range(a, b) -/
def rgI (lo hi : Int) (ρ : En) : R (List IV) := if -(2 ^ 62) ≤ lo ∧ lo < 2 ^ 62 ∧ -(2 ^ 62) ≤ hi ∧ hi < 2 ^ 62 then .ok ((rgD lo hi).map .one) ρ else .bad
def mRng1 (m : EM) : IM := fun ρ => (m ρ).bind fun v ρ => match v with
  | .d (.int n) => rgI 0 n ρ
  | _ => .bad
def mRng2 (a b : EM) : IM := fun ρ => (a ρ).bind fun v ρ => (b ρ).bind fun u ρ => match v with
  | .d (.int i) => (match u with
    | .d (.int j) => rgI i j ρ
    | _ => .bad)
  | _ => .bad
section
variable {X : Cx} {W : WX} {tg e : Expr} {m : EM}
theorem MI.weak {iter : Expr} {t : TI} {m : IM} (h : PI X tg iter t) (k : ∀ {σ : St} {H : Hp} {Q : It → Hp → Prop} {G : Gh} {F : Hp} {ρ : En}, Sat X.K X.mg G F H σ ρ → Gd X.K X.mg W (fun _ F _ _ _ J ivs => JOk X.K X.mg F J ivs) G F σ (m ρ) Q → t σ H Q) : MI X W tg iter m :=
  ⟨fun pins s σ H Q I ⟨_, _, _, S, g⟩ => h.run pins s σ H Q I (k S g)⟩
theorem PI.or {iter : Expr} {t t' : TI} (h : PI X tg iter t) (h' : PI X tg iter t') : PI X tg iter (fun σ H R => t σ H R ∨ t' σ H R) :=
  ⟨fun pins s σ H R I q => q.elim (h.run pins s σ H R I) (h'.run pins s σ H R I)⟩
theorem mi_seq (he : ME X W e m) : MI X W tg e (mSeqI m) :=
  MI.weak (PI.or (pi_list he) (pi_tup he)) fun {σ H Q G F ρ} S k => by
    unfold mSeqI at k
    cases q : m ρ with
    | bad =>
      rw [q] at k
      exact k.elim
    | ex x ρ1 =>
      rw [q] at k
      exact .inl (sub S (by rw [q]; exact k))
    | ok v ρ1 =>
      have k' : Gd X.K X.mg W (fun _ F _ _ _ J ivs => JOk X.K X.mg F J ivs) G F σ ((m ρ).bind fun v ρ => match esc v.fz ρ with
        | some (d, ρ) => (match itD d with
          | some ivs => .ok ivs ρ
          | none => .bad)
        | none => .bad) Q := k
      rw [q] at k
      dsimp only [R.bind] at k
      cases q1 : esc v.fz ρ1 with
      | none =>
        rw [q1] at k
        exact k.elim
      | some p =>
        obtain ⟨d, ρ2⟩ := p
        rw [q1] at k
        dsimp only at k
        cases q2 : itD d with
        | none =>
          rw [q2] at k
          exact k.elim
        | some ivs =>
          rw [q2] at k
          have core : ∀ F1 H1 x, Sat X.K X.mg G F1 H1 σ ρ1 → Same F F1 → RpO X.K X.mg G F1 H1 σ ρ1 x v → ∃ F3, Same F F3 ∧ Sat X.K X.mg G F3 H1 σ ρ2 ∧ Rp X.K X.mg F3 x d := fun F1 H1 x S1 e1 r1 => by
            obtain ⟨F2, e2, S2, r2⟩ := S1.fz r1
            obtain ⟨F3, e3, S3, r3⟩ := S2.esc r2 q1
            exact ⟨F3, (e1.trans e2).trans e3, S3, r3⟩
          cases d with
          | lst ds =>
            cases q2
            refine .inl ⟨G, F, ρ, S, ?_⟩
            rw [q]
            intro F1 H1 x S1 e1 r1
            obtain ⟨F3, e3, S3, r3⟩ := core F1 H1 x S1 e1 r1
            cases r3 with
            | lst h r => exact ⟨_, rfl, ⟨_, .of (S3.fh _ _ h)⟩, k F3 H1 _ S3 e3 (jok_list (.of h) r fun _ _ _ _ _ _ _ => trivial)⟩
          | frl ds =>
            cases q2
            refine .inl ⟨G, F, ρ, S, ?_⟩
            rw [q]
            intro F1 H1 x S1 e1 r1
            obtain ⟨F3, e3, S3, r3⟩ := core F1 H1 x S1 e1 r1
            cases r3 with
            | frl h r => exact ⟨_, rfl, ⟨_, S3.fh.seq h⟩, k F3 H1 _ S3 e3 (jok_list h r fun _ _ _ _ _ _ _ => trivial)⟩
          | tup ds =>
            cases q2
            refine .inr ⟨G, F, ρ, S, ?_⟩
            rw [q]
            intro F1 H1 x S1 e1 r1
            obtain ⟨F3, e3, S3, r3⟩ := core F1 H1 x S1 e1 r1
            cases r3 with
            | tup h r => exact ⟨_, rfl, ⟨_, (h.mono S3.fh).seq⟩, k F3 H1 _ S3 e3 (jok_tup h r)⟩
          | _ => cases q2
theorem rgI_ok {lo hi : Int} {σ : St} {ρ : En} {G : Gh} {F H : Hp} {Q : It → Hp → Prop} (S : Sat X.K X.mg G F H σ ρ) (k : Gd X.K X.mg W (fun _ F _ _ _ J ivs => JOk X.K X.mg F J ivs) G F σ (rgI lo hi ρ) Q) :
    (-(2 ^ 62) ≤ lo ∧ lo < 2 ^ 62 ∧ -(2 ^ 62) ≤ hi ∧ hi < 2 ^ 62) ∧ Q (Itr lo (hi - lo).toNat) H := by
  unfold rgI at k
  by_cases h : -(2 ^ 62) ≤ lo ∧ lo < 2 ^ 62 ∧ -(2 ^ 62) ≤ hi ∧ hi < 2 ^ 62
  · rw [if_pos h] at k
    exact ⟨h, k F H _ S (Same.refl _) jok_rng⟩
  · rw [if_neg h] at k
    exact k.elim
theorem mi_rng1 {p pos : Pos} {t : TI} (h : PI X tg e (iRng1 (tCons (tE X.K X.mg W m) tNil))) : MI X W tg e (mRng1 m) :=
  MI.weak h fun {σ H Q G F ρ} S k => sub S (Gd.bind k fun v ρ1 F1 H1 x _ S1 e1 r1 k1 => by
    cases r1 with
    | d r =>
      cases r with
      | int n =>
        obtain ⟨⟨_, _, h1, h2⟩, q⟩ := rgI_ok S1 k1
        exact ⟨n, rfl, h1, h2, by simpa using q⟩
      | _ => exact k1.elim
    | _ => exact k1.elim)
theorem mi_rng2 {a b : EM} (h : PI X tg e (iRng2 (tCons (tE X.K X.mg W a) (tCons (tE X.K X.mg W b) tNil)))) : MI X W tg e (mRng2 a b) :=
  MI.weak h fun {σ H Q G F ρ} S k => sub S (Gd.bind k fun v ρ1 F1 H1 x _ S1 e1 r1 k1 => sub S1 (Gd.bind k1 fun u ρ2 F2 H2 y _ S2 e2 r2 k2 => by
    cases r1 with
    | d r =>
      cases r with
      | int i =>
        cases r2 with
        | d r' =>
          cases r' with
          | int j =>
            obtain ⟨h, q⟩ := rgI_ok S2 k2
            exact ⟨i, j, rfl, h, q⟩
          | _ => exact k2.elim
        | _ => exact k2.elim
      | _ => exact k2.elim
    | _ => exact k2.elim))
end

/-! ### targets -/
abbrev GM := IV → En → Option En
def gN (i : Nat) : GM := fun iv ρ => match iv with
  | .one d => if canSet ρ i then some (ρ.set i (.val d)) else none
  | .pair _ _ => none
/-- several names -/
def setAll : List Nat → List D → En → Option En
  | [], [], ρ => some ρ
  | i :: is, d :: ds, ρ => if canSet ρ i then setAll is ds (ρ.set i (.val d)) else none
  | _, _, _ => none
def gT (is : List Nat) : GM := fun iv ρ => match iv with
  | .one (.tup ds) => setAll is ds ρ
  | .pair d e => setAll is [d, e] ρ
  | _ => none
def gNames : List Nat → TGs
  | [] => gNil
  | i :: is => gCons (gName i) (gNames is)
section
variable {K : PySem.W.Frag} {mg : Str → Option Value} {F F' H H' : Hp} {G : Gh} {σ : St} {ρ : En}
/-- a target that does as its mirror says -/
def TgOk (K : PySem.W.Frag) (mg : Str → Option Value) (is : List Nat) (g : TG) (gm : GM) : Prop := ∀ {F H : Hp} {G : Gh} {σ : St} {ρ ρ' : En} {x : V} {iv : IV} {Q : St → Hp → Prop}, Sat K mg G F H σ ρ → RpV K mg F H x iv → gm iv ρ = some ρ' →
  (∀ σ', Sat K mg G F H σ' ρ' → (∀ j, j ∉ is → σ'[j]? = σ[j]?) → σ'.length = σ.length → Q σ' H) → g x σ H Q
theorem tg_name (i : Nat) : TgOk K mg [i] (gName i) (gN i) := fun {F H G σ ρ ρ' x iv Q} S r h q => by
  cases r with
  | one r =>
    obtain ⟨hc, e⟩ := if_some h
    cases e
    obtain ⟨h1, h2⟩ := canSet_ok hc
    exact q _ (S.put h1 h2 (.inr ⟨x, rfl, r⟩)) (fun j hj => List.getElem?_set_ne (fun e => hj (by simp [e]))) (List.length_set ..)
  | pair => cases h
theorem setAll_ok : ∀ {is : List Nat} {ds : List D} {xs : List V} {σ : St} {ρ ρ' : En} {Q : St → Hp → Prop}, Sat K mg G F H σ ρ → RpA K mg F xs ds → setAll is ds ρ = some ρ' → (∀ σ', Sat K mg G F H σ' ρ' → (∀ j, j ∉ is → σ'[j]? = σ[j]?) → σ'.length = σ.length → Q σ' H) → gNames is xs σ H Q
  | [], [], _, _, _, _, _, S, .nil, h, q => by
    cases h
    exact ⟨rfl, q _ S (fun _ _ => rfl) rfl⟩
  | i :: is, d :: ds, _, σ, ρ, ρ', Q, S, .cons r t, h, q => by
    unfold setAll at h
    by_cases hc : canSet ρ i = true
    · rw [if_pos hc] at h
      obtain ⟨h1, h2⟩ := canSet_ok hc
      exact ⟨_, _, rfl, setAll_ok (S.put (s := .val d) h1 h2 (.inr ⟨_, rfl, r⟩)) t h fun σ' S' k kl => q σ' S' (fun j hj => (k j (fun z => hj (List.mem_cons_of_mem _ z))).trans (List.getElem?_set_ne (fun e => hj (by simp [e])))) (kl.trans (List.length_set ..))⟩
    · rw [if_neg hc] at h
      cases h
  | [], _ :: _, _, _, _, _, _, _, _, h, _ => by cases h
  | _ :: _, [], _, _, _, _, _, _, _, h, _ => by cases h
theorem setAll_len : ∀ {is : List Nat} {ds : List D} {ρ ρ' : En}, setAll is ds ρ = some ρ' → ds.length = is.length
  | [], [], _, _, _ => rfl
  | i :: is, d :: ds, ρ, ρ', h => by
    unfold setAll at h
    by_cases hc : canSet ρ i = true
    · rw [if_pos hc] at h
      exact congrArg Nat.succ (setAll_len h)
    · rw [if_neg hc] at h
      cases h
  | [], _ :: _, _, _, h => by cases h
  | _ :: _, [], _, _, h => by cases h
theorem tg_tup (is : List Nat) (n : Nat) (hn : is.length = n) : TgOk K mg is (gTup K n (gNames is)) (gT is) := fun {F H G σ ρ ρ' x iv Q} S r h q => by
  cases r with
  | one r =>
    cases r with
    | tup hf ra => exact ⟨_, _, rfl, (hf.mono S.fh).seq, by rw [ra.len, setAll_len h, hn], setAll_ok S ra h q⟩
    | _ => cases h
  | pair hs r1 r2 => exact ⟨_, _, rfl, hs, by rw [← hn, ← setAll_len h]; rfl, setAll_ok S (.cons r1 (.cons r2 .nil)) h q⟩
end

/-! ### for -/
def mForL (gm : GM) (b : SM) : List IV → SM
  | [], ρ => .nx ρ
  | iv :: ivs, ρ => match gm iv ρ with
    | some ρ => (match b ρ with
      | .nx ρ => mForL gm b ivs ρ
      | .ct ρ => mForL gm b ivs ρ
      | .bk ρ => .nx ρ
      | r => r)
    | none => .bad
def mFor (im : IM) (gm : GM) (b : SM) : SM := fun ρ => (im ρ).st fun ivs ρ => mForL gm b ivs ρ
section
variable {X : Cx} {W : WX} {tg iter : Expr} {body : List Stmt} {pos : Pos}
theorem Same.seqq {F F' : Hp} (h : Same F F') : Same F F' := h
theorem ms_for {is : List Nat} {im : IM} {g : TG} {gm : GM} {b : SM} (hp : PassesOwn (model X.prog X.w) X.A X.env X.xe) (hc : X.calm = true) (hi : MI X W tg iter im) (hg : PG X tg g) (hgm : TgOk X.K X.mg is g gm) (hb : MSs X W body b)
    (hs : ∀ x, foldedSetIterable iter X.env x = pure x := by intro _; rfl) : MS X W (.For tg iter body [] pos) (mFor im gm b) :=
  MS.weak (ps_for hp hc hi hg hb hs) fun {σ H D G F ρ} S k => ⟨G, F, ρ, S, Gd.st k fun ivs ρ1 F1 H1 J S1 e1 jok k1 => by
    refine ⟨fun i m σ H => i + m = ivs.length ∧ ∃ F ρ, Sat X.K X.mg G F H σ ρ ∧ Same F1 F ∧ SGd X.K X.mg W G F (mForL gm b (ivs.drop i) ρ) D, ⟨ivs.length, by omega, F1, ρ1, S1, Same.refl _, k1⟩, ?_⟩
    rintro i m σ2 H2 ⟨him, F2, ρ2, S2, e2, k2⟩
    by_cases hi : i < ivs.length
    · have hiv : ivs[i]? = some ivs[i] := List.getElem?_eq_getElem hi
      rw [List.drop_eq_getElem_cons hi] at k2
      refine .inr ⟨jok.go F2 H2 i _ e2 S2.fh hiv, fun σ' H' => ∃ F ρ, Sat X.K X.mg G F H' σ' ρ ∧ Same F1 F ∧ SGd X.K X.mg W G F (mForL gm b (ivs.drop (i + 1)) ρ) D, fun σ' H' hN => ⟨m - 1, by omega, by omega, hN⟩, fun x H' hy => ?_⟩
      obtain ⟨F3, ex, rv⟩ := jok.yld F2 H2 i _ x H' e2 S2.fh hiv hy
      have S3 := S2.ext ex
      unfold mForL at k2
      cases q : gm ivs[i] ρ2 with
      | none =>
        rw [q] at k2
        exact k2.elim
      | some ρ3 =>
        rw [q] at k2
        dsimp only at k2
        refine hgm S3 rv q fun σ3 S4 _ _ => subS S4 ?_
        have k3 := SGd.mono ex.ff k2
        cases q2 : b ρ3 with
        | nx ρ4 =>
          rw [q2] at k3
          exact fun F5 H5 σ5 S5 e5 => ⟨F5, ρ4, S5, (e2.trans ex.ff).trans e5, SGd.mono e5 k3⟩
        | ct ρ4 =>
          rw [q2] at k3
          exact fun F5 H5 σ5 S5 e5 => ⟨F5, ρ4, S5, (e2.trans ex.ff).trans e5, SGd.mono e5 k3⟩
        | bk ρ4 =>
          rw [q2] at k3
          exact fun F5 H5 σ5 S5 e5 => k3 F5 H5 σ5 S5 e5
        | rt r ρ4 =>
          rw [q2] at k3
          exact k3
        | ex x ρ4 =>
          rw [q2] at k3
          exact k3
        | bad =>
          rw [q2] at k3
          exact k3.elim
    · have hd : ivs.drop i = [] := List.drop_eq_nil_of_le (by omega)
      rw [hd] at k2
      exact .inl ⟨jok.stop F2 H2 i e2 S2.fh (by omega), k2 F2 H2 σ2 S2 (Same.refl _)⟩⟩

/-! ### while -/
def mWhN (c : TM) (b : SM) : Nat → SM
  | 0, _ => .bad
  | n + 1, ρ => match c ρ with
    | .ok true ρ => (match b ρ with
      | .nx ρ => mWhN c b n ρ
      | .ct ρ => mWhN c b n ρ
      | .bk ρ => .nx ρ
      | r => r)
    | .ok false ρ => .nx ρ
    | .ex x ρ => .ex x ρ
    | .bad => .bad
open Classical in
/-- a while: what it comes to in some number of turns -/
noncomputable def mWhile (c : TM) (b : SM) : SM := fun ρ => if h : ∃ n, mWhN c b n ρ ≠ .bad then mWhN c b (Classical.choose h) ρ else .bad
theorem mWhN_succ {c : TM} {b : SM} : ∀ {n : Nat} {ρ : En}, mWhN c b n ρ ≠ .bad → mWhN c b (n + 1) ρ = mWhN c b n ρ
  | 0, ρ, h => absurd rfl h
  | n + 1, ρ, h => by
    have key : ∀ ρ', mWhN c b n ρ' ≠ .bad → mWhN c b (n + 1) ρ' = mWhN c b n ρ' := fun ρ' h' => mWhN_succ h'
    rw [mWhN] at h
    rw [mWhN]
    conv => rhs; rw [mWhN]
    cases q : c ρ with
    | ok t ρ1 =>
      rw [q] at h
      cases t with
      | true =>
        dsimp only at h ⊢
        cases q2 : b ρ1 with
        | nx ρ2 =>
          rw [q2] at h
          exact key ρ2 h
        | ct ρ2 =>
          rw [q2] at h
          exact key ρ2 h
        | _ => rfl
      | false => rfl
    | _ => rfl
theorem mWhN_le {c : TM} {b : SM} {n m : Nat} {ρ : En} (h : mWhN c b n ρ ≠ .bad) (hm : n ≤ m) : mWhN c b m ρ = mWhN c b n ρ := by
  induction hm with
  | refl => rfl
  | step _ ih => rw [mWhN_succ (by rw [ih]; exact h), ih]
theorem mWhile_eq {c : TM} {b : SM} {ρ : En} {n : Nat} (h : mWhN c b n ρ ≠ .bad) : mWhile c b ρ = mWhN c b n ρ := by
  have hx : ∃ n, mWhN c b n ρ ≠ .bad := ⟨n, h⟩
  unfold mWhile
  rw [dif_pos hx]
  rcases Nat.le_total n (Classical.choose hx) with hle | hle
  · exact mWhN_le h hle
  · exact (mWhN_le (Classical.choose_spec hx) hle).symm
theorem ms_while {c : Expr} {mc : TM} {b : SM} (hp : PassesOwn (model X.prog X.w) X.A X.env X.xe) (hc : MT X W c mc) (hb : MSs X W body b) : MS X W (.While c body [] pos) (mWhile mc b) :=
  MS.weak (ps_while hp hc hb) fun {σ H D G F ρ} S k => by
    by_cases hx : ∃ n, mWhN mc b n ρ ≠ .bad
    · obtain ⟨n, hn⟩ := hx
      rw [mWhile_eq hn] at k
      refine ⟨fun m σ H => ∃ F ρ, Sat X.K X.mg G F H σ ρ ∧ SGd X.K X.mg W G F (mWhN mc b m ρ) D, ⟨n, F, ρ, S, k⟩, ?_⟩
      rintro m σ2 H2 ⟨F2, ρ2, S2, k2⟩
      cases m with
      | zero => exact k2.elim
      | succ m =>
        rw [mWhN] at k2
        refine subT S2 ?_
        cases q : mc ρ2 with
        | bad =>
          rw [q] at k2
          exact k2.elim
        | ex x ρ3 =>
          rw [q] at k2
          exact k2 σ2
        | ok t ρ3 =>
          rw [q] at k2
          intro F3 H3 t' S3 e3 et
          subst et
          cases t' with
          | false => exact k2 F3 H3 σ2 S3 e3
          | true =>
            dsimp only at k2
            refine ⟨fun σ' H' => ∃ F ρ, Sat X.K X.mg G F H' σ' ρ ∧ SGd X.K X.mg W G F (mWhN mc b m ρ) D, fun σ' H' hN => ⟨m, by omega, hN⟩, subS S3 ?_⟩
            have k3 := SGd.mono e3 k2
            cases q2 : b ρ3 with
            | nx ρ4 =>
              rw [q2] at k3
              exact fun F5 H5 σ5 S5 e5 => ⟨F5, ρ4, S5, SGd.mono e5 k3⟩
            | ct ρ4 =>
              rw [q2] at k3
              exact fun F5 H5 σ5 S5 e5 => ⟨F5, ρ4, S5, SGd.mono e5 k3⟩
            | bk ρ4 =>
              rw [q2] at k3
              exact fun F5 H5 σ5 S5 e5 => k3 F5 H5 σ5 S5 e5
            | rt r ρ4 =>
              rw [q2] at k3
              exact k3
            | ex x ρ4 =>
              rw [q2] at k3
              exact k3
            | bad =>
              rw [q2] at k3
              exact k3.elim
    · unfold mWhile at k
      rw [dif_neg hx] at k
      exact k.elim
end
end Mi
set_option Elab.async false
set_option linter.all false
set_option maxRecDepth 100000
set_option maxHeartbeats 1000000
/-! Mi, part H: list comprehensions. -/
namespace Mi
open PySem PySem.Spec PyProof.Rows L2
abbrev W0 : WX := fun _ _ _ _ => False
def wipeE (ρ : En) : List Nat → En
  | [] => ρ
  | v :: vs => (wipeE ρ vs).set v .un
def restE (ρ0 ρ : En) : List Nat → En
  | [] => ρ
  | v :: vs => (restE ρ0 ρ vs).set v (ρ0.getD v .un)
def noOw (ρ : En) (i : Nat) : Bool := match ρ[i]? with
  | some .un => true
  | some (.val _) => true
  | _ => false
theorem wipeE_len (ρ : En) : ∀ vs : List Nat, (wipeE ρ vs).length = ρ.length
  | [] => rfl
  | v :: vs => by
    unfold wipeE
    rw [List.length_set, wipeE_len ρ vs]
theorem restE_len (ρ0 ρ : En) : ∀ vs : List Nat, (restE ρ0 ρ vs).length = ρ.length
  | [] => rfl
  | v :: vs => by
    unfold restE
    rw [List.length_set, restE_len ρ0 ρ vs]
theorem wipeE_out {ρ : En} {j : Nat} : ∀ {vs : List Nat}, j ∉ vs → (wipeE ρ vs)[j]? = ρ[j]?
  | [], _ => rfl
  | v :: vs, h => by
    unfold wipeE
    rw [List.getElem?_set_ne (fun e => h (by simp [e])), wipeE_out (fun z => h (List.mem_cons_of_mem _ z))]
theorem wipeE_in {ρ : En} {j : Nat} : ∀ {vs : List Nat} {s : Sl}, j ∈ vs → (wipeE ρ vs)[j]? = some s → s = .un
  | v :: vs, s, h, e => by
    unfold wipeE at e
    by_cases hj : j = v
    · subst hj
      by_cases hl : j < (wipeE ρ vs).length
      · rw [List.getElem?_set_self hl] at e
        exact (Option.some.inj e).symm
      · rw [List.getElem?_eq_none (by rw [List.length_set]; omega)] at e
        cases e
    · rw [List.getElem?_set_ne (Ne.symm hj)] at e
      exact wipeE_in ((List.mem_cons.mp h).resolve_left hj) e
theorem wipe_out {σ : St} {j : Nat} : ∀ {vs : List Nat}, j ∉ vs → (wipe σ vs)[j]? = σ[j]?
  | [], _ => rfl
  | v :: vs, h => by
    unfold wipe
    rw [List.getElem?_set_ne (fun e => h (by simp [e])), wipe_out (fun z => h (List.mem_cons_of_mem _ z))]
theorem wipe_in {σ : St} {j : Nat} : ∀ {vs : List Nat}, j ∈ vs → (wipe σ vs)[j]? = if j < σ.length then some none else none
  | v :: vs, h => by
    unfold wipe
    by_cases hj : j = v
    · subst hj
      by_cases hl : j < σ.length
      · rw [List.getElem?_set_self (by rw [wipe_length]; exact hl), if_pos hl]
      · rw [List.getElem?_eq_none (by rw [List.length_set, wipe_length]; omega), if_neg hl]
    · rw [List.getElem?_set_ne (Ne.symm hj)]
      exact wipe_in ((List.mem_cons.mp h).resolve_left hj)
theorem restE_out {ρ0 ρ : En} {j : Nat} : ∀ {vs : List Nat}, j ∉ vs → (restE ρ0 ρ vs)[j]? = ρ[j]?
  | [], _ => rfl
  | v :: vs, h => by
    unfold restE
    rw [List.getElem?_set_ne (fun e => h (by simp [e])), restE_out (fun z => h (List.mem_cons_of_mem _ z))]
theorem restE_in {ρ0 ρ : En} {j : Nat} : ∀ {vs : List Nat} {s : Sl}, j ∈ vs → (restE ρ0 ρ vs)[j]? = some s → s = ρ0.getD j .un
  | v :: vs, s, h, e => by
    unfold restE at e
    by_cases hj : j = v
    · subst hj
      by_cases hl : j < (restE ρ0 ρ vs).length
      · rw [List.getElem?_set_self hl] at e
        exact (Option.some.inj e).symm
      · rw [List.getElem?_eq_none (by rw [List.length_set]; omega)] at e
        cases e
    · rw [List.getElem?_set_ne (Ne.symm hj)] at e
      exact restE_in ((List.mem_cons.mp h).resolve_left hj) e
theorem wipe_same {σ σ' : St} {vs : List Nat} (hl : σ'.length = σ.length) (h : ∀ j, j ∉ vs → σ'[j]? = σ[j]?) : wipe σ' vs = wipe σ vs := by
  refine List.ext_getElem? fun j => ?_
  by_cases hj : j ∈ vs
  · rw [wipe_in hj, wipe_in hj, hl]
  · rw [wipe_out hj, wipe_out hj]
    exact h j hj
theorem wipe_wipe {σ : St} {vs : List Nat} : wipe (wipe σ vs) vs = wipe σ vs := wipe_same (wipe_length σ vs) fun j hj => wipe_out hj
section
variable {K : PySem.W.Frag} {mg : Str → Option Value} {F F' F1 H H' H1 : Hp} {G : Gh} {σ σ' : St} {ρ ρ' ρ1 ρ2 : En} {vs : List Nat}
theorem Sat.wipe (S : Sat K mg G F H σ ρ) (h : vs.all (canSet ρ) = true) : Sat K mg G F H (wipe σ vs) (wipeE ρ vs) := by
  have hc : ∀ v ∈ vs, canSet ρ v = true := fun v hv => List.all_eq_true.mp h v hv
  have ow : ∀ {j : Nat}, isOw (wipeE ρ vs)[j]? = true → j ∉ vs ∧ isOw ρ[j]? = true := fun {j} hj => by
    by_cases hv : j ∈ vs
    · cases q : (wipeE ρ vs)[j]? with
      | none =>
        rw [q] at hj
        cases hj
      | some s =>
        rw [wipeE_in hv q] at q
        rw [q] at hj
        cases hj
    · rw [wipeE_out hv] at hj
      exact ⟨hv, hj⟩
  refine ⟨S.fh, S.f0, S.h0, S.fn, by rw [wipeE_len, wipe_length]; exact S.len, fun j d hj => ?_, fun j io o hj => ?_, fun i j a hij h1 h2 e1 e2 => ?_, fun k a hk => ?_⟩
  · by_cases hv : j ∈ vs
    · cases wipeE_in hv hj
    · rw [wipeE_out hv] at hj
      rw [wipe_out hv]
      exact S.val j d hj
  · by_cases hv : j ∈ vs
    · cases wipeE_in hv hj
    · rw [wipeE_out hv] at hj
      rw [wipe_out hv]
      exact S.own j io o hj
  · obtain ⟨n1, o1⟩ := ow h1
    obtain ⟨n2, o2⟩ := ow h2
    rw [wipe_out n1] at e1
    rw [wipe_out n2] at e2
    exact S.dis i j a hij o1 o2 e1 e2
  · obtain ⟨e1, o, e2⟩ := S.io k a hk
    have hv : k ∉ vs := fun z => (canSet_ok (hc k z)).2 o e2
    exact ⟨by rw [wipe_out hv]; exact e1, o, by rw [wipeE_out hv]; exact e2⟩
/-- the block is left: its names are what they were -/
theorem Sat.unwipe (S1 : Sat K mg G F1 H1 σ ρ1) (h : vs.all (noOw ρ1) = true) (e : Same F1 F) (S : Sat K mg G F H (L2.wipe σ vs) ρ2) : Sat K mg G F H σ (restE ρ1 ρ2 vs) := by
  have hn : ∀ v ∈ vs, noOw ρ1 v = true := fun v hv => List.all_eq_true.mp h v hv
  have noow : ∀ {j : Nat} {s : Sl}, j ∈ vs → (restE ρ1 ρ2 vs)[j]? = some s → (s = .un ∨ ∃ d, s = .val d ∧ ρ1[j]? = some (Sl.val d)) := fun {j s} hv hj => by
    have e1 := restE_in hv hj
    have e2 := hn j hv
    unfold noOw at e2
    cases q : ρ1[j]? with
    | none =>
      rw [q] at e2
      cases e2
    | some t =>
      have et : ρ1.getD j .un = t := by rw [List.getD_eq_getElem?_getD, q]; rfl
      rw [et] at e1
      rw [q] at e2
      cases t with
      | un => exact .inl e1
      | val d => exact .inr ⟨d, e1, rfl⟩
      | own _ _ => cases e2
  have ow : ∀ {j : Nat}, isOw (restE ρ1 ρ2 vs)[j]? = true → j ∉ vs ∧ isOw ρ2[j]? = true := fun {j} hj => by
    by_cases hv : j ∈ vs
    · cases q : (restE ρ1 ρ2 vs)[j]? with
      | none =>
        rw [q] at hj
        cases hj
      | some s =>
        rw [q] at hj
        rcases noow hv q with rfl | ⟨d, rfl, _⟩
        · cases hj
        · cases hj
    · rw [restE_out hv] at hj
      exact ⟨hv, hj⟩
  refine ⟨S.fh, S.f0, S.h0, S.fn, by rw [restE_len, S.len, wipe_length], fun j d hj => ?_, fun j io o hj => ?_, fun i j a hij h1 h2 e1 e2 => ?_, fun k a hk => ?_⟩
  · by_cases hv : j ∈ vs
    · rcases noow hv hj with q | ⟨d', q, q2⟩
      · cases q
      · cases q
        obtain ⟨v, h1, h2⟩ := S1.val j _ q2
        exact ⟨v, h1, h2.mono e⟩
    · rw [restE_out hv] at hj
      obtain ⟨v, h1, h2⟩ := S.val j d hj
      rw [wipe_out hv] at h1
      exact ⟨v, h1, h2⟩
  · by_cases hv : j ∈ vs
    · rcases noow hv hj with q | ⟨d', q, q2⟩
      · cases q
      · cases q
    · rw [restE_out hv] at hj
      obtain ⟨a, h1, h2⟩ := S.own j io o hj
      rw [wipe_out hv] at h1
      exact ⟨a, h1, h2⟩
  · obtain ⟨n1, o1⟩ := ow h1
    obtain ⟨n2, o2⟩ := ow h2
    exact S.dis i j a hij o1 o2 (by rw [wipe_out n1]; exact e1) (by rw [wipe_out n2]; exact e2)
  · obtain ⟨_, o, e2⟩ := S.io k a hk
    obtain ⟨e1, o1, e3⟩ := S1.io k a hk
    have hv : k ∉ vs := fun z => by
      have := hn k z
      unfold noOw at this
      rw [e3] at this
      cases this
    exact ⟨e1, o, by rw [restE_out hv]; exact e2⟩
/-- an object that no slot holds and that is not frozen may change -/
theorem Sat.grow (S : Sat K mg G F H σ ρ) {a : Addr} {u : HO} (fa : F a = none) (n : ∀ j : Nat, isOw ρ[j]? = true → σ[j]? = some (some (V.ref a)) → False) (g : G.O a ∨ G.H0 a = none) : Sat K mg G F (L2.upd H a u) σ ρ := by
  refine ⟨fun b o hb => ?_, S.f0, fun b o hb hn => ?_, S.fn, S.len, S.val, fun i io o h => ?_, S.dis, S.io⟩
  · rw [upd_ne (ne_of_none hb fa)]
    exact S.fh b o hb
  · have hba : b ≠ a := fun e => by
      subst e
      rcases g with g | g
      · exact hn g
      · rw [g] at hb
        cases hb
    rw [upd_ne hba]
    exact S.h0 b o hb hn
  · obtain ⟨b, k1, k2, k3, k4⟩ := S.own i io o h
    have hb : b ≠ a := fun eb => by
      subst eb
      exact n i (by rw [h]; rfl) k1
    exact ⟨b, k1, k2, k3.mono (Same.refl _) (upd_ne hb), k4⟩
/-- a block's own entry -/
def Gh.blk (G : Gh) (F H : Hp) (σ : St) (ρ : En) : Gh := ⟨F, H, fun a => ∃ j : Nat, isOw ρ[j]? = true ∧ σ[j]? = some (some (V.ref a)), G.io⟩
theorem Sat.block (S : Sat K mg G F H σ ρ) : Sat K mg (G.blk F H σ ρ) F H σ ρ :=
  ⟨S.fh, Same.refl _, fun _ _ h _ => h, fun _ _ h => .inl h, S.len, S.val, fun i io o h => by
    obtain ⟨a, h1, h2, h3, _⟩ := S.own i io o h
    exact ⟨a, h1, h2, h3, .inl ⟨i, by rw [h]; rfl, h1⟩⟩, S.dis, S.io⟩
theorem Sat.unblock (S : Sat K mg G F H σ ρ) (S' : Sat K mg (G.blk F H σ ρ) F' H' σ' ρ') : Sat K mg G F' H' σ' ρ' := by
  have hO : ∀ a, (G.blk F H σ ρ).O a → G.O a ∨ G.H0 a = none := fun a ⟨j, h1, h2⟩ => by
    obtain ⟨b, io, w, q, h3, _⟩ := S.owAt h1
    obtain ⟨c, c1, _, _, c4⟩ := S.own j io w q
    rw [h2] at c1
    cases c1
    exact c4
  refine ⟨S'.fh, S.f0.trans S'.f0, fun b o h n => ?_, fun b o h => ?_, S'.len, S'.val, fun i io o h => ?_, S'.dis, S'.io⟩
  · refine S'.h0 b o (S.h0 b o h n) fun z => ?_
    rcases hO b z with q | q
    · exact n q
    · rw [q] at h
      cases h
  · rcases S'.fn b o h with q | q | q
    · exact S.fn b o q
    · exact .inr (S.fresh0 q)
    · exact .inr ((hO b q).symm)
  · obtain ⟨a, h1, h2, h3, h4⟩ := S'.own i io o h
    refine ⟨a, h1, h2, h3, ?_⟩
    rcases h4 with h4 | h4
    · exact hO a h4
    · exact (S.fresh0 h4).symm
end
def compL (vs : List Nat) (gm : GM) (tt : TM) (te : EM) : List IV → List D → En → R (List D)
  | [], acc, ρ => .ok acc ρ
  | iv :: r, acc, ρ => match gm iv ρ with
    | some ρ => (match tt ρ with
      | .ok true ρ => (match te ρ with
        | .ok v ρ => (match esc v.fz ρ with
          | some (d, ρ) => if acc.length < BIG then (if vs.all (canSet ρ) then compL vs gm tt te r (acc ++ [d]) (wipeE ρ vs) else .bad) else .bad
          | none => .bad)
        | _ => .bad)
      | .ok false ρ => if vs.all (canSet ρ) then compL vs gm tt te r acc (wipeE ρ vs) else .bad
      | _ => .bad)
    | none => .bad
def mComp (vs : List Nat) (im : IM) (gm : GM) (tt : TM) (te : EM) : EM := fun ρ => (im ρ).bind fun ivs ρ1 => if vs.all (noOw ρ1) then (match compL vs gm tt te ivs [] (wipeE ρ1 vs) with
  | .ok acc ρ2 => .ok (.n (.lst acc)) (restE ρ1 ρ2 vs)
  | _ => .bad) else .bad
def mYes : TM := fun ρ => .ok true ρ
abbrev MTs (X : Cx) (W : WX) (ifs : List Expr) (m : TM) : Prop := PTs X ifs (tT X.K X.mg W m)
theorem mts_nil {X : Cx} {W : WX} : MTs X W [] mYes := ⟨fun pins s σ H Q I ⟨G, F, ρ, S, g⟩ => pts_nil.run pins s σ H Q I (g F H true S (Same.refl _) rfl)⟩
theorem mts_one {X : Cx} {W : WX} {c : Expr} {m : TM} (h : MT X W c m) : MTs X W [c] m := pts_one h
section
variable {X : Cx} {W : WX} {tg iter elt : Expr} {ifs : List Expr} {scope : Scope} {pos : Pos} {vs is : List Nat} {g : TG} {gm : GM} {im : IM} {tt : TM} {te : EM}
theorem noOw_can {ρ : En} (h : vs.all (noOw ρ) = true) : vs.all (canSet ρ) = true := by
  refine List.all_eq_true.mpr fun v hv => ?_
  have := List.all_eq_true.mp h v hv
  unfold noOw at this
  unfold canSet
  cases q : ρ[v]? with
  | none =>
    rw [q] at this
    cases this
  | some s =>
    rw [q] at this
    cases s with
    | un => rfl
    | val d => rfl
    | own _ _ => cases this
/-- the reading of a comprehension, by its mirror -/
theorem comp_ok {K : PySem.W.Frag} {mg : Str → Option Value} {F H : Hp} {G : Gh} {σ : St} {ρ : En} {Q : VK} (hgm : TgOk K mg is g gm) (his : ∀ i ∈ is, i ∈ vs) (S : Sat K mg G F H σ ρ) (k : Gd K mg W (RpO K mg) G F σ (mComp vs im gm tt te ρ) Q) :
    tLc (tI K mg W im) g (tT K mg W0 tt) (tE K mg W0 te) vs σ H Q := by
  refine ⟨G, F, ρ, S, Gd.bind k fun ivs ρ1 F1 H1 J _ S1 e1 jok k1 => ?_⟩
  intro L hL
  by_cases hn : vs.all (noOw ρ1) = true
  · rw [if_pos hn] at k1
    have SL : Sat K mg G F1 (L2.upd H1 L (.lst [])) σ ρ1 := (S1.newOwn hL (OwOk.lst upd_same .nil)).1
    have fL : F1 L = none := S1.fh.free hL
    have nL : ∀ j : Nat, isOw ρ1[j]? = true → σ[j]? = some (some (V.ref L)) → False := fun j hj hs => by
      obtain ⟨a, _, _, _, ha, _, ok⟩ := S1.owAt hj
      rw [hs] at ha
      cases ha
      obtain ⟨z, hz⟩ := ok.at
      rw [hL] at hz
      cases hz
    refine ⟨fun i m H => i + m = ivs.length ∧ ∃ F ρ acc xs, Sat K mg G F H (wipe σ vs) ρ ∧ Same F1 F ∧ H L = some (.lst xs) ∧ RpA K mg F xs acc ∧ F L = none ∧ (∀ j : Nat, isOw ρ[j]? = true → (wipe σ vs)[j]? = some (some (V.ref L)) → False) ∧
      Gd K mg W (RpO K mg) G F σ (match compL vs gm tt te (ivs.drop i) acc ρ with
        | .ok acc ρ2 => .ok (.n (.lst acc)) (restE ρ1 ρ2 vs)
        | _ => .bad) Q,
      ⟨ivs.length, by omega, F1, wipeE ρ1 vs, [], [], SL.wipe (noOw_can hn), Same.refl _, upd_same, .nil, fL, fun j hj hs => ?_, k1⟩, ?_⟩
    · by_cases hv : j ∈ vs
      · rw [wipe_in hv] at hs
        split at hs <;> cases hs
      · rw [wipe_out hv] at hs
        rw [wipeE_out hv] at hj
        exact nL j hj hs
    · rintro i m H2 ⟨him, F2, ρ2, acc, xs, S2, e2, hL2, rA, fL2, nL2, k2⟩
      by_cases hi : i < ivs.length
      · have hiv : ivs[i]? = some ivs[i] := List.getElem?_eq_getElem hi
        rw [List.drop_eq_getElem_cons hi] at k2
        unfold compL at k2
        refine .inr ⟨jok.go F2 H2 i _ e2 S2.fh hiv, fun H => ∃ F ρ acc xs, Sat K mg G F H (wipe σ vs) ρ ∧ Same F1 F ∧ H L = some (.lst xs) ∧ RpA K mg F xs acc ∧ F L = none ∧ (∀ j : Nat, isOw ρ[j]? = true → (wipe σ vs)[j]? = some (some (V.ref L)) → False) ∧
          Gd K mg W (RpO K mg) G F σ (match compL vs gm tt te (ivs.drop (i + 1)) acc ρ with
            | .ok acc ρ2 => .ok (.n (.lst acc)) (restE ρ1 ρ2 vs)
            | _ => .bad) Q, fun H' hN => ⟨m - 1, by omega, by omega, hN⟩, fun x H' hy => ?_⟩
        obtain ⟨F3, ex, rv⟩ := jok.yld F2 H2 i _ x H' e2 S2.fh hiv hy
        have S3 := S2.ext ex
        have hL3 : H' L = some (.lst xs) := ex.hh _ _ hL2
        have fL3 : F3 L = none := by
          cases q : F3 L with
          | none => rfl
          | some z =>
            rcases ex.nw L z q with q | q
            · rw [fL2] at q; cases q
            · rw [hL2] at q; cases q
        cases q : gm ivs[i] ρ2 with
        | none =>
          rw [q] at k2
          exact k2.elim
        | some ρ3 =>
          rw [q] at k2
          dsimp only at k2
          -- the target is set within a block of its own
          refine hgm S3.block rv q fun σ3 S4 same3 len3 => ?_
          have hw : wipe σ3 vs = wipe σ vs := by
            rw [← wipe_wipe (σ := σ)]
            exact wipe_same len3 fun j hj => same3 j fun z => hj (his j z)
          have nO : ¬ (G.blk F3 H' (wipe σ vs) ρ2).O L := fun ⟨j, h1, h2⟩ => nL2 j h1 h2
          -- behind the turn: the new list stands, the block's names go
          have back : ∀ {F5 H5 : Hp} {ρ5 : En}, Sat K mg (G.blk F3 H' (wipe σ vs) ρ2) F5 H5 σ3 ρ5 → vs.all (canSet ρ5) = true → H5 L = some (.lst xs) ∧ F5 L = none ∧ Sat K mg G F5 H5 (wipe σ vs) (wipeE ρ5 vs) ∧ (∀ j : Nat, isOw (wipeE ρ5 vs)[j]? = true → (wipe σ vs)[j]? = some (some (V.ref L)) → False) := fun {F5 H5 ρ5} S5 hc => by
            refine ⟨S5.h0 L _ hL3 nO, ?_, ?_, fun j hj hs => ?_⟩
            · cases q5 : F5 L with
              | none => rfl
              | some z =>
                rcases S5.fn L z q5 with q6 | q6 | q6
                · have q6' : F3 L = some z := q6
                  rw [fL3] at q6'
                  cases q6'
                · have q6' : H' L = none := q6
                  rw [hL3] at q6'
                  cases q6'
                · exact absurd q6 nO
            · have S6 := (S3.unblock S5).wipe hc
              rw [hw] at S6
              exact S6
            · by_cases hv : j ∈ vs
              · rw [wipe_in hv] at hs
                split at hs <;> cases hs
              · rw [wipeE_out hv] at hj
                obtain ⟨a, io, w, q7, h1, h2, h3⟩ := S5.owAt hj
                have e7 : σ3[j]? = some (some (V.ref L)) := (same3 j fun z => hv (his j z)).trans hs
                rw [h1] at e7
                cases e7
                obtain ⟨c, c1, _, _, c4⟩ := S5.own j io w q7
                rw [h1] at c1
                cases c1
                rcases c4 with c4 | c4
                · exact nO c4
                · have c5 : H' L = none := c4
                  rw [hL3] at c5
                  cases c5
          refine ⟨hw, subT S4 ?_⟩
          cases qt : tt ρ3 with
          | bad =>
            rw [qt] at k2
            exact k2.elim
          | ex x ρ4 =>
            rw [qt] at k2
            exact k2.elim
          | ok t ρ4 =>
            rw [qt] at k2
            intro F4 H4 b S5 e5 eb
            subst eb
            cases b with
            | false =>
              dsimp only at k2
              rw [if_neg Bool.false_ne_true]
              by_cases hc : vs.all (canSet ρ4) = true
              · rw [if_pos hc] at k2
                obtain ⟨b1, b2, b3, b4⟩ := back S5 hc
                exact ⟨F4, wipeE ρ4 vs, acc, xs, b3, (e2.trans ex.ff).trans e5, b1, rA.mono (ex.ff.trans e5), b2, b4, Gd.mono (ex.ff.trans e5) k2⟩
              · rw [if_neg hc] at k2
                exact k2.elim
            | true =>
              dsimp only at k2
              rw [if_pos rfl]
              refine sub S5 ?_
              cases qe : te ρ4 with
              | bad =>
                rw [qe] at k2
                exact k2.elim
              | ex x ρ5 =>
                rw [qe] at k2
                exact k2.elim
              | ok v ρ5 =>
                rw [qe] at k2
                dsimp only at k2
                intro F5 H5 y S6 e6 r6
                obtain ⟨F6, e7, S7, r7⟩ := S6.fz r6
                cases q8 : esc v.fz ρ5 with
                | none =>
                  rw [q8] at k2
                  exact k2.elim
                | some p =>
                  obtain ⟨d, ρ6⟩ := p
                  rw [q8] at k2
                  dsimp only at k2
                  obtain ⟨F7, e8, S8, r8⟩ := S7.esc r7 q8
                  by_cases hz : acc.length < BIG
                  · rw [if_pos hz] at k2
                    by_cases hc : vs.all (canSet ρ6) = true
                    · rw [if_pos hc] at k2
                      obtain ⟨b1, b2, b3, b4⟩ := back S8 hc
                      have sm : Same F2 F7 := (((ex.ff.trans e5).trans e6).trans e7).trans e8
                      refine ⟨xs, b1, by rw [rA.len]; exact Nat.lt_of_lt_of_le hz BIG_le, F7, wipeE ρ6 vs, acc ++ [d], xs ++ [y], ?_, e2.trans sm, upd_same, (rA.mono sm).app (.one r8), b2, b4, Gd.mono sm k2⟩
                      -- the new list has grown: it is no slot's, it is not frozen
                      exact b3.grow b2 b4 (by
                        rcases S1.fresh0 hL with z | z
                        · exact .inr z
                        · exact .inl z)
                    · rw [if_neg hc] at k2
                      exact k2.elim
                  · rw [if_neg hz] at k2
                    exact k2.elim
      · have hd : ivs.drop i = [] := List.drop_eq_nil_of_le (by omega)
        rw [hd] at k2
        unfold compL at k2
        refine .inl ⟨jok.stop F2 H2 i e2 S2.fh (by omega), ?_⟩
        have S5 := Sat.unwipe SL hn e2 S2
        refine k2 F2 H2 _ S5 (Same.refl _) (.n fL2 (.lst hL2 rA) ?_ fun j hj hs => ?_)
        · exact (S1.fresh0 hL).symm
        · by_cases hv : j ∈ vs
          · cases q : (restE ρ1 ρ2 vs)[j]? with
            | none =>
              rw [q] at hj
              cases hj
            | some t =>
              have e9 := restE_in hv q
              have e10 := List.all_eq_true.mp hn j hv
              unfold noOw at e10
              rw [q, e9, List.getD_eq_getElem?_getD] at hj
              cases q2 : ρ1[j]? with
              | none =>
                rw [q2] at hj
                cases hj
              | some t2 =>
                rw [q2] at hj e10
                cases t2 with
                | own _ _ => cases e10
                | _ => cases hj
          · rw [restE_out hv] at hj
            exact nL2 j hj (by rw [wipe_out hv]; exact hs)
  · rw [if_neg hn] at k1
    exact k1.elim
theorem me_comp {own : List (Str × Nat)} (hc : X.calm = true) (hN : X.N.Nodup) (hi : MI X W tg iter im) (ok : BlkOk X.N X.env.scope scope own)
    (hg : ∀ (s : Shared) (H : Hp) (C : Addr) (cl : List (Str × Addr)) (fp : List Addr), PG (X.blk s H scope (compEnvC scope cl C X.env) fp) tg g)
    (ht : ∀ (s : Shared) (H : Hp) (C : Addr) (cl : List (Str × Addr)) (fp : List Addr), MTs (X.blk s H scope (compEnvC scope cl C X.env) fp) W0 ifs tt)
    (he : ∀ (s : Shared) (H : Hp) (C : Addr) (cl : List (Str × Addr)) (fp : List Addr), ME (X.blk s H scope (compEnvC scope cl C X.env) fp) W0 elt te) (hgm : TgOk X.K X.mg is g gm) (his : ∀ i ∈ is, i ∈ own.map (·.2)) (hs : ∀ x, foldedSetIterable iter X.env x = pure x := by intro _; rfl) :
    ME X W (.ListComp elt [⟨tg, iter, ifs, 0⟩] scope pos) (mComp (own.map (·.2)) im gm tt te) :=
  ME.weak (pe_lc hc hN hi ok hg ht he hs) fun S k => comp_ok hgm his S k
theorem ms_setComp {own : List (Str × Nat)} {i : Nat} {y : Str} {py spos : Pos} (hc : X.calm = true) (hN : X.N.Nodup) (hy : X.N[i]? = some y) (hyl : X.env.scope.names.lookup y = some .local)
    (hsw : swapsWith (.ListComp elt [⟨tg, iter, ifs, 0⟩] scope pos) (some (.Name y py)) spos.line X.env = pure true) (hi : MI X W tg iter im) (ok : BlkOk X.N X.env.scope scope own)
    (hg : ∀ (s : Shared) (H : Hp) (C : Addr) (cl : List (Str × Addr)) (fp : List Addr), PG (X.blk s H scope (compEnvC scope cl C X.env) fp) tg g)
    (ht : ∀ (s : Shared) (H : Hp) (C : Addr) (cl : List (Str × Addr)) (fp : List Addr), MTs (X.blk s H scope (compEnvC scope cl C X.env) fp) W0 ifs tt)
    (he : ∀ (s : Shared) (H : Hp) (C : Addr) (cl : List (Str × Addr)) (fp : List Addr), ME (X.blk s H scope (compEnvC scope cl C X.env) fp) W0 elt te) (hgm : TgOk X.K X.mg is g gm) (his : ∀ i ∈ is, i ∈ own.map (·.2)) (hs : ∀ x, foldedSetIterable iter X.env x = pure x := by intro _; rfl) :
    MS X W (.Assign [.Name y py] (.ListComp elt [⟨tg, iter, ifs, 0⟩] scope pos) spos) (mSet i (mComp (own.map (·.2)) im gm tt te)) :=
  MS.weak (ps_setLc hc hN hy hyl hsw hi ok hg ht he hs) fun {σ H D G F ρ} S k => comp_ok (W := W) (Q := fun x H1 => D.nx (σ.set i (some x)) H1) hgm his S (Gd.st k fun v ρ1 F1 H1 x S1 e1 r1 k1 => set_fin S1 r1 k1)
end
end Mi
set_option Elab.async false
set_option linter.all false
set_option maxRecDepth 100000
set_option maxHeartbeats 1000000
/-! Mi, part I: defs and their calls. -/
namespace Mi
open PySem PySem.Spec PyProof.Rows L2
inductive DR where
  | ok (r : RV) (os : List Ow) | ex (x : Xc) (os : List Ow) | bad
def ioOf : List Nat → En → Option (List Ow)
  | [], _ => some []
  | k :: ks, ρ => match ρ[k]? with
    | some (.own _ o) => (match ioOf ks ρ with
      | some os => some (o :: os)
      | none => none)
    | _ => none
def okD (ios : List Nat) (r : RV) (ρ : En) : DR := match ioOf ios ρ with
  | some os => .ok r os
  | none => .bad
/-- a def's mirror, from its body's: n slots, lent objects in the slots ios -/
def mDef (n : Nat) (ios : List Nat) (b : SM) : List Sl → DR := fun as => match b (as ++ List.replicate (n - as.length) .un) with
  | .rt r ρ => okD ios r ρ
  | .nx ρ => okD ios (.v .non) ρ
  | .ex x ρ => (match ioOf ios ρ with
    | some os => .ex x os
    | none => .bad)
  | _ => .bad
section
variable (K : PySem.W.Frag) (mg : Str → Option Value)
structure ArgOk (F H : Hp) (ios : List Nat) (vs : List V) (as : List Sl) : Prop where
  len : as.length = vs.length
  val : ∀ (i : Nat) (d : D), as[i]? = some (Sl.val d) → ∃ v, vs[i]? = some v ∧ Rp K mg F v d
  own : ∀ (i : Nat) (io : Bool) (o : Ow), as[i]? = some (Sl.own io o) → i ∈ ios ∧ ∃ a, vs[i]? = some (V.ref a) ∧ F a = none ∧ OwOk K mg F H a o
  io : ∀ k ∈ ios, ∃ o, as[k]? = some (Sl.own true o)
  dis : ∀ (i j : Nat) (a : Addr), i ≠ j → i ∈ ios → j ∈ ios → vs[i]? = some (V.ref a) → vs[j]? = some (V.ref a) → False
/-- behind a call -/
structure Aft (F H F' H' : Hp) (vs : List V) (ios : List Nat) (os : List Ow) : Prop where
  ff : Same F F'
  fh : Same F' H'
  hh : ∀ b o, H b = some o → (∀ k ∈ ios, vs[k]? ≠ some (V.ref b)) → H' b = some o
  nw : ∀ b o, F' b = some o → F b = some o ∨ H b = none
  len : os.length = ios.length
  io : ∀ (n k : Nat) (a : Addr) (o : Ow), ios[n]? = some k → os[n]? = some o → vs[k]? = some (V.ref a) → F' a = none ∧ OwOk K mg F' H' a o
inductive RpR' (F H F' H' : Hp) : V → RV → Prop
  | v {x : V} {d : D} : Rp K mg F' x d → RpR' F H F' H' x (.v d)
  | w {a : Addr} {o : Ow} : F' a = none → OwOk K mg F' H' a o → H a = none → RpR' F H F' H' (.ref a) (.w o)
def DGd (F H : Hp) (vs : List V) (ios : List Nat) (r : DR) (Q : VK) (E : XK) : Prop := match r with
  | .ok r os => ∀ F' H' x, Aft K mg F H F' H' vs ios os → RpR' K mg F H F' H' x r → Q x H'
  | .ex x os => ∀ F' H' C d fs, mg x.c = some (.ref C) → Aft K mg F H F' H' vs ios os → F' d = some (.xd fs) → RpF K mg F' fs x.fs → E (.ref C) (some d) H'
  | .bad => False
/-- the promise of a def by its mirror; n parameters -/
def spM (n : Nat) (ios : List Nat) (f : List Sl → DR) : Sp := fun vs H Q E => vs.length = n ∧ ∃ F as, Same F H ∧ ArgOk K mg F H ios vs as ∧ DGd K mg F H vs ios (f as) Q E
end
section
variable {K : PySem.W.Frag} {mg : Str → Option Value} {F F' H H' : Hp} {G : Gh} {σ : St} {ρ : En} {ios : List Nat} {vs : List V} {as : List Sl}
theorem start_get {N : List Str} {i : Nat} {v : V} (h : vs[i]? = some v) : (L2.start N vs)[i]? = some (some v) := by
  have hi := (List.getElem?_eq_some_iff.mp h).1
  unfold L2.start
  rw [List.getElem?_append_left (by rw [List.length_map]; exact hi), List.getElem?_map, h]
  rfl
theorem slots_get {n i : Nat} {s : Sl} (h : (as ++ List.replicate n Sl.un)[i]? = some s) : s = .un ∨ as[i]? = some s := by
  by_cases hi : i < as.length
  · rw [List.getElem?_append_left hi] at h
    exact .inr h
  · rw [List.getElem?_append_right (by omega), List.getElem?_replicate] at h
    split at h
    · exact .inl (Option.some.inj h).symm
    · cases h
/-- the entry of a def -/
def Gh.entry (F H : Hp) (ios : List Nat) (vs : List V) : Gh := ⟨F, H, fun a => ∃ k ∈ ios, vs[k]? = some (V.ref a), ios.filterMap fun k => match vs[k]? with
  | some (V.ref a) => some (k, a)
  | _ => none⟩
theorem entry_io {k : Nat} {a : Addr} : (k, a) ∈ (Gh.entry F H ios vs).io ↔ k ∈ ios ∧ vs[k]? = some (V.ref a) := by
  show (k, a) ∈ (ios.filterMap fun k => match vs[k]? with
    | some (V.ref a) => some (k, a)
    | _ => none) ↔ _
  rw [List.mem_filterMap]
  constructor
  · rintro ⟨j, hj, e⟩
    split at e
    · rename_i b q
      cases e
      exact ⟨hj, q⟩
    · cases e
  · rintro ⟨h1, h2⟩
    exact ⟨k, h1, by rw [h2]⟩
theorem Sat.start {N : List Str} (hl : vs.length ≤ N.length) (fh : Same F H) (A : ArgOk K mg F H ios vs as) : Sat K mg (Gh.entry F H ios vs) F H (L2.start N vs) (as ++ List.replicate (N.length - as.length) .un) := by
  have al := A.len
  have oo : ∀ {i : Nat}, isOw (as ++ List.replicate (N.length - as.length) Sl.un)[i]? = true → i ∈ ios ∧ ∃ a, vs[i]? = some (V.ref a) := fun {i} h => by
    cases q : (as ++ List.replicate (N.length - as.length) Sl.un)[i]? with
    | none =>
      rw [q] at h
      cases h
    | some s =>
      rcases slots_get q with rfl | q2
      · rw [q] at h
        cases h
      · rw [q] at h
        cases s with
        | own io o =>
          obtain ⟨h1, a, h2, _⟩ := A.own i io o q2
          exact ⟨h1, a, h2⟩
        | _ => cases h
  refine ⟨fh, Same.refl _, fun _ _ h _ => h, fun _ _ h => .inl h, ?_, fun i d h => ?_, fun i io o h => ?_, fun i j a hij h1 h2 e1 e2 => ?_, fun k a h => ?_⟩
  · unfold L2.start
    rw [List.length_append, List.length_append, List.length_replicate, List.length_replicate, List.length_map]
    omega
  · rcases slots_get h with q | q
    · cases q
    · obtain ⟨v, h1, h2⟩ := A.val i d q
      exact ⟨v, start_get h1, h2⟩
  · rcases slots_get h with q | q
    · cases q
    · obtain ⟨h1, a, h2, h3, h4⟩ := A.own i io o q
      exact ⟨a, start_get h2, h3, h4, .inl ⟨i, h1, h2⟩⟩
  · obtain ⟨k1, b1, c1⟩ := oo h1
    obtain ⟨k2, b2, c2⟩ := oo h2
    rw [start_get c1] at e1
    rw [start_get c2] at e2
    cases e1
    cases e2
    exact A.dis i j a hij k1 k2 c1 c2
  · obtain ⟨h1, h2⟩ := entry_io.mp h
    obtain ⟨o, q⟩ := A.io k h1
    refine ⟨start_get h2, o, ?_⟩
    rw [List.getElem?_append_left (List.getElem?_eq_some_iff.mp q).1]
    exact q
theorem ioOf_get : ∀ {ios : List Nat} {ρ : En} {os : List Ow}, ioOf ios ρ = some os → os.length = ios.length ∧ ∀ (n k : Nat) (o : Ow), ios[n]? = some k → os[n]? = some o → ∃ io, ρ[k]? = some (Sl.own io o)
  | [], _, _, h => by
    cases h
    exact ⟨rfl, fun n k o e => by simp at e⟩
  | j :: ks, ρ, os, h => by
    unfold ioOf at h
    cases q : ρ[j]? with
    | none =>
      rw [q] at h
      cases h
    | some s =>
      rw [q] at h
      cases s with
      | own io w =>
        dsimp only at h
        cases q2 : ioOf ks ρ with
        | none =>
          rw [q2] at h
          cases h
        | some os2 =>
          rw [q2] at h
          cases h
          obtain ⟨l, k⟩ := ioOf_get q2
          refine ⟨congrArg Nat.succ l, fun n k' o e1 e2 => ?_⟩
          cases n with
          | zero =>
            cases e1
            cases e2
            exact ⟨io, q⟩
          | succ n => exact k n k' o e1 e2
      | _ => cases h
/-- behind the body: what callers are told -/
theorem Sat.aft {os : List Ow} (A : ArgOk K mg F H ios vs as) (S : Sat K mg (Gh.entry F H ios vs) F' H' σ ρ) (h : ioOf ios ρ = some os) : Aft K mg F H F' H' vs ios os := by
  obtain ⟨l, k⟩ := ioOf_get h
  refine ⟨S.f0, S.fh, fun b o hb hn => S.h0 b o hb fun ⟨j, hj, e⟩ => hn j hj e, fun b o hb => ?_, l, fun n j a o e1 e2 e3 => ?_⟩
  · rcases S.fn b o hb with q | q | ⟨j, hj, e⟩
    · exact .inl q
    · exact .inr q
    · obtain ⟨e1, w, e2⟩ := S.io j b (entry_io.mpr ⟨hj, e⟩)
      obtain ⟨c, c1, c2, _⟩ := S.own j true w e2
      rw [e1] at c1
      cases c1
      rw [c2] at hb
      cases hb
  · obtain ⟨io, q⟩ := k n j o e1 e2
    obtain ⟨f1, w, f2⟩ := S.io j a (entry_io.mpr ⟨List.mem_of_getElem? e1, e3⟩)
    rw [q] at f2
    cases f2
    obtain ⟨c, c1, c2, c3, _⟩ := S.own j true o q
    rw [f1] at c1
    cases c1
    exact ⟨c2, c3⟩
end
section
variable {P : Program} {w : World} {K : PySem.W.Frag} {mg : Str → Option Value} {base : Heap} {x qual : Str} {params : Arguments} {body : List Stmt} {scope : Scope} {dvs : List V} {kws : List (Str × V)} {f : Addr} {fd : FuncData}
/-- THE RULE of a def: its body has a mirror, so it keeps the mirror's promise -/
theorem def_ok {N ps : List Str} {k : Nat} {ios : List Nat} {m : SM} (FD : FunD K x qual params body scope dvs kws f fd) (S : FnScope N ps scope) (hps : ps.length ≤ N.length)
    (hb : ∀ (cdv : Value) (A : Around) (outer : List Env) (s : Shared) (H : Hp) (E : XK), Room k (A.deeper (envOfC qual scope s.heap.objs.size f cdv)) →
      MSs (cxOf (L2.CX P w) P w K mg base N qual scope f cdv A outer s H E) (fun cls d _ H' => E cls d H') body m) : FnOk P w K mg base (L2.CX P w) (k + 1) f fd ps (spM K mg ps.length ios (mDef N.length ios m)) := by
  refine FD.ok S (fun vs H Q E h => h.1) (fun cdv A outer s H vs Q E hr h => ⟨_, hb cdv A outer s H E hr, ?_⟩)
  obtain ⟨hn, F, as, fh, AO, g⟩ := h
  have S0 := Sat.start (N := N) (by rw [hn]; exact hps) fh AO
  refine ⟨Gh.entry F H ios vs, F, as ++ List.replicate (N.length - as.length) Sl.un, S0, ?_⟩
  unfold mDef at g
  have done : ∀ {r : RV} {ρ : En}, DGd K mg F H vs ios (okD ios r ρ) Q E → ∀ {F' H' : Hp} {σ : St} {y : V}, Sat K mg (Gh.entry F H ios vs) F' H' σ ρ → (∀ os, Aft K mg F H F' H' vs ios os → RpR' K mg F H F' H' y r) → Q y H' := fun {r ρ} g {F' H' σ y} S' hr => by
    unfold okD at g
    cases q : ioOf ios ρ with
    | none =>
      rw [q] at g
      exact g.elim
    | some os =>
      rw [q] at g
      have a := S'.aft AO q
      exact g F' H' y a (hr os a)
  cases q : m (as ++ List.replicate (N.length - as.length) .un) with
  | nx ρ =>
    rw [q] at g
    exact fun F' H' σ S' _ => done g S' fun _ _ => .v .non
  | rt r ρ =>
    rw [q] at g
    intro F' H' σ y S' e rr hown
    refine done g S' fun os a => ?_
    cases rr with
    | v r => exact .v r
    | w h1 h2 h3 =>
      rename_i b o
      refine .w h1 h2 ?_
      rcases h3 with ⟨j, hj, e3⟩ | h3
      · exfalso
        obtain ⟨f1, w2, f2⟩ := S'.io j b (entry_io.mpr ⟨hj, e3⟩)
        exact hown b rfl ⟨_, rfl⟩ j (by rw [f2]; rfl) f1
      · exact h3
  | ex y ρ =>
    rw [q] at g
    dsimp only at g
    intro σ F' H' C d fs hC S' e hd rf
    cases q2 : ioOf ios ρ with
    | none =>
      rw [q2] at g
      exact g.elim
    | some os =>
      rw [q2] at g
      exact g F' H' C d fs hC (S'.aft AO q2) hd rf
  | bk ρ =>
    rw [q] at g
    exact g.elim
  | ct ρ =>
    rw [q] at g
    exact g.elim
  | bad =>
    rw [q] at g
    exact g.elim
end

/-! ### calls -/
/-- an argument that is handed over as data; a lent object -/
def mArg (m : EM) (ms : AM) : AM := fun ρ => (m ρ).bind fun v ρ => match esc v.fz ρ with
  | some (d, ρ) => (ms ρ).bind fun vs ρ => .ok (.d d :: vs) ρ
  | none => .bad
def mLend (i : Nat) (ms : AM) : AM := fun ρ => if isOw ρ[i]? then (ms ρ).bind fun vs ρ => .ok (.o i :: vs) ρ else .bad
def toArgs : List OB → En → Option (List Sl)
  | [], _ => some []
  | .d d :: vs, ρ => (match toArgs vs ρ with
    | some as => some (.val d :: as)
    | none => none)
  | .o i :: vs, ρ => match ρ[i]? with
    | some (.own _ o) => (match toArgs vs ρ with
      | some as => some (.own true o :: as)
      | none => none)
    | _ => none
/-- the places of the lent ones, their slots -/
def ioPos : List OB → Nat → List Nat
  | [], _ => []
  | .d _ :: vs, k => ioPos vs (k + 1)
  | .o _ :: vs, k => k :: ioPos vs (k + 1)
def ioSl : List OB → List Nat
  | [] => []
  | .d _ :: vs => ioSl vs
  | .o i :: vs => i :: ioSl vs
def putO : List Nat → List Ow → En → En
  | i :: is, o :: os, ρ => match ρ[i]? with
    | some (.own t _) => putO is os (ρ.set i (.own t o))
    | _ => putO is os ρ
  | _, _, ρ => ρ
def rvOV : RV → OV
  | .v d => .d d
  | .w o => .n o
def mCall (ios : List Nat) (f : List Sl → DR) (dv : List D) (ms : AM) : EM := fun ρ => (ms ρ).bind fun vs ρ => match toArgs vs ρ with
  | some as => if ioPos vs 0 = ios ∧ (ioSl vs).Nodup then (match f (as ++ dv.map .val) with
    | .ok r os => .ok (rvOV r) (putO (ioSl vs) os ρ)
    | .ex x os => .ex x (putO (ioSl vs) os ρ)
    | .bad => .bad) else .bad
  | none => .bad
section
variable {K : PySem.W.Frag} {mg : Str → Option Value} {W : WX} {F F' H H' : Hp} {G : Gh} {σ : St} {ρ : En}
theorem ma_arg {X : Cx} {e : Expr} {es : List Expr} {m : EM} {ms : AM} (ha : ME X W e m) (hr : MA X W es ms) (hs : starEach (e :: es) X.env = (false, eval e X.env) :: starEach es X.env := by rfl) : MA X W (e :: es) (mArg m ms) :=
  MA.weak (pa_cons ha hr hs) fun S k => sub S (Gd.opd (f := fun v ρ => match esc v ρ with
    | some (d, ρ) => (ms ρ).bind fun vs ρ => .ok (.d d :: vs) ρ
    | none => .bad) k fun v ρ1 F1 H1 x S1 e1 r1 k1 => by
      cases q : esc v ρ1 with
      | none =>
        rw [q] at k1
        exact k1.elim
      | some p =>
        obtain ⟨d, ρ2⟩ := p
        rw [q] at k1
        dsimp only at k1
        obtain ⟨F2, e2, S2, r2⟩ := S1.esc r1 q
        exact subA S2 (Gd.bind (Gd.mono e2 k1) fun vs ρ3 F3 H3 xs _ S3 e3 r3 k3 => k3 F3 H3 (x :: xs) S3 (Same.refl _) (.cons (.d (r2.mono e3)) r3)))
theorem ma_lend {X : Cx} {x : Str} {pos : Pos} {es : List Expr} {ms : AM} (i : Nat) (ha : PE X (.Name x pos) (tVar i)) (hr : MA X W es ms) (hs : starEach (.Name x pos :: es) X.env = (false, eval (.Name x pos) X.env) :: starEach es X.env := by rfl) : MA X W (.Name x pos :: es) (mLend i ms) :=
  MA.weak (pa_cons ha hr hs) fun {σ H Q G F ρ} S k => by
    unfold mLend at k
    by_cases h : isOw ρ[i]? = true
    · rw [if_pos h] at k
      obtain ⟨a, io, w, _, ha, _⟩ := S.owAt h
      exact ⟨_, ha, subA S (Gd.bind k fun vs ρ3 F3 H3 xs _ S3 e3 r3 k3 => k3 F3 H3 (_ :: xs) S3 (Same.refl _) (.cons (.o ha) r3))⟩
    · rw [if_neg h] at k
      exact k.elim
theorem toArgs_get : ∀ {vs : List OB} {as : List Sl} {i : Nat} {v : OB}, toArgs vs ρ = some as → vs[i]? = some v → (∃ d, v = .d d ∧ as[i]? = some (Sl.val d)) ∨ ∃ j t o, v = .o j ∧ ρ[j]? = some (Sl.own t o) ∧ as[i]? = some (Sl.own true o)
  | [], _, _, _, _, h => by simp at h
  | .d d :: vs, as, i, v, h, hv => by
    unfold toArgs at h
    cases q : toArgs vs ρ with
    | none =>
      rw [q] at h
      cases h
    | some as2 =>
      rw [q] at h
      cases h
      cases i with
      | zero =>
        cases hv
        exact .inl ⟨d, rfl, rfl⟩
      | succ i => exact toArgs_get (vs := vs) (as := as2) (i := i) q hv
  | .o j :: vs, as, i, v, h, hv => by
    unfold toArgs at h
    cases q0 : ρ[j]? with
    | none =>
      rw [q0] at h
      cases h
    | some s =>
      rw [q0] at h
      cases s with
      | own t o =>
        dsimp only at h
        cases q : toArgs vs ρ with
        | none =>
          rw [q] at h
          cases h
        | some as2 =>
          rw [q] at h
          cases h
          cases i with
          | zero =>
            cases hv
            exact .inr ⟨j, t, o, rfl, q0, rfl⟩
          | succ i => exact toArgs_get (vs := vs) (as := as2) (i := i) q hv
      | _ => cases h
theorem toArgs_len : ∀ {vs : List OB} {as : List Sl}, toArgs vs ρ = some as → as.length = vs.length
  | [], _, h => by
    cases h
    rfl
  | .d d :: vs, as, h => by
    unfold toArgs at h
    cases q : toArgs vs ρ with
    | none =>
      rw [q] at h
      cases h
    | some as2 =>
      rw [q] at h
      cases h
      exact congrArg Nat.succ (toArgs_len q)
  | .o j :: vs, as, h => by
    unfold toArgs at h
    cases q0 : ρ[j]? with
    | none =>
      rw [q0] at h
      cases h
    | some s =>
      rw [q0] at h
      cases s with
      | own t o =>
        dsimp only at h
        cases q : toArgs vs ρ with
        | none =>
          rw [q] at h
          cases h
        | some as2 =>
          rw [q] at h
          cases h
          exact congrArg Nat.succ (toArgs_len q)
      | _ => cases h
theorem ioPos_mem : ∀ {vs : List OB} {b k : Nat}, k ∈ ioPos vs b ↔ ∃ i j, k = b + i ∧ vs[i]? = some (OB.o j)
  | [], b, k => by simp [ioPos]
  | .d d :: vs, b, k => by
    unfold ioPos
    rw [ioPos_mem]
    constructor
    · rintro ⟨i, j, rfl, h⟩
      exact ⟨i + 1, j, by omega, h⟩
    · rintro ⟨i, j, rfl, h⟩
      cases i with
      | zero => cases h
      | succ i => exact ⟨i, j, by omega, h⟩
  | .o q :: vs, b, k => by
    unfold ioPos
    rw [List.mem_cons, ioPos_mem]
    constructor
    · rintro (rfl | ⟨i, j, rfl, h⟩)
      · exact ⟨0, q, rfl, rfl⟩
      · exact ⟨i + 1, j, by omega, h⟩
    · rintro ⟨i, j, rfl, h⟩
      cases i with
      | zero => exact .inl rfl
      | succ i => exact .inr ⟨i, j, by omega, h⟩
/-- the n-th lent one: its place, its slot -/
theorem io_at : ∀ {vs : List OB} {b n : Nat}, (ioPos vs b).length = (ioSl vs).length ∧ ∀ k j, (ioPos vs b)[n]? = some k → (ioSl vs)[n]? = some j → ∃ i, k = b + i ∧ vs[i]? = some (OB.o j)
  | [], b, n => ⟨rfl, fun k j h => by simp [ioPos] at h⟩
  | .d d :: vs, b, n => by
    obtain ⟨h1, h2⟩ := io_at (vs := vs) (b := b + 1) (n := n)
    refine ⟨h1, fun k j e1 e2 => ?_⟩
    obtain ⟨i, rfl, h3⟩ := h2 k j e1 e2
    exact ⟨i + 1, by omega, h3⟩
  | .o q :: vs, b, n => by
    refine ⟨congrArg Nat.succ (io_at (vs := vs) (b := b + 1) (n := 0)).1, fun k j e1 e2 => ?_⟩
    cases n with
    | zero =>
      cases e1
      cases e2
      exact ⟨0, rfl, rfl⟩
    | succ n =>
      obtain ⟨i, rfl, h3⟩ := (io_at (vs := vs) (b := b + 1) (n := n)).2 k j e1 e2
      exact ⟨i + 1, by omega, h3⟩
theorem ioSl_mem {vs : List OB} {i j : Nat} (h : vs[i]? = some (OB.o j)) : j ∈ ioSl vs := by
  induction vs generalizing i with
  | nil => simp at h
  | cons v vs ih =>
    cases i with
    | zero =>
      cases h
      exact List.mem_cons_self ..
    | succ i =>
      have := ih h
      cases v with
      | d _ => exact this
      | o _ => exact List.mem_cons_of_mem _ this
theorem ioSl_inj : ∀ {vs : List OB} {i k j : Nat}, (ioSl vs).Nodup → vs[i]? = some (OB.o j) → vs[k]? = some (OB.o j) → i = k
  | [], _, _, _, _, h, _ => by simp at h
  | .d _ :: vs, i, k, j, nd, h1, h2 => by
    cases i with
    | zero => cases h1
    | succ i =>
      cases k with
      | zero => cases h2
      | succ k => exact congrArg Nat.succ (ioSl_inj (vs := vs) nd h1 h2)
  | .o q :: vs, i, k, j, nd, h1, h2 => by
    have nd' := List.nodup_cons.mp (show (q :: ioSl vs).Nodup from nd)
    cases i with
    | zero =>
      cases h1
      cases k with
      | zero => rfl
      | succ k => exact absurd (ioSl_mem (vs := vs) h2) nd'.1
    | succ i =>
      cases k with
      | zero =>
        cases h2
        exact absurd (ioSl_mem (vs := vs) h1) nd'.1
      | succ k => exact congrArg Nat.succ (ioSl_inj nd'.2 h1 h2)
theorem putO_out : ∀ {is : List Nat} {os : List Ow} {ρ : En} {j : Nat}, j ∉ is → (putO is os ρ)[j]? = ρ[j]?
  | [], _, _, _, _ => rfl
  | _ :: _, [], _, _, _ => rfl
  | i :: is, o :: os, ρ, j, h => by
    have hj : j ≠ i := fun e => h (by simp [e])
    have hr : j ∉ is := fun z => h (List.mem_cons_of_mem _ z)
    unfold putO
    split
    · rw [putO_out hr, List.getElem?_set_ne (Ne.symm hj)]
    · rw [putO_out hr]
theorem putO_len : ∀ {is : List Nat} {os : List Ow} {ρ : En}, (putO is os ρ).length = ρ.length
  | [], _, _ => rfl
  | _ :: _, [], _ => rfl
  | i :: is, o :: os, ρ => by
    unfold putO
    split
    · rw [putO_len, List.length_set]
    · rw [putO_len]
theorem putO_in : ∀ {is : List Nat} {os : List Ow} {ρ : En} {n i : Nat} {o w : Ow} {t : Bool}, is.Nodup → is[n]? = some i → os[n]? = some o → ρ[i]? = some (Sl.own t w) → (putO is os ρ)[i]? = some (Sl.own t o)
  | [], _, _, _, _, _, _, _, _, h, _, _ => by simp at h
  | _ :: _, [], _, _, _, _, _, _, _, _, h, _ => by simp at h
  | j :: is, o :: os, ρ, n, i, o', w, t, nd, h1, h2, h3 => by
    obtain ⟨n1, n2⟩ := List.nodup_cons.mp nd
    cases n with
    | zero =>
      cases h1
      cases h2
      unfold putO
      rw [h3]
      dsimp only
      rw [putO_out n1, List.getElem?_set_self (List.getElem?_eq_some_iff.mp h3).1]
    | succ n =>
      have hij : i ≠ j := fun e => n1 (e ▸ List.mem_of_getElem? h1)
      unfold putO
      split
      · exact putO_in n2 h1 h2 (by rw [List.getElem?_set_ne (Ne.symm hij)]; exact h3)
      · exact putO_in n2 h1 h2 h3
theorem RpBs.get : ∀ {xs : List V} {vs : List OB} {i : Nat} {v : OB}, RpBs K mg F σ xs vs → vs[i]? = some v → ∃ x, xs[i]? = some x ∧ RpB K mg F σ x v
  | _, _, _, _, .nil, h => by simp at h
  | _, _, 0, _, .cons r _, h => by
    cases h
    exact ⟨_, rfl, r⟩
  | _, _, i + 1, _, .cons _ t, h => RpBs.get (i := i) t h
theorem RpBs.len : ∀ {xs : List V} {vs : List OB}, RpBs K mg F σ xs vs → xs.length = vs.length
  | _, _, .nil => rfl
  | _, _, .cons _ t => congrArg Nat.succ (RpBs.len t)
/-- what is handed over -/
theorem Sat.args (S : Sat K mg G F H σ ρ) {xs dvs : List V} {vs : List OB} {as : List Sl} {dv : List D} (r : RpBs K mg F σ xs vs) (rd : RpA K mg F dvs dv) (h : toArgs vs ρ = some as) (nd : (ioSl vs).Nodup) :
    ArgOk K mg F H (ioPos vs 0) (xs ++ dvs) (as ++ dv.map .val) := by
  have l1 := r.len
  have l2 := toArgs_len h
  have l3 := rd.len
  -- a place of the written arguments
  have left : ∀ {i : Nat} {s : Sl}, as[i]? = some s → ∃ v x, vs[i]? = some v ∧ (xs ++ dvs)[i]? = some x ∧ RpB K mg F σ x v := fun {i s} e => by
    have hi := (List.getElem?_eq_some_iff.mp e).1
    have hv : vs[i]? = some vs[i] := List.getElem?_eq_getElem (by omega)
    obtain ⟨x, hx, rx⟩ := r.get hv
    exact ⟨_, x, hv, by rw [List.getElem?_append_left (by omega)]; exact hx, rx⟩
  have lent : ∀ {k : Nat}, k ∈ ioPos vs 0 → ∃ j t o x, vs[k]? = some (OB.o j) ∧ ρ[j]? = some (Sl.own t o) ∧ as[k]? = some (Sl.own true o) ∧ (xs ++ dvs)[k]? = some x ∧ σ[j]? = some (some x) := fun {k} hk => by
    obtain ⟨i, j, e, hv⟩ := ioPos_mem.mp hk
    rw [Nat.zero_add] at e
    subst e
    rcases toArgs_get h hv with ⟨d, e, _⟩ | ⟨j', t, o, e, h1, h2⟩
    · cases e
    · cases e
      obtain ⟨v, x, e1, e2, rx⟩ := left h2
      rw [hv] at e1
      cases e1
      cases rx with
      | o e3 => exact ⟨_, t, o, x, hv, h1, h2, e2, e3⟩
  refine ⟨by rw [List.length_append, List.length_append, List.length_map]; omega, fun i d e => ?_, fun i io o e => ?_, fun k hk => ?_, fun i j a hij h1 h2 e1 e2 => ?_⟩
  · by_cases hi : i < as.length
    · rw [List.getElem?_append_left hi] at e
      obtain ⟨v, x, e1, e2, rx⟩ := left e
      rcases toArgs_get h e1 with ⟨d', e3, e4⟩ | ⟨j, t, o, e3, _, e4⟩
      · subst e3
        rw [e] at e4
        cases e4
        cases rx with
        | d rx => exact ⟨x, e2, rx⟩
      · rw [e] at e4
        cases e4
    · rw [List.getElem?_append_right (by omega), List.getElem?_map] at e
      cases q : dv[i - as.length]? with
      | none =>
        rw [q] at e
        cases e
      | some d' =>
        rw [q] at e
        cases e
        obtain ⟨x, e1, rx⟩ := rd.get q
        exact ⟨x, by rw [List.getElem?_append_right (by omega), l1, ← l2]; exact e1, rx⟩
  · by_cases hi : i < as.length
    · rw [List.getElem?_append_left hi] at e
      obtain ⟨v, x, e1, e2, rx⟩ := left e
      rcases toArgs_get h e1 with ⟨d', e3, e4⟩ | ⟨j, t, o', e3, e5, e4⟩
      · rw [e] at e4
        cases e4
      · subst e3
        rw [e] at e4
        cases e4
        obtain ⟨a, a1, a2, a3, _⟩ := S.own j t o e5
        cases rx with
        | o e6 =>
          rw [a1] at e6
          cases e6
          exact ⟨ioPos_mem.mpr ⟨i, j, by omega, e1⟩, a, e2, a2, a3⟩
    · rw [List.getElem?_append_right (by omega), List.getElem?_map] at e
      cases q : dv[i - as.length]? with
      | none =>
        rw [q] at e
        cases e
      | some d' =>
        rw [q] at e
        cases e
  · obtain ⟨j, t, o, x, _, _, h3, _⟩ := lent hk
    exact ⟨o, by rw [List.getElem?_append_left (List.getElem?_eq_some_iff.mp h3).1]; exact h3⟩
  · obtain ⟨j1, t1, o1, x1, p1, p2, p3, p4, p5⟩ := lent h1
    obtain ⟨j2, t2, o2, x2, q1, q2, q3, q4, q5⟩ := lent h2
    rw [p4] at e1
    cases e1
    rw [q4] at e2
    cases e2
    by_cases e : j1 = j2
    · subst e
      exact hij (ioSl_inj nd p1 q1)
    · exact S.dis j1 j2 a e (by rw [p2]; rfl) (by rw [q2]; rfl) p5 q5
/-- behind the call -/
theorem Sat.back (S : Sat K mg G F H σ ρ) {xs dvs : List V} {vs : List OB} {as : List Sl} {os : List Ow} (r : RpBs K mg F σ xs vs) (h : toArgs vs ρ = some as) (nd : (ioSl vs).Nodup) (A : Aft K mg F H F' H' (xs ++ dvs) (ioPos vs 0) os) :
    Sat K mg G F' H' σ (putO (ioSl vs) os ρ) := by
  have l1 := r.len
  -- the lent slots
  have lent : ∀ {j : Nat}, j ∈ ioSl vs → ∃ (n k : Nat) (t : Bool) (w o : Ow) (a : Addr), (ioSl vs)[n]? = some j ∧ (ioPos vs 0)[n]? = some k ∧ os[n]? = some o ∧ ρ[j]? = some (Sl.own t w) ∧ σ[j]? = some (some (V.ref a)) ∧ (xs ++ dvs)[k]? = some (V.ref a) ∧
      (putO (ioSl vs) os ρ)[j]? = some (Sl.own t o) ∧ F' a = none ∧ OwOk K mg F' H' a o ∧ (G.O a ∨ G.H0 a = none) := fun {j} hj => by
    obtain ⟨n, hn⟩ := List.mem_iff_getElem?.mp hj
    obtain ⟨ll, at_⟩ := io_at (vs := vs) (b := 0) (n := n)
    have hlt := (List.getElem?_eq_some_iff.mp hn).1
    have hk : (ioPos vs 0)[n]? = some (ioPos vs 0)[n] := List.getElem?_eq_getElem (by omega)
    have hlo : n < os.length := by rw [A.len]; omega
    have ho : os[n]? = some os[n] := List.getElem?_eq_getElem hlo
    obtain ⟨i, e, hv⟩ := at_ _ _ hk hn
    rw [Nat.zero_add] at e
    rw [e] at hk
    rcases toArgs_get h hv with ⟨d, e2, _⟩ | ⟨j', t, w, e2, h1, h2⟩
    · cases e2
    · cases e2
      obtain ⟨x, hx, rx⟩ := r.get hv
      obtain ⟨a, a1, a2, a3, a4⟩ := S.own _ t w h1
      cases rx with
      | o e3 =>
        rw [a1] at e3
        cases e3
        have hi := (List.getElem?_eq_some_iff.mp hx).1
        have hx' : (xs ++ dvs)[i]? = some (V.ref a) := by rw [List.getElem?_append_left hi]; exact hx
        obtain ⟨b1, b2⟩ := A.io n i a _ hk ho hx'
        exact ⟨n, i, t, w, _, a, hn, hk, ho, h1, a1, hx', putO_in nd hn ho h1, b1, b2, a4⟩
  -- a lent address stands in a slot
  have slot : ∀ {k : Nat} {b : Addr}, k ∈ ioPos vs 0 → (xs ++ dvs)[k]? = some (V.ref b) → ∃ j, j ∈ ioSl vs ∧ isOw ρ[j]? = true ∧ σ[j]? = some (some (V.ref b)) := fun {k b} hk e => by
    obtain ⟨i, j, e0, hv⟩ := ioPos_mem.mp hk
    rw [Nat.zero_add] at e0
    subst e0
    rcases toArgs_get h hv with ⟨d, e2, _⟩ | ⟨j', t, w, e2, h1, h2⟩
    · cases e2
    · cases e2
      obtain ⟨x, hx, rx⟩ := r.get hv
      have hi := (List.getElem?_eq_some_iff.mp hx).1
      rw [List.getElem?_append_left hi, hx] at e
      cases e
      cases rx with
      | o e3 => exact ⟨_, ioSl_mem hv, by rw [h1]; rfl, e3⟩
  have ow : ∀ {j : Nat}, isOw (putO (ioSl vs) os ρ)[j]? = true → isOw ρ[j]? = true := fun {j} hj => by
    by_cases hm : j ∈ ioSl vs
    · obtain ⟨n, k, t, w, o, a, _, _, _, q, _⟩ := lent hm
      rw [q]
      rfl
    · rw [putO_out hm] at hj
      exact hj
  refine ⟨A.fh, S.f0.trans A.ff, fun b o hb hn => ?_, fun b o hb => ?_, by rw [putO_len]; exact S.len, fun j d e => ?_, fun j io o e => ?_, fun i j a hij h1 h2 => S.dis i j a hij (ow h1) (ow h2), fun k a e => ?_⟩
  · refine A.hh b o (S.h0 b o hb hn) fun k hk e => ?_
    obtain ⟨j, hj, _⟩ := slot hk e
    obtain ⟨n, k', t, w, o', a, _, _, _, _, a1, a2, _, _, _, a4⟩ := lent hj
    obtain ⟨j2, hj2, o2, e2⟩ := slot hk e
    -- the address b is an object of one's own
    obtain ⟨c, io, w2, q, c1, _⟩ := S.owAt o2
    rw [c1] at e2
    cases e2
    obtain ⟨c', c2, _, _, c4⟩ := S.own j2 io w2 q
    rw [c1] at c2
    cases c2
    rcases c4 with c4 | c4
    · exact hn c4
    · rw [c4] at hb
      cases hb
  · rcases A.nw b o hb with q | q
    · exact S.fn b o q
    · exact .inr (S.fresh0 q)
  · by_cases hm : j ∈ ioSl vs
    · obtain ⟨n, k, t, w, o, a, _, _, _, _, _, _, q, _⟩ := lent hm
      rw [q] at e
      cases e
    · rw [putO_out hm] at e
      obtain ⟨v, h1, h2⟩ := S.val j d e
      exact ⟨v, h1, h2.mono A.ff⟩
  · by_cases hm : j ∈ ioSl vs
    · obtain ⟨n, k, t, w, o', a, _, _, _, _, a1, _, q, f1, f2, f3⟩ := lent hm
      rw [q] at e
      cases e
      exact ⟨a, a1, f1, f2, f3⟩
    · rw [putO_out hm] at e
      obtain ⟨a, a1, a2, a3, a4⟩ := S.own j io o e
      obtain ⟨u, hu⟩ := a3.at
      refine ⟨a, a1, ?_, a3.mono A.ff ?_, a4⟩
      · cases q : F' a with
        | none => rfl
        | some z =>
          rcases A.nw a z q with q | q
          · rw [a2] at q; cases q
          · rw [hu] at q; cases q
      · rw [hu]
        refine A.hh a u hu fun k hk e9 => ?_
        obtain ⟨j2, hj2, o2, e2⟩ := slot hk e9
        have hne : j ≠ j2 := fun z => hm (z ▸ hj2)
        exact S.dis j j2 a hne (by rw [e]; rfl) o2 a1 e2
  · obtain ⟨e1, o, e2⟩ := S.io k a e
    by_cases hm : k ∈ ioSl vs
    · obtain ⟨n, k', t, w, o', a', _, _, _, q0, _, _, q, _⟩ := lent hm
      rw [e2] at q0
      cases q0
      exact ⟨e1, o', q⟩
    · exact ⟨e1, o, by rw [putO_out hm]; exact e2⟩
theorem me_call {X : Cx} {W : WX} {ios : List Nat} {f : List Sl → DR} {dv : List D} {dvs : List V} {ds : List Value} {ms : AM} {k n : Nat} {fa : Addr} {fd : FuncData} {ps : List Str} {x : Str} {p pos : Pos} {e : Expr} {es : List Expr}
    (FO : FnOk X.prog X.w X.K X.mg X.base (L2.CX X.prog X.w) k fa fd ps (spM X.K X.mg n ios f)) (hr : Room k X.A) (tk : Takes X W) (hg : Gl X x) (hm : X.mg x = some (.ref fa)) (hk : PySem.W.keepIn X.K (.ref fa) = true) (hb : Binds X.K fd ps ds) (hd : Vals dvs ds)
    (rd : ∀ F, RpA X.K X.mg F dvs dv) (hn : (e :: es).length + dvs.length = n) (ha : MA X W (e :: es) ms) (hml : ∀ ρ vs ρ', ms ρ = .ok vs ρ' → vs.length = (e :: es).length)
    (hdb : (x == ("__debug__" : Str)) = false := by decide) (he : starEach (e :: es) X.env = (false, eval e X.env) :: starEach es X.env := by rfl) (hpl : (backTo pos (starEach es X.env)).any (·.1) = false := by rfl) :
    ME X W (.Call (.Name x p) (e :: es) [] pos) (mCall ios f dv ms) :=
  ME.weak (pe_callSD FO hr hg hm hk hb hd (fun σ => passAt tk σ) ha hdb he hpl) fun {σ H Q G F ρ} S k => by
    have k' : Gd X.K X.mg W (RpO X.K X.mg) G F σ ((ms ρ).bind fun vs ρ => match toArgs vs ρ with
      | some as => if ioPos vs 0 = ios ∧ (ioSl vs).Nodup then (match f (as ++ dv.map .val) with
        | .ok r os => .ok (rvOV r) (putO (ioSl vs) os ρ)
        | .ex x os => .ex x (putO (ioSl vs) os ρ)
        | .bad => .bad) else .bad
      | none => .bad) Q := k
    refine subA S (Gd.bind k' fun vs ρ1 F1 H1 xs hms S1 e1 r1 k1 => ?_)
    cases q : toArgs vs ρ1 with
    | none =>
      rw [q] at k1
      exact k1.elim
    | some as =>
      rw [q] at k1
      dsimp only at k1
      by_cases hc : ioPos vs 0 = ios ∧ (ioSl vs).Nodup
      · rw [if_pos hc] at k1
        obtain ⟨c1, c2⟩ := hc
        subst c1
        refine ⟨?_, F1, as ++ dv.map .val, S1.fh, S1.args r1 (rd F1) q c2, ?_⟩
        · rw [List.length_append, r1.len, hml ρ vs ρ1 hms]
          exact hn
        · cases q2 : f (as ++ dv.map .val) with
          | bad =>
            rw [q2] at k1
            exact k1.elim
          | ok r os =>
            rw [q2] at k1
            intro F2 H2 y A rr
            have S2 := S1.back r1 q c2 A
            refine k1 F2 H2 y S2 A.ff ?_
            cases rr with
            | v r => exact .d r
            | w h1 h2 h3 =>
              rename_i a o
              refine .n h1 h2 ((S1.fresh0 h3).symm) fun j hj hs => ?_
              obtain ⟨b, io, w, q3, b1, b2, b3⟩ := S2.owAt hj
              rw [hs] at b1
              cases b1
              -- a was no object ahead of the call, what a slot holds was one
              have : isOw ρ1[j]? = true := by
                by_cases hm2 : j ∈ ioSl vs
                · obtain ⟨n3, hn3⟩ := List.mem_iff_getElem?.mp hm2
                  obtain ⟨ll, at_⟩ := io_at (vs := vs) (b := 0) (n := n3)
                  have hlt := (List.getElem?_eq_some_iff.mp hn3).1
                  obtain ⟨i, e0, hv⟩ := at_ _ _ (List.getElem?_eq_getElem (by omega)) hn3
                  rcases toArgs_get q hv with ⟨d, e2, _⟩ | ⟨j', t, w', e2, h1', _⟩
                  · cases e2
                  · cases e2
                    rw [h1']
                    rfl
                · rw [putO_out hm2] at hj
                  exact hj
              obtain ⟨c, io', w', q4, d1, d2, d3⟩ := S1.owAt this
              rw [hs] at d1
              cases d1
              obtain ⟨u, hu⟩ := d3.at
              rw [h3] at hu
              cases hu
          | ex y os =>
            rw [q2] at k1
            intro F2 H2 C d fs hC A hd2 rf
            exact k1 F2 H2 C d fs hC (S1.back r1 q c2 A) A.ff hd2 rf
      · rw [if_neg hc] at k1
        exact k1.elim
/-- an argument list's mirror gives as many as are written -/
theorem ml_nil {ρ : En} {vs : List OB} {ρ' : En} (h : mNil ρ = .ok vs ρ') : vs.length = 0 := by
  cases h
  rfl
theorem ml_arg {m : EM} {ms : AM} {n : Nat} (hm : ∀ ρ vs ρ', ms ρ = .ok vs ρ' → vs.length = n) : ∀ ρ vs ρ', mArg m ms ρ = .ok vs ρ' → vs.length = n + 1 := fun ρ vs ρ' h => by
  unfold mArg at h
  cases q : m ρ with
  | ok v ρ1 =>
    rw [q] at h
    dsimp only [R.bind] at h
    cases q1 : esc v.fz ρ1 with
    | none =>
      rw [q1] at h
      cases h
    | some p =>
      obtain ⟨d, ρ2⟩ := p
      rw [q1] at h
      dsimp only at h
      cases q2 : ms ρ2 with
      | ok us ρ3 =>
        rw [q2] at h
        cases h
        rw [List.length_cons, hm _ _ _ q2]
      | ex _ _ =>
        rw [q2] at h
        cases h
      | bad =>
        rw [q2] at h
        cases h
  | ex _ _ =>
    rw [q] at h
    cases h
  | bad =>
    rw [q] at h
    cases h
theorem ml_lend {i : Nat} {ms : AM} {n : Nat} (hm : ∀ ρ vs ρ', ms ρ = .ok vs ρ' → vs.length = n) : ∀ ρ vs ρ', mLend i ms ρ = .ok vs ρ' → vs.length = n + 1 := fun ρ vs ρ' h => by
  unfold mLend at h
  by_cases hc : isOw ρ[i]? = true
  · rw [if_pos hc] at h
    cases q2 : ms ρ with
    | ok us ρ3 =>
      rw [q2] at h
      cases h
      rw [List.length_cons, hm _ _ _ q2]
    | ex _ _ =>
      rw [q2] at h
      cases h
    | bad =>
      rw [q2] at h
      cases h
  · rw [if_neg hc] at h
    cases h
end
end Mi
set_option Elab.async false
set_option linter.all false
set_option maxRecDepth 100000
set_option maxHeartbeats 2000000
/-! Mi, part J: own errors whose __init__ says super().__init__(text), then sets the one field: made, raised. -/
namespace PySem
namespace MiX
open PySem.W PySem.Calls PyProof.Rows PySem.HandSPX
def iA (f : Str) (p1 p2 : Pos) : Arguments := { posonlyargs := [], args := [{ arg := "self", annotation := none, pos := p1 }, { arg := f, annotation := none, pos := p2 }], vararg := none, kwonlyargs := [], kw_defaults := [], kwarg := none, defaults := [] }
abbrev iE (t : Str) (q : Nat → Pos) : Expr := .Call (.Attribute (.Call (.Name "super" (q 0)) [] [] (q 1)) "__init__" (q 2)) [.Constant (.str t) 0 (q 3)] [] (q 4)
def iB (f t : Str) (q : Nat → Pos) : List Stmt := [
  .Expr (iE t q) (q 5),
  .Assign [.Attribute (.Name "self" (q 6)) f (q 7)] (.Name f (q 8)) (q 9)]
def iS (f : Str) : Scope := { kind := .function, names := [(PySem.Str.ofString "self", .local), (f, .local), (PySem.Str.ofString "__class__", .free), (PySem.Str.ofString "super", .globalImplicit)], isGenerator := false, isCoroutine := false, more := [] }
/-- what the written part says of the class named c, its field f; at C; its __init__ at fI -/
structure ExT (P : Program) (K : Frag) (mg : Str → Option Value) (c f : Str) (C fI : Addr) : Prop where
  gC : mg c = some (.ref C)
  cls : ∃ nm q N bs bm sn sub ab col dd k0 k1 k2 k3 k5, K.lookup C = some (excClassObj nm q C N bs bm true sn sub ab col dd k0 k1 k2 k3 k5 "ValueError.__new__") ∧ refsVE bm = true ∧ alongIn K "__init__" bm = some (some (.builtin "ValueError.__init__"))
  sa : findIn K (.ref C) "__setattr__" = some (some (.builtin "object.__setattr__"))
  ga : findIn K (.ref C) "__getattribute__" = some (some (.builtin "BaseException.__getattribute__"))
  gg : findIn K (.ref C) "__getattr__" = some none
  noN : findIn K (.ref C) f = some none
  iC : findIn K (.ref C) "__init__" = some (some (.ref fI))
  tC : typeIn K (.ref fI) = some (.type "function")
  kC : keepIn K (.ref C) = true
  exC : subIn K (.ref C) (.type "BaseException") = some true
  vC : subIn K (.ref C) (.type "ValueError") = some true
  tyC : typeIn K (.ref C) = some (.type "type")
  hdC : hasDictIn K C = true
  subC : mroIn K C (.ref C) = some true
  opq : nsIn K cStatics "thirdparty.any" = some none
  noS : mg "super" = none
  top : (P.main.scope.names.lookup ("super" : Str)).isSome = false
  fn : ∃ (oc : Value) (od : Option Addr) (doc pm : Value) (an : Option Addr) (ct : Value) (osl : Array (Option Value)) (p1 p2 : Pos) (q : Nat → Pos) (t qn : Str) (cda cc : Addr) (c1 : Value) (d1 : Option Addr) (vs : Array Value) (s1 : Array (Option Value)) (file : Str) (tf : Tok) (c2 : Value) (d2 : Option Addr) (s2 : Array (Option Value)),
    K.lookup fI = some ⟨oc, od, .func (ksFn "__init__" qn (iA f p1 p2) (iB f t q) (iS f) .none .none doc pm an (.ref cda) ct cc), osl⟩ ∧ codeIn K (.ref cda) qn = true ∧
    K.lookup cda = some ⟨c1, d1, .fields vs, s1⟩ ∧ vs[2]? = some (.str file tf) ∧ ((P.main.file : Str) == file) = true ∧ K.lookup cc = some ⟨c2, d2, .cell (some (.ref C)), s2⟩ ∧
    (∀ u v, bindArgs (ksFn "__init__" qn (iA f p1 p2) (iB f t q) (iS f) .none .none doc pm an (.ref cda) ct cc) ⟨[u, v], []⟩ = pure ([(("self" : Str), u), (f, v)] : List (Str × Value))) ∧
    (∀ env, ∃ pl, eval (iE t q) env = (do
      let ov ← attributeBase (.Call (.Name "super" (q 0)) [] [] (q 1)) "__init__" env (eval (.Call (.Name "super" (q 0)) [] [] (q 1)) env)
      standAt (q 2).atName
      let (f, first) ← holding [ov] (getMethod ov "__init__" pl)
      callWith (q 4) f first (backTo (q 4) (starEach [.Constant (.str t) 0 (q 3)] env)) []))
/-- what makes a word a field's name here -/
structure Fld (f : Str) : Prop where
  s : (f == ("self" : Str)) = false
  c : (f == ("__class__" : Str)) = false
  d : (f == ("__debug__" : Str)) = false
  g : (("super" : Str) == f) = false
  k : (("__class__" : Str) == f) = false
/-- what __init__ leaves of a fresh error at x -/
structure InitEnd (h h' : Heap) (f : Str) (x C dx : Addr) (v : Value) : Prop where
  keep : ∀ b o, b ≠ x → h.get? b = some o → h'.get? b = some o
  obj : ∃ t1 : Addr, h'.get? x = some { cls := .ref C, dict := some dx, data := .fields #[.ref t1, .none, .none, .none, .bool false, .none] }
  dbig : h.objs.size ≤ dx
  dne : dx ≠ x
  ns : h'.Ns1 dx (fun y => if y = f then some v else none)
section
variable {prog : Program} {w : World} {A : Around} {E : Value → Shared → Prop} {R : Result → Shared → Prop} {s : Shared} {K : Frag} {mg mb : Str → Option Value} {c f : Str} {C fI : Addr}
variable {h : Heap} {g : Array GenState} {d : Drawn} {t : Nat} {os : OsState}
variable {nm q : Str} {N : Addr} {bs bm : List Value} {hdct : Bool} {sn : List Str} {sub : List Value} {ab : Bool} {col : Option Bool} {dd : Option Addr} {k0 k1 k2 k3 k5 : Option Value}
theorem look_f (F : Fld f) : (iS f).names.lookup f = some .local := by
  have e := F.s
  show (match f == PySem.Str.ofString "self" with
    | true => some NameKind.local
    | false => List.lookup f [(f, NameKind.local), (PySem.Str.ofString "__class__", NameKind.free), (PySem.Str.ofString "super", NameKind.globalImplicit)]) = _
  rw [show (f == PySem.Str.ofString "self") = false from e]
  show List.lookup f ((f, NameKind.local) :: _) = _
  rw [List.lookup_cons, beq_self_eq_true]
theorem look_c (F : Fld f) : (iS f).names.lookup ("__class__" : Str) = some .free := by
  show List.lookup (PySem.Str.ofString "__class__") ((PySem.Str.ofString "self", NameKind.local) :: (f, NameKind.local) :: (PySem.Str.ofString "__class__", NameKind.free) :: _) = _
  rw [List.lookup_cons, show (PySem.Str.ofString "__class__" == PySem.Str.ofString "self") = false by decide]
  dsimp only
  rw [List.lookup_cons, show (PySem.Str.ofString "__class__" == f) = false from F.k]
  dsimp only
  rw [List.lookup_cons, beq_self_eq_true]
theorem look_s (F : Fld f) : (iS f).names.lookup ("super" : Str) = some .globalImplicit := by
  show List.lookup (PySem.Str.ofString "super") ((PySem.Str.ofString "self", NameKind.local) :: (f, NameKind.local) :: (PySem.Str.ofString "__class__", NameKind.free) :: (PySem.Str.ofString "super", NameKind.globalImplicit) :: []) = _
  rw [List.lookup_cons, show (PySem.Str.ofString "super" == PySem.Str.ofString "self") = false by decide]
  dsimp only
  rw [List.lookup_cons, show (PySem.Str.ofString "super" == f) = false from F.g]
  dsimp only
  rw [List.lookup_cons, show (PySem.Str.ofString "super" == PySem.Str.ofString "__class__") = false by decide]
  dsimp only
  rw [List.lookup_cons, beq_self_eq_true]
theorem look_self : (iS f).names.lookup ("self" : Str) = some .local := by
  show List.lookup (PySem.Str.ofString "self") ((PySem.Str.ofString "self", NameKind.local) :: _) = _
  rw [List.lookup_cons, beq_self_eq_true]
/-- ValueError.__init__ bound to the error, called -/
theorem call_bw {u e t0 : Addr} {rest : List Value} {Q : Value → Shared → Prop}
    (hC : h.get? C = some (excClassObj nm q C N bs bm hdct sn sub ab col dd k0 k1 k2 k3 k5 "ValueError.__new__")) (he : h.get? e = some (excO C t0)) (hu : h.get? u = some (kxs_mw "ValueError.__init__" e)) (hrest : rest.length ≤ sizeLine)
    (hq : ∀ h' t1, (∀ b o, b ≠ e → h.get? b = some o → h'.get? b = some o) → h'.get? e = some (excO C t1) → h.objs.size ≤ h'.objs.size → Q .none ⟨h', g, d, t, os⟩) :
    wpAny (model prog w) A (call (.ref u) rest) Q E ⟨h, g, d, t, os⟩ := by
  refine wpAny_call (codeAny_of_tree ?_)
  show wpAny _ A.in1 (callAny (.ref u) ⟨rest, []⟩) _ _ _
  simp only [callAny]
  refine wpAny_bind (wpAny_load hu ?_)
  simp only [kxs_mw, show (Value.type "method-wrapper" == Value.type "method" || Value.type "method-wrapper" == Value.type "builtin_function_or_method" || Value.type "method-wrapper" == Value.type "method-wrapper") = true by decide, if_true]
  refine W.KFB.if_so (by decide) ?_
  refine wpAny_bind (check_bound_init F.excBase_ValueError.toExcCallFacts hC he rfl ?_)
  refine wpAny_bind (wpAny_pure (wpAny_pure ?_))
  refine ⟨Code.quiet_builtin _ (by decide +kernel), codeAny_builtin F.excBase_ValueError.initEntry ?_⟩
  rw [Around.under_plainId F.excBase_ValueError.init.plain _]
  wp_walk
  refine hq _ h.objs.size (fun b o hb ho => ?_) ?_ ?_
  · rw [Heap.get?_update_other _ _ (Ne.symm hb)]
    exact Heap.get?_push_of_some _ ho
  · rw [Heap.get?_update_self _ (Heap.get?_push_of_some _ he) rfl]
    rfl
  · first
      | (simp [Heap.size_push]; done)
      | (rw [Heap.size_update, Heap.size_push]; exact Nat.le_succ _)

theorem su_init (T : ExT prog K mg c f C fI) (Fl : Fld f) {x t0 : Addr} {v : Value} (X : K.In s.heap) (hg : s.heap.Ns mainGlobals mg) (hb : s.heap.Ns builtinsNs mb) (hbs : mb "super" = some (.type "super")) (hlim : s.heap.NoLimit) (hx : s.heap.get? x = some (excO C t0)) (hnx : K.lookup x = none)
    (hroom : A.depth < recursionLimit) (hq : ∀ h' tk dx, InitEnd s.heap h' f x C dx v → R (.ok (.ret .none)) { s with heap := h', toks := tk }) :
    codeAny (model prog w) A (.call (.ref fI) ⟨[.ref x, v], []⟩) R s := by
  obtain ⟨oc, od, doc, pm, an, ct, osl, p1, p2, q, t, qn, cda, cc, c1, d1, vs, s1, file, tf, c2, d2, s2, ho, hcd, hcda, hvs, hfile, hcc, hbind, hev⟩ := T.fn
  obtain ⟨nm, qq, N, bs, bm, sn, sub, ab, col, dd, k0, k1, k2, k3, k5, hC, hbm, hal⟩ := T.cls
  have hcl : clsIn K C = some { name := nm, bases := bs, mro := .ref C :: bm, ns := N, qualname := qq, hasDict := true, slotNames := sn, subclasses := sub, abstract := ab, collection := col, hasDel := false } := by unfold clsIn; rw [hC] <;> rfl
  have bnd : BindsTo s (ksFn "__init__" qn (iA f p1 p2) (iB f t q) (iS f) .none .none doc pm an (.ref cda) ct cc) ⟨[.ref x, v], []⟩ ([(("self" : Str), .ref x), (f, v)] : List (Str × Value)) := by
    exact BindsTo.of_eq (hbind _ _)
  refine ks_codeAny_call_defAt (fd := ksFn "__init__" qn (iA f p1 p2) (iB f t q) (iS f) .none .none doc pm an (.ref cda) ct cc) (body := iB f t q) (binds := ([(("self" : Str), .ref x), (f, v)] : List (Str × Value))) hroom (X _ _ ho) rfl hlim (codeRec_of X hcd) rfl bnd ?_ ?_ (fun h₁ hns k₁ => ?_) rfl rfl rfl
  · intro y hy
    rcases List.mem_cons.mp hy with rfl | hy
    · exact fun z => by cases z
    rcases List.mem_cons.mp hy with rfl | hy
    · exact fun z => by cases z
    rcases List.mem_cons.mp hy with rfl | hy
    · exact fun z => by cases z
    rcases List.mem_cons.mp hy with rfl | hy
    · exact fun z => by cases z
    · cases hy
  · intro y hy
    rcases List.mem_cons.mp hy with rfl | hy
    · exact look_self
    rcases List.mem_cons.mp hy with rfl | hy
    · exact look_f Fl
    · cases hy
  show _root_.PySem.wpAt _ _ (.func (iB f t q) (ksEnv qn (iS f) s.heap.objs.size fI (.ref cda) cc)) (execs (iB f t q) (ksEnv qn (iS f) s.heap.objs.size fI (.ref cda) cc)) _ _ _
  have X₁ : K.In h₁ := X.keeps k₁
  have hx₁ := k₁ _ _ hx
  obtain ⟨oL, es, ep, hL, hmL⟩ := hns
  have hns : h₁.Ns s.heap.objs.size (fun y => List.lookup y ([((("self" : Str)), Value.ref x), (f, v)] : List (Str × Value)).reverse) := ⟨oL, es, ep, hL, hmL⟩
  obtain ⟨pl, hev⟩ := hev (ksEnv qn (iS f) s.heap.objs.size fI (.ref cda) cc)
  have v1 : List.lookup ("self" : Str) ([(f, v), (("self" : Str), Value.ref x)] : List (Str × Value)) = some (.ref x) := by
    rw [List.lookup_cons]
    have e : (("self" : Str) == f) = false := by
      have := Fl.s
      simp only [beq_eq_false_iff_ne, ne_eq] at this ⊢
      exact fun z => this z.symm
    rw [e]
    dsimp only
    rw [List.lookup_cons, beq_self_eq_true]
  have v2 : List.lookup f ([(f, v), (("self" : Str), Value.ref x)] : List (Str × Value)) = some v := by
    rw [List.lookup_cons, beq_self_eq_true]
  refine ks_wpAt_execs_cons (ks_wpAt_Expr_any (ks_wpAt_MethodCall ?_ hev))
  refine ks_wpAt_super_base (env := ksEnv qn (iS f) s.heap.objs.size fI (.ref cda) cc) (look_s Fl) (look_c Fl) (by decide) rfl (X₁ _ _ ho) rfl rfl rfl (X₁ _ _ hcda) rfl hvs hfile T.top ?_
  refine ks_loadName_global rfl (look_s Fl) (loadGlobal_builtin (env := ksEnv qn (iS f) s.heap.objs.size fI (.ref cda) cc) (hg.keeps k₁) T.noS (hb.keeps k₁) hbs ⟨rfl, ?_⟩)
  refine wpAny_loadName_free rfl (look_c Fl) (show List.lookup ("__class__" : Str) [("__class__", cc)] = some cc by rw [List.lookup_cons, beq_self_eq_true]) (v := .ref C) ⟨_, X₁ _ _ hcc, rfl⟩ ?_
  refine wpAny_loadName_local rfl look_self hns v1 ?_
  refine ks_wpAny_isType_cls (X₁ _ _ hC) rfl ⟨rfl, ?_⟩
  refine ks_wpAny_call_super (X₁ _ _ hC) rfl hx₁ rfl (fun z e => by cases e) (looks_mroIn X₁ T.subC) (fun h₂ hso k₂ => ?_)
  have X₂ : K.In h₂ := X₁.keeps k₂
  have I₂ : W.InstAt h₂ x (excO C t0) C none := ⟨k₂ _ _ hx₁, rfl, rfl, trivial⟩
  refine kxs_getMethod kxs_ValueError (l := bm) hso (looks_opaque X₂ T.opq) (l₀ := .ref C :: bm) ?_ ?_ X₂ hal (I₂.type.andThen (looks_subIn X₂ T.vC)) (ks_ne X₂ I₂ hcl) (by decide) ?_
  · exact fun A Q E s k q => wpAny_bind ((looks_clsIn X₂ hcl) A _ E s k (wpAny_pure q))
  · rw [List.dropWhile_cons, if_neg (by simp)]
    rfl
  have k₃ : ∀ b o, h₂.get? b = some o → (h₂.push (kxs_mw "ValueError.__init__" x)).get? b = some o := fun b o e => Heap.get?_push_of_some _ e
  have hu : (h₂.push (kxs_mw "ValueError.__init__" x)).get? h₂.objs.size = some (kxs_mw "ValueError.__init__" x) := Heap.get?_push_at rfl rfl
  refine kxs_callWith (i := "ValueError.__init__") (x := x) rfl (evalArgs_plain (spliced_cons (Constant_str (k := 0) (pos := q 3) (spliced_nil ⟨hu, ?_⟩))))
  have X₃ : K.In (h₂.push (kxs_mw "ValueError.__init__" x)) := X₂.keeps k₃
  have hx₃ := k₃ _ _ (k₂ _ _ hx₁)
  have xL : s.heap.objs.size ≠ x := Nat.ne_of_gt (Heap.lt_size hx)
  refine call_bw (X₃ _ _ hC) hx₃ hu ?_ (fun h₄ t1 k₄ hx₄ _ => ?_)
  · show [_].length ≤ sizeLine
    rw [sizeLine_eq]
    exact (by decide : 1 ≤ 16777216)
  -- self.f = f
  have hL₄ := k₄ _ _ xL (k₃ _ _ (k₂ _ _ hL))
  have hns₄ : h₄.Ns s.heap.objs.size (fun y => List.lookup y ([((("self" : Str)), Value.ref x), (f, v)] : List (Str × Value)).reverse) := ⟨oL, es, ep, hL₄, hmL⟩
  have X₄ : K.In h₄ := fun b o e => k₄ b o (fun z => by rw [z, hnx] at e; cases e) (X₃ b o e)
  refine ks_wpAt_execs_cons (wpAt_of_wpAny (plainObj_wpAny_Assign_Attribute ?_))
  have ld : ∀ {y : Str} {u : Value} {pos : Pos} {Q : Value → Shared → Prop} {A' : Around} {E' : Value → Shared → Prop} {s' : Shared}, s'.heap = h₄ → (y == ("__debug__" : Str)) = false → (iS f).names.lookup y = some .local → List.lookup y ([(f, v), (("self" : Str), Value.ref x)] : List (Str × Value)) = some u → Q u s' →
      wpAny (model prog w) A' (eval (.Name y pos) (ksEnv qn (iS f) s.heap.objs.size fI (.ref cda) cc)) Q E' s' := fun {y u pos Q A' E' s'} e1 e2 e3 e4 e5 =>
    wpAny_Name (wpAny_loadName_local rfl e3 (by rw [e1]; exact hns₄) e4 e5) e2
  refine ld rfl Fl.d (look_f Fl) v2 (ld rfl (by decide) look_self v1 ?_)
  refine set_plain X₄ (ox := excO C t1) (od := none) ⟨hx₄, rfl, rfl, trivial⟩ T.sa ?_
  refine exc_osa X₄ hx₄ hcl (show refsVE (.ref C :: bm) = true from hbm) rfl T.noN (fun h₅ tk₅ dx k₅ dn dne hx₅ hn₅ => ?_)
  refine wpAt_of_wpAny ?_
  show wpAny _ _ (execs [] _) _ _ _
  refine wpAny_execs_nil (hq h₅ tk₅ dx ⟨fun b o hb e => ?_, ⟨_, hx₅⟩, ?_, dne, hn₅⟩)
  · exact k₅ b o hb (k₄ b o hb (k₃ b o (k₂ b o (k₁ b o e))))
  · exact Nat.le_of_lt (Nat.lt_of_lt_of_le (Heap.lt_size hL₄) dn)
end
end MiX
end PySem
namespace Mi
open PySem PySem.Spec PyProof.Rows L2 PySem.MiX
theorem relO_fld {f : Str} {v : V} {v' : Value} (r : RelV v v') (g : Str) : RelO (List.lookup g [(f, v)]) (if g = f then some v' else none) := by
  by_cases hw : g = f
  · subst hw
    rw [if_pos rfl]
    have q : List.lookup g [(g, v)] = some v := by rw [List.lookup_cons, beq_self_eq_true]
    rw [q]
    exact r
  · rw [if_neg hw]
    have qw : (g == f) = false := by simpa using hw
    have q2 : List.lookup g [(f, v)] = none := by rw [List.lookup_cons, qw]; rfl
    rw [q2]
    trivial
section
variable {X : Cx} {c f : Str} {C fI : Addr}
/-- C(e) -/
def tMkX (C : Addr) (f : Str) (ta : TA) : St → Hp → XK → Prop := fun σ H Q => ta σ H fun vs H1 => ∃ v, vs = [v] ∧ ∀ d, H1 d = none → Q (.ref C) (some d) (upd H1 d (.xd [(f, v)]))
theorem pmk_ex {a : Expr} {ta : TA} {p pos : Pos} {k : Nat} (T : ExT X.prog X.K X.mg c f C fI) (Fl : Fld f) (hr : Room k X.A) (ha : PA X [a] ta) (hg : Gl X c) (hdb : (c == ("__debug__" : Str)) = false := by decide)
    (he : starEach (a :: []) X.env = (false, eval a X.env) :: starEach [] X.env := by rfl) (hpl : (backTo pos (starEach [] X.env)).any (·.1) = false := by rfl) :
    PMk X (.Call (.Name c p) [a] [] pos) (tMkX C f ta) := by
  intro pins s σ H Q I h
  refine wpAny_Call_Name_kw (ld_glob I hg T.gC ?_ hdb)
  refine PySem.W.callWith_K (h₀ := X.base) I.ok.mod.kin T.kC (thn (ha.run pos pins s σ H _ I h) fun us s1 hh => ?_) he hpl
  obtain ⟨vs, H1, I1, r1, v, ev, q1⟩ := hh
  subst ev
  refine ⟨I1.kIn, ?_⟩
  cases r1 with
  | cons rv rn =>
    rename_i v' us'
    cases rn
    show wpAny _ _ (call (.ref C) [v']) _ _ _
    have hlim := I1.nolimit
    obtain ⟨mb, hb1, hb2⟩ := I1.mod.blt
    have hgl : s1.heap.Ns mainGlobals X.mg := I1.mod.glob.keeps I1.bk
    have hbl : s1.heap.Ns builtinsNs mb := hb1.keeps I1.bk
    have hbs : mb "super" = some (.type "super") := (hb2 "super" (by decide)).trans (by first | boot_by_name | rfl | kernel_rfl)
    obtain ⟨hp, g, dr, tk, os⟩ := s1
    obtain ⟨nm, q, N, bs, bm, sn, sub, ab, col, dd, k0, k1, k2, k3, k5, hC, hbm, hal⟩ := T.cls
    have X1 : X.K.In hp := I1.kIn
    have kp : ∀ b o, hp.get? b = some o → ((hp.push (PySem.W.kdv_tup [v'])).push (PySem.HandSPX.excO C hp.objs.size)).get? b = some o := fun b o e => Heap.get?_push_of_some _ (Heap.get?_push_of_some _ e)
    have hget : ((hp.push (PySem.W.kdv_tup [v'])).push (PySem.HandSPX.excO C hp.objs.size)).get? (hp.objs.size + 1) = some (PySem.HandSPX.excO C hp.objs.size) := by heap_get
    have hnx : X.K.lookup (hp.objs.size + 1) = none := by
      cases e : X.K.lookup (hp.objs.size + 1) with
      | none => rfl
      | some o =>
        have z : hp.get? (hp.objs.size + 1) = some o := X1 _ _ e
        exact absurd (Nat.lt_of_succ_lt (Heap.lt_size z)) (Nat.lt_irrefl _)
    refine wpAny_call (PySem.HandSPX.call_own F.excBase_ValueError (fun Y => PySem.HandSPX.refsVE_contains Y bm hbm) (X1 _ _ hC) (PySem.W.looks_findIn X1 T.iC) (fun self => PySem.W.bind_fn X1 self T.tC) (by show [_].length ≤ sizeLine; rw [sizeLine_eq]; exact (by decide : 1 ≤ 16777216)) ?_)
    refine su_init (s := ⟨(hp.push (PySem.W.kdv_tup [v'])).push (PySem.HandSPX.excO C hp.objs.size), g, dr, tk, os⟩) T Fl (X1.keeps kp) (hgl.keeps kp) (hbl.keeps kp) hbs (hlim.keeps kp) hget hnx ?_ fun h' tk' d ⟨k', ⟨t1, hx⟩, dn, dne, hns⟩ => ?_
    · show X.A.depth + 1 < recursionLimit
      have := hr.dp
      omega
    refine ⟨rfl, ?_⟩
    show MkP X pins σ Q (.ref (hp.objs.size + 1)) ⟨h', g, dr, tk', os⟩
    have old0 : ∀ b o, hp.get? b = some o → h'.get? b = some o := fun b o e => k' b o (Nat.ne_of_lt (Nat.lt_succ_of_lt (Heap.lt_size e))) (kp b o e)
    have dbig : hp.objs.size ≤ d := by
      have z : hp.objs.size + 1 + 1 ≤ d := by
        first
          | (simpa only [Heap.size_push] using dn)
          | exact dn
          | (have q := dn; rw [Heap.size_push, Heap.size_push] at q; exact q)
      omega
    obtain ⟨G', g1, g2⟩ := restrict h' fun b => decide (b ≠ hp.objs.size + 1)
    have gk : ∀ b, b ≠ hp.objs.size + 1 → G'.get? b = h'.get? b := fun b hb => g1 b (decide_eq_true hb)
    have ge : G'.get? (hp.objs.size + 1) = none := g2 _ (by simp)
    have old : ∀ b o, hp.get? b = some o → G'.get? b = some o := fun b o q => (gk b (Nat.ne_of_lt (Nat.lt_succ_of_lt (Heap.lt_size q)))).trans (old0 b o q)
    have ob : ObjOk X.prog X.w (upd H1 d (.xd [(f, v)])) G' d (.xd [(f, v)]) :=
      ⟨_, hns.at (fun o q => (gk d dne).trans q), fun y => relO_fld rv y⟩
    have J : Inv X pins σ (upd H1 d (.xd [(f, v)])) ⟨G', g, dr, tk', os⟩ := I1.laid (t' := tk') old dbig ob
    refine ⟨hp.objs.size + 1, _, _, ⟨G', g, dr, tk', os⟩, _, .ref C, some d, rfl, J, fun b o q => ?_, ge, hx, ⟨rfl, rfl⟩, rfl, rfl, ?_, rfl, I1.bare, raises_own T.exC T.tyC, q1 d (I1.hok.fresh dbig)⟩
    · by_cases hb : b = hp.objs.size + 1
      · have q' : G'.get? b = some o := q
        rw [hb, ge] at q'; cases q'
      · exact (gk b hb).symm.trans q
    · rw [upd_ne (Ne.symm dne)]
      exact I1.hok.fresh (Nat.le_succ _)
end
/-! ### raise C(e) -/
def mRaise (c f : Str) (ms : AM) : SM := fun ρ => (ms ρ).st fun vs ρ => match vs with
  | [.d d] => .ex ⟨c, [(f, d)]⟩ ρ
  | _ => .bad
theorem ms_raise {X : Cx} {W : WX} {c f : Str} {C fI : Addr} {a : Expr} {ms : AM} {p pos pos2 : Pos} {k : Nat} (T : ExT X.prog X.K X.mg c f C fI) (Fl : Fld f) (hc : X.calm = true) (tk : Takes X W) (hr : Room k X.A) (ha : MA X W [a] ms) (hg : Gl X c)
    (hdb : (c == ("__debug__" : Str)) = false := by decide) (he : starEach (a :: []) X.env = (false, eval a X.env) :: starEach [] X.env := by rfl) (hpl : (backTo pos (starEach [] X.env)).any (·.1) = false := by rfl) :
    MS X W (.Raise (some (.Call (.Name c p) [a] [] pos)) none pos2) (mRaise c f ms) :=
  MS.weak (ps_raise hc tk (pmk_ex T Fl hr ha hg hdb he hpl)) fun {σ H D G F ρ} S g => subA S (Gd.st g fun vs ρ1 F1 H1 xs S1 e1 r1 k1 => by
    cases r1 with
    | nil => exact k1.elim
    | cons rv rr =>
      cases rr with
      | cons r2 r3 =>
        cases rv <;> exact k1.elim
      | nil =>
        cases rv with
        | o h => exact k1.elim
        | d rd =>
          rename_i x d
          refine ⟨_, rfl, fun a ha => ?_⟩
          have ex := Ext.new (u := HO.xd [(f, x)]) S1.fh ha
          have k2 : ∀ σ, Raised X.K X.mg W G F1 σ ⟨c, [(f, d)]⟩ ρ1 := k1
          exact k2 σ _ _ C a _ T.gC (S1.ext ex) ex.ff upd_same (.cons (rd.mono ex.ff) .nil))
end Mi
set_option Elab.async false
set_option linter.all false
set_option maxRecDepth 100000
set_option maxHeartbeats 2000000
/-! Mi, part K: try, what the suite asks of the caught error, isinstance. -/
namespace Mi
open PySem PySem.Spec PyProof.Rows L2 PySem.MiX
/-- the caught error: its address, its dict's, its class -/
structure Ck where
  a : Addr
  d : Addr
  c : Str
/-- behind the suite the clause's name goes -/
def goneS (i : Nat) (ρ : En) (k : En → SR) : SR := if canSet ρ i then k (ρ.set i .un) else .bad
def unslot (i : Nat) : SR → SR
  | .nx ρ => goneS i ρ .nx
  | .bk ρ => goneS i ρ .bk
  | .ct ρ => goneS i ρ .ct
  | .rt r ρ => goneS i ρ (.rt r)
  | .ex _ _ => .bad
  | .bad => .bad
def mSuite (i : Nat) (ms : Ck → SM) (k : Ck) (x : Xc) : SM := fun ρ => if canSet ρ i then unslot i (ms k (ρ.set i (.val (.exc k.a k.d x.c x.fs)))) else .bad
def mTry (cat : List (Str × Bool)) (i : Nat) (mb : SM) (ms : Ck → SM) : SM := fun ρ => match mb ρ with
  | .ex x ρ1 => (match cat.lookup x.c with
    | some true => mSuite i ms ⟨0, 0, x.c⟩ x ρ1
    | some false => .ex x ρ1
    | none => .bad)
  | r => r
abbrev W0F : WX := fun _ _ _ _ => False
section
variable {K : PySem.W.Frag} {mg : Str → Option Value} {W : WX} {F F' H H' : Hp} {G : Gh} {σ : St} {ρ : En}
theorem Sat.gone (S : Sat K mg G F H σ ρ) {i : Nat} (h : canSet ρ i = true) : Sat K mg G F H (σ.set i none) (ρ.set i .un) := by
  obtain ⟨hi, hio⟩ := canSet_ok h
  exact S.put hi hio (.inl rfl)
/-- the ends of a suite -/
abbrev gEnds (i : Nat) (D : Ends) : Ends := { nx := fun σ' H' => D.nx (σ'.set i none) H', rt := D.rt, bk := fun σ' H' => D.bk (σ'.set i none) H', ct := fun σ' H' => D.ct (σ'.set i none) H' }
theorem suite_fin {i : Nat} {r : SR} {D : Ends} (h : SGd K mg W G F (unslot i r) D) : SGd K mg W0F G F r (gEnds i D) := by
  cases r with
  | nx ρ =>
    intro F2 H2 σ2 S2 e2
    dsimp only [unslot, goneS] at h
    by_cases c : canSet ρ i = true
    · rw [if_pos c] at h
      exact h F2 H2 _ (S2.gone c) e2
    · rw [if_neg c] at h
      exact h.elim
  | bk ρ =>
    intro F2 H2 σ2 S2 e2
    dsimp only [unslot, goneS] at h
    by_cases c : canSet ρ i = true
    · rw [if_pos c] at h
      exact h F2 H2 _ (S2.gone c) e2
    · rw [if_neg c] at h
      exact h.elim
  | ct ρ =>
    intro F2 H2 σ2 S2 e2
    dsimp only [unslot, goneS] at h
    by_cases c : canSet ρ i = true
    · rw [if_pos c] at h
      exact h F2 H2 _ (S2.gone c) e2
    · rw [if_neg c] at h
      exact h.elim
  | rt v ρ =>
    intro F2 H2 σ2 x S2 e2 r2 n2
    dsimp only [unslot, goneS] at h
    by_cases c : canSet ρ i = true
    · rw [if_pos c] at h
      refine h F2 H2 _ x (S2.gone c) e2 r2 fun a ea ew j hj hs => ?_
      obtain ⟨ne, hj'⟩ := isOw_set hj rfl
      rw [List.getElem?_set_ne (Ne.symm ne)] at hs
      exact n2 a ea ew j hj' hs
    · rw [if_neg c] at h
      exact h.elim
  | ex _ _ => exact h.elim
  | bad => exact h.elim
end
section
variable {X : Cx} {W : WX}
/-- try: body / except x as n: suite -/
theorem ms_try {x n : Str} {cv : Value} {i : Nat} {cat : List (Str × Bool)} {body suite : List Stmt} {b₀ : Stmt} {np pos pos' : Pos} {mb : SM} {ms : Ck → SM} (hs : X.stack = X.env :: X.outer) (hf : X.env.frame = some X.env.locals) (hN : X.N.Nodup) (hi : X.N[i]? = some n)
    (hln : X.env.kindOf n = some .local) (hc : Names X x cv) (tk : Takes X W) (hcat : ∀ c b C, cat.lookup c = some b → X.mg c = some (.ref C) → PySem.W.exmOne X.K (.ref C) cv = some b) (hpar : ∀ k x ρ, x.c = k.c → mSuite i ms k x ρ = mSuite i ms ⟨0, 0, x.c⟩ x ρ)
    (hb : ∀ (W' : WX) (pn : List (Addr × Obj)) (xe : Value → Shared → Prop), Takes (X.tr pn xe) W' → PassesOwn (model X.prog X.w) X.A X.env xe → MSs (X.tr pn xe) W' body mb)
    (hsu : ∀ (k : Ck) (C : Addr) (oe : Obj) (pn : List (Addr × Obj)), X.mg k.c = some (.ref C) → Zc (.ref C) (some k.d) oe → (∃ vs, oe.data = .fields vs) → MSs (X.suite k.a ((k.a, oe) :: pn)) W0F (b₀ :: suite) (ms k)) :
    MS X W (.Try body [.ExceptHandler (some (.Name x np)) (some n) (b₀ :: suite) pos'] [] [] pos) (mTry cat i mb ms) := by
  refine MS.weak (ps_try_as (i := i) (tb := fun W' => tS X.K X.mg W' mb) (ts := fun a cls d D σ H => ∃ c dd C, cls = .ref C ∧ d = some dd ∧ X.mg c = some (.ref C) ∧ tS X.K X.mg W0F (ms ⟨a, dd, c⟩) D σ H) (Wout := W) hs hf hN hi hln hc tk hb ?_) ?_
  · intro a oe cls d pn hz hfv
    refine ⟨fun pins s σ H D I h => ?_⟩
    obtain ⟨c, dd, C, rfl, rfl, hm, h⟩ := h
    exact (hsu ⟨a, dd, c⟩ C oe pn hm hz hfv).run pins s σ H D I h
  · intro σ H D G F ρ S g
    refine ⟨G, F, ρ, S, ?_⟩
    unfold mTry at g
    cases q : mb ρ with
    | nx ρ1 => rw [q] at g; exact g
    | bk ρ1 => rw [q] at g; exact g
    | ct ρ1 => rw [q] at g; exact g
    | rt v ρ1 => rw [q] at g; exact g
    | bad => rw [q] at g; exact g
    | ex y ρ1 =>
      rw [q] at g
      dsimp only at g
      intro σ1 F1 H1 C d fs hC S1 e1 hd rf
      cases q2 : cat.lookup y.c with
      | none =>
        rw [q2] at g
        exact g.elim
      | some b =>
        rw [q2] at g
        refine ⟨b, hcat _ _ _ q2 hC, fun hb a ha => ?_, fun hb => ?_⟩
        · subst hb
          dsimp only at g
          have g2 : SGd X.K X.mg W G F (mSuite i ms ⟨a, d, y.c⟩ y ρ1) D := by
            rw [hpar ⟨a, d, y.c⟩ y ρ1 rfl]
            exact g
          unfold mSuite at g2
          by_cases c : canSet ρ1 i = true
          · rw [if_pos c] at g2
            obtain ⟨hi1, hio⟩ := canSet_ok c
            have S2 := S1.put (x := some (V.ref a)) (s := .val (.exc a d y.c y.fs)) hi1 hio (.inr ⟨_, rfl, Rp.exc hC hd rf⟩)
            exact ⟨y.c, d, C, rfl, rfl, hC, subS S2 (suite_fin (SGd.mono e1 g2))⟩
          · rw [if_neg c] at g2
            exact g2.elim
        · subst hb
          exact g σ1 F1 H1 C d fs hC S1 e1 hd rf
end

/-! ### caught.f -/
def fldD : List (Str × D) → Str → Option D
  | [], _ => none
  | (g, d) :: r, f => if f = g then some d else fldD r f
def mXf (tbl : List (Str × Str)) (k : Ck) (f : Str) (m : EM) : EM := fun ρ => (m ρ).bind fun v ρ => match v.fz.get ρ with
  | some (.exc a d c fs) => if a = k.a ∧ d = k.d ∧ c = k.c ∧ (tbl.contains (c, f)) = true then (match fldD fs f with
    | some y => .ok (.d y) ρ
    | none => .bad) else .bad
  | _ => .bad
section
variable {K : PySem.W.Frag} {mg : Str → Option Value} {W : WX} {F F' H H' : Hp} {G : Gh} {σ : St} {ρ : En}
theorem RpF.look : ∀ {fs : List (Str × V)} {ds : List (Str × D)} {f : Str} {y : D}, RpF K mg F fs ds → fldD ds f = some y → ∃ v, fs.lookup f = some v ∧ Rp K mg F v y
  | _, _, _, _, .nil, h => by cases h
  | _, _, f, y, .cons (k := g) (v := v) r t, h => by
    unfold fldD at h
    by_cases e : f = g
    · rw [if_pos e] at h
      cases h
      subst e
      exact ⟨v, by rw [List.lookup_cons, beq_self_eq_true], r⟩
    · rw [if_neg e] at h
      obtain ⟨w, h1, h2⟩ := RpF.look t h
      exact ⟨w, by rw [List.lookup_cons, show (f == g) = false by simpa using e]; exact h1, h2⟩
theorem RpI.exc {x : V} {a d : Addr} {c : Str} {fs : List (Str × D)} (h : RpI K mg F H x (.exc a d c fs)) : ∃ C vs, x = .ref a ∧ mg c = some (.ref C) ∧ F d = some (.xd vs) ∧ RpF K mg F vs fs := by
  generalize hd : D.exc a d c fs = y at h
  cases h with
  | fz r =>
    cases r with
    | exc h1 h2 h3 =>
      cases hd
      exact ⟨_, _, rfl, h1, h2, h3⟩
    | _ => cases hd
  | own o =>
    cases o with
    | _ => cases hd
end
section
variable {X : Cx}
/-- what the written part says of the classes and fields that suites read -/
structure XfT (K : PySem.W.Frag) (mg : Str → Option Value) (tbl : List (Str × Str)) : Prop where
  ok : ∀ c f C, tbl.contains (c, f) = true → mg c = some (.ref C) → XfC K C ∧ PySem.W.findIn K (.ref C) f = some none
theorem me_xf {tbl : List (Str × Str)} {k : Ck} {C : Addr} {oe : Obj} {pn : List (Addr × Obj)} {W : WX} {e : Expr} {m : EM} {f : Str} {pos : Pos} (T : XfT X.K X.mg tbl) (hm : X.mg k.c = some (.ref C)) (hz : Zc (.ref C) (some k.d) oe) (hf : ∃ vs, oe.data = .fields vs)
    (he : ME (X.suite k.a ((k.a, oe) :: pn)) W e m) (hb : attributeBase e f X.env (eval e X.env) = eval e X.env := by rfl) :
    ME (X.suite k.a ((k.a, oe) :: pn)) W (.Attribute e f pos) (mXf tbl k f m) := by
  rcases (Bool.eq_false_or_eq_true (tbl.contains (k.c, f))) with ht | ht
  · obtain ⟨t1, t2⟩ := T.ok k.c f C ht hm
    refine ME.weak (pe_xf t1 t2 hz hf he hb) fun {σ H Q G F ρ} S g => sub S (Gd.bind g fun v ρ1 F1 H1 x _ S1 e1 r1 k1 => ?_)
    cases q : v.fz.get ρ1 with
    | none =>
      rw [q] at k1
      exact k1.elim
    | some y =>
      rw [q] at k1
      cases y with
      | exc a d c fs =>
        dsimp only at k1
        by_cases hc : a = k.a ∧ d = k.d ∧ c = k.c ∧ tbl.contains (c, f) = true
        · rw [if_pos hc] at k1
          obtain ⟨rfl, rfl, rfl, _⟩ := hc
          cases q2 : fldD fs f with
          | none =>
            rw [q2] at k1
            exact k1.elim
          | some z =>
            rw [q2] at k1
            obtain ⟨F2, e2, S2, r2⟩ := S1.fz r1
            obtain ⟨C2, vs, rfl, h1, h2, h3⟩ := (S2.get r2 q).exc
            obtain ⟨y, h4, h5⟩ := h3.look q2
            exact ⟨rfl, rfl, _, _, y, rfl, S2.fh _ _ h2, h4, k1 F2 H1 y S2 e2 (.d h5)⟩
        · rw [if_neg hc] at k1
          exact k1.elim
      | _ => exact k1.elim
  · refine ⟨fun pins s σ H Q I ⟨G, F, ρ, S, g⟩ => attr_of hb (thn (he.run pins s σ H (fun _ _ => False) I (sub S (Gd.bind g fun v ρ1 F1 H1 x _ S1 e1 r1 k1 => ?_))) fun u s1 ⟨x, H1, I1, rx, q⟩ => q.elim)⟩
    cases q : v.fz.get ρ1 with
    | none =>
      rw [q] at k1
      exact k1.elim
    | some y =>
      rw [q] at k1
      cases y with
      | exc a d c fs =>
        dsimp only at k1
        by_cases hc : a = k.a ∧ d = k.d ∧ c = k.c ∧ tbl.contains (c, f) = true
        · obtain ⟨_, _, e3, e4⟩ := hc
          rw [e3, ht] at e4
          cases e4
        · rw [if_neg hc] at k1
          exact k1.elim
      | _ => exact k1.elim
end
end Mi
set_option Elab.async false
set_option linter.all false
set_option maxRecDepth 100000
set_option maxHeartbeats 2000000
/-! Mi, part L: isinstance. -/
namespace Mi
open PySem PySem.Spec PyProof.Rows L2 PySem.MiX
theorem kitAny_one {K : PySem.W.Frag} {t u : Value} {b : Bool} (h : PySem.W.kitAny K t [u] = some b) : PySem.W.kitOne K t u = some b := by
  unfold PySem.W.kitAny at h
  cases q : PySem.W.kitOne K t u with
  | none =>
    rw [q] at h
    cases h
  | some c =>
    rw [q] at h
    cases c with
    | true => exact h
    | false => exact h
/-- what isinstance asks of an own class of plain objects -/
structure ObC (K : PySem.W.Frag) (C : Addr) : Prop where
  cl : Cls K C
  ha : PySem.W.findIn K (.ref C) "__class__" = some (some (.builtin "object.__class__"))
  hn : PySem.W.specialIn K (.builtin "object.__class__") "__get__" = some (some (.builtin "getset_descriptor.__get__"))
  ht : PySem.W.takesIn K (.builtin "object.__class__") = some true
  hm : PySem.W.mroIn K C (.type "object") = some true
/-- a test of data by its kind -/
structure Tst where
  nn : Bool
  bb : Bool
  ii : Bool
  ss : Bool
  tt : Bool
  ll : Bool
  dd : Bool
  ob : List (Str × Bool)
def Tst.of (t : Tst) : D → Option Bool
  | .non => some t.nn
  | .bl _ => some t.bb
  | .int _ => some t.ii
  | .str _ => some t.ss
  | .tup _ => some t.tt
  | .lst _ => some t.ll
  | .frl _ => some t.ll
  | .dk _ => some t.dd
  | .dt _ => some t.dd
  | .obj c _ => t.ob.lookup c
  | .exc _ _ _ _ => none
  | .fn _ => none
structure TstOk (K : PySem.W.Frag) (mg : Str → Option Value) (us : List Value) (t : Tst) : Prop where
  nn : PySem.W.kitAny K (.type "NoneType") us = some t.nn
  bb : PySem.W.kitAny K (.type "bool") us = some t.bb
  ii : PySem.W.kitAny K (.type "int") us = some t.ii
  ss : PySem.W.kitAny K (.type "str") us = some t.ss
  tt : PySem.W.kitAny K (.type "tuple") us = some t.tt
  ll : PySem.W.kitAny K (.type "list") us = some t.ll
  dd : PySem.W.kitAny K (.type "dict") us = some t.dd
  ob : ∀ c b C, t.ob.lookup c = some b → mg c = some (.ref C) → ObC K C ∧ PySem.W.kitAny K (.ref C) us = some b
section
variable {K : PySem.W.Frag} {mg : Str → Option Value} {W : WX} {F F' H H' : Hp} {G : Gh} {σ : St} {ρ : En}
theorem TstOk.at {us : List Value} {t : Tst} (T : TstOk K mg us t) (e : Same F H) {x : V} {d : D} {b : Bool} (r : RpI K mg F H x d) (h : t.of d = some b) : ∃ ty, TyX K H x ty ∧ PySem.W.kitAny K ty us = some b := by
  cases r with
  | fz r =>
    cases r with
    | non => cases h; exact ⟨_, .base .non, T.nn⟩
    | bl _ => cases h; exact ⟨_, .base (.bl _), T.bb⟩
    | int _ => cases h; exact ⟨_, .base (.int _), T.ii⟩
    | str _ => cases h; exact ⟨_, .base (.str _), T.ss⟩
    | tup h1 _ =>
      cases h
      obtain ⟨o, h2, _⟩ := h1
      exact ⟨_, .fTuple (e _ _ h2), T.tt⟩
    | lst h1 _ => cases h; exact ⟨_, .base (.lst (e _ _ h1)), T.ll⟩
    | frl h1 _ =>
      cases h
      rcases h1 with (h1 | ⟨o, h1⟩) | ⟨o, its, n, h1, h2, _⟩
      · exact ⟨_, .base (.lst (e _ _ h1)), T.ll⟩
      · exact ⟨_, .base (.frz (e _ _ h1)), T.ll⟩
      · exact ⟨_, .kList h1 h2, T.ll⟩
    | dk h1 _ => cases h; exact ⟨_, .base (.dK (e _ _ h1)), T.dd⟩
    | dt h1 _ => cases h; exact ⟨_, .base (.dT (e _ _ h1)), T.dd⟩
    | obj h1 h2 _ =>
      obtain ⟨C, k⟩ := T.ob _ _ _ h h1
      exact ⟨_, .base (.ins (e _ _ h2) C.cl C.ha C.hn C.ht C.hm), k⟩
    | exc _ _ _ => cases h
    | fn _ => cases h
  | own o =>
    cases o with
    | lst h1 _ => cases h; exact ⟨_, .base (.lst h1), T.ll⟩
    | dk h1 _ => cases h; exact ⟨_, .base (.dK h1), T.dd⟩
    | dt h1 _ => cases h; exact ⟨_, .base (.dT h1), T.dd⟩
    | ins h1 h2 _ =>
      obtain ⟨C, k⟩ := T.ob _ _ _ h h1
      exact ⟨_, .base (.ins h2 C.cl C.ha C.hn C.ht C.hm), k⟩
end
def mIsi (t : Tst) (m : EM) : EM := fun ρ => (m ρ).bind fun v ρ => match v.fz.get ρ with
  | some d => (match t.of d with
    | some b => .ok (.d (.bl b)) ρ
    | none => .bad)
  | none => .bad
section
variable {X : Cx} {W : WX} {e ce : Expr} {ces : List Expr} {m : EM} {t : Tst} {p pos : Pos} {cv : V} {u : Value} {cvs : List V} {us : List Value}
/-- isinstance(e, C) -/
theorem me_isi (T : TstOk X.K X.mg [u] t) (hk : ClsV cv u) (he : ME X W e m) (hce : PE X ce (tC cv)) (hg : Gl X "isinstance") (hm : X.mg "isinstance" = none)
    (hs1 : starEach (ce :: []) X.env = (false, eval ce X.env) :: starEach [] X.env := by rfl) (hs : starEach (e :: ce :: []) X.env = (false, eval e X.env) :: starEach (ce :: []) X.env := by rfl) (hpl : (backTo pos (starEach [ce] X.env)).any (·.1) = false := by rfl) :
    ME X W (.Call (.Name "isinstance" p) [e, ce] [] pos) (mIsi t m) :=
  ME.weak (pe_callB call_isi hg hm (by first | boot_by_name | rfl | kernel_rfl) (pa_cons he (pa_cons hce pa_nil hs1) hs) (by decide) (by decide) hs hpl) fun {σ H Q G F ρ} S g => sub S (Gd.bind g fun v ρ1 F1 H1 x _ S1 e1 r1 k1 => by
    obtain ⟨F2, e2, S2, r2⟩ := S1.fz r1
    cases q : v.fz.get ρ1 with
    | none =>
      rw [q] at k1
      exact k1.elim
    | some d =>
      rw [q] at k1
      dsimp only at k1
      cases q2 : t.of d with
      | none =>
        rw [q2] at k1
        exact k1.elim
      | some b =>
        rw [q2] at k1
        obtain ⟨ty, h1, h2⟩ := T.at S2.fh (S2.get r2 q) q2
        exact ⟨x, cv, ty, u, b, rfl, hk, h1, kitAny_one h2, k1 F2 H1 _ S2 e2 (.d (.bl b))⟩)
/-- the values of written classes -/
def tVs : List V → TA
  | [] => tNil
  | v :: vs => tCons (tC v) (tVs vs)
theorem tVs_run {σ : St} {H : Hp} {Q : List V → Hp → Prop} : ∀ {vs : List V}, Q vs H → tVs vs σ H Q := fun {vs} h => by
  induction vs generalizing Q with
  | nil => exact h
  | cons v vs ih => exact ih (Q := fun xs H2 => Q (v :: xs) H2) h
/-- isinstance(e, (C, ..)) -/
theorem me_isiT {x1} {tpos : Pos} (T : TstOk X.K X.mg us t) (hk : Paired ClsV cvs us) (hl : cvs.length ≤ BIG) (he : ME X W e m) (hce : PA X ces (tVs cvs)) (hg : Gl X "isinstance") (hm : X.mg "isinstance" = none)
    (hs1 : starEach (.Tuple ces x1 tpos :: []) X.env = (false, eval (.Tuple ces x1 tpos) X.env) :: starEach [] X.env := by rfl) (hs : starEach (e :: .Tuple ces x1 tpos :: []) X.env = (false, eval e X.env) :: starEach (.Tuple ces x1 tpos :: []) X.env := by rfl)
    (hpl : (backTo pos (starEach [.Tuple ces x1 tpos] X.env)).any (·.1) = false := by rfl) :
    ME X W (.Call (.Name "isinstance" p) [e, .Tuple ces x1 tpos] [] pos) (mIsi t m) :=
  ME.weak (pe_callB call_isiT hg hm (by first | boot_by_name | rfl | kernel_rfl) (pa_cons he (pa_cons (pe_tup hce) pa_nil hs1) hs) (by decide) (by decide) hs hpl) fun {σ H Q G F ρ} S g => sub S (Gd.bind g fun v ρ1 F1 H1 x _ S1 e1 r1 k1 => by
    obtain ⟨F2, e2, S2, r2⟩ := S1.fz r1
    cases q : v.fz.get ρ1 with
    | none =>
      rw [q] at k1
      exact k1.elim
    | some d =>
      rw [q] at k1
      dsimp only at k1
      cases q2 : t.of d with
      | none =>
        rw [q2] at k1
        exact k1.elim
      | some b =>
        rw [q2] at k1
        refine tVs_run ⟨Nat.le_trans hl BIG_le, fun tp htp => ?_⟩
        have ex := Ext.new (u := HO.tup cvs) S2.fh htp
        have S3 := S2.ext ex
        obtain ⟨ty, h1, h2⟩ := T.at S3.fh (S3.get (r2.mono ex.ff) q) q2
        exact ⟨x, tp, cvs, ty, us, b, rfl, upd_same, hk, h1, h2, k1 _ _ _ S3 (e2.trans ex.ff) (.d (.bl b))⟩)
end

/-! ### isinstance(caught, ..) -/
def mIsE (tbl : List (Str × Bool)) (k : Ck) (m : EM) : EM := fun ρ => (m ρ).bind fun v ρ => match v.fz.get ρ with
  | some (.exc a d c fs) => if a = k.a ∧ d = k.d ∧ c = k.c then (match tbl.lookup c with
    | some b => .ok (.d (.bl b)) ρ
    | none => .bad) else .bad
  | _ => .bad
/-- what isinstance asks of an own error's class -/
structure ExC (K : PySem.W.Frag) (D : Addr) : Prop where
  hc : (PySem.W.clsIn K D).isSome = true
  hg : PySem.W.findIn K (.ref D) "__getattribute__" = some (some (.builtin "BaseException.__getattribute__"))
  hk : PySem.W.findIn K (.ref D) "__getattr__" = some none
  hs : PySem.W.subIn K (.ref D) (.type "BaseException") = some true
  ha : PySem.W.findIn K (.ref D) "__class__" = some (some (.builtin "object.__class__"))
  hn : PySem.W.specialIn K (.builtin "object.__class__") "__get__" = some (some (.builtin "getset_descriptor.__get__"))
  ht : PySem.W.takesIn K (.builtin "object.__class__") = some true
  hm : PySem.W.mroIn K D (.type "object") = some true
def rIsX (K : PySem.W.Frag) (D a d : Addr) : List V → Hp → VK → Prop := fun xs H Q => ∃ (fs : List (Str × V)) (b : Bool), H d = some (.xd fs) ∧
  ((∃ (c : V) (u : Value), xs = [.ref a, c] ∧ ClsV c u ∧ PySem.W.kitOne K (.ref D) u = some b) ∨ ∃ (tp : Addr) (cs : List V) (us : List Value), xs = [.ref a, .ref tp] ∧ H tp = some (.tup cs) ∧ Paired ClsV cs us ∧ PySem.W.kitAny K (.ref D) us = some b) ∧ Q (.bl b) H
theorem call_isX {X : Cx} {a D d : Addr} {oe : Obj} {pn : List (Addr × Obj)} (C : ExC X.K D) (hz : Zc (.ref D) (some d) oe) (hf : ∃ vs, oe.data = .fields vs) : CallR (X.suite a ((a, oe) :: pn)) (.builtin "isinstance") (rIsX X.K D a d) := by
  intro pins s σ H xs us Q I r h
  obtain ⟨fs, b, hd, h, q⟩ := h
  obtain ⟨hget, _⟩ := I.pin (a, oe) (List.mem_append.mpr (.inl List.mem_cons_self))
  obtain ⟨vs, hv⟩ := hf
  have hx : ObjOk X.prog X.w H s.heap d (.xd fs) := I.hok d _ hd
  obtain ⟨mA, hns, _⟩ := hx
  obtain ⟨od, ho, _⟩ := lookIn_ns hns
  have J : PySem.W.InstAt s.heap a oe D (some od) := ⟨hget, hz.1, by unfold PySem.W.notCls; rw [hv] <;> rfl, by rw [hz.2]; exact ho⟩
  rcases h with ⟨c, u, rfl, k, e⟩ | ⟨tp, cs, ws, rfl, hT, k, e⟩
  · obtain ⟨u1, u2, rfl, r1, r2⟩ := vals2 r
    have e2 := k.eq r2
    subst e2
    cases (show u1 = Value.ref a from r1)
    exact PySem.W.kia_one (PySem.W.kitx_exc C.hc C.hg C.hk C.hs C.ha C.hn C.ht C.hm) I.kIn J e (fun z => nomatch z) fun tk => ⟨.bl b, H, I.tok tk, rfl, q⟩
  · obtain ⟨u1, u2, rfl, r1, r2⟩ := vals2 r
    cases (show u2 = Value.ref tp from r2)
    cases (show u1 = Value.ref a from r1)
    obtain ⟨_, its, rv, o, h1, h2, n, h3⟩ := (show ObjOk X.prog X.w H s.heap tp (.tup cs) from I.hok tp _ hT)
    have e3 := ClsV.all k rv
    subst e3
    obtain ⟨oc, od', dt, sl⟩ := o
    simp only at h2 h3
    subst h2 h3
    exact PySem.W.kia_tup (PySem.W.kitx_exc C.hc C.hg C.hk C.hs C.ha C.hn C.ht C.hm) I.kIn J h1 e (fun z => nomatch z) fun tk => ⟨.bl b, H, I.tok tk, rfl, q⟩
section
variable {X : Cx} {W : WX} {e ce : Expr} {ces : List Expr} {m : EM} {p pos : Pos} {cv : V} {u : Value} {cvs : List V} {us : List Value} {k : Ck} {C : Addr} {oe : Obj} {pn : List (Addr × Obj)} {tbl : List (Str × Bool)}
/-- what the written part says of the classes that may be caught here -/
structure IsT (K : PySem.W.Frag) (mg : Str → Option Value) (tbl : List (Str × Bool)) (us : List Value) : Prop where
  ok : ∀ c b C, tbl.lookup c = some b → mg c = some (.ref C) → ExC K C ∧ PySem.W.kitAny K (.ref C) us = some b
theorem isE_fin {G : Gh} {F H : Hp} {σ : St} {ρ : En} {Q : VK} {Q' : V → Hp → Prop} (S : Sat X.K X.mg G F H σ ρ) (g : Gd X.K X.mg W (RpO X.K X.mg) G F σ (mIsE tbl k m ρ) Q)
    (kk : ∀ F1 H1 ρ1 b, tbl.lookup k.c = some b → Sat X.K X.mg G F1 H1 σ ρ1 → (∃ vs, H1 k.d = some (.xd vs)) → (∀ F2 H2, Ext F1 H1 F2 H2 → Q (.bl b) H2) → Q' (.ref k.a) H1) :
    Gd X.K X.mg W (RpO X.K X.mg) G F σ (m ρ) Q' := by
  have g' : Gd X.K X.mg W (RpO X.K X.mg) G F σ ((m ρ).bind fun v ρ => match v.fz.get ρ with
    | some (.exc a d c fs) => if a = k.a ∧ d = k.d ∧ c = k.c then (match tbl.lookup c with
      | some b => .ok (OV.d (.bl b)) ρ
      | none => .bad) else .bad
    | _ => .bad) Q := g
  refine Gd.bind g' fun v ρ1 F1 H1 x _ S1 e1 r1 k1 => ?_
  obtain ⟨F2, e2, S2, r2⟩ := S1.fz r1
  cases q : v.fz.get ρ1 with
  | none =>
    rw [q] at k1
    exact k1.elim
  | some y =>
    rw [q] at k1
    cases y with
    | exc a d c fs =>
      dsimp only at k1
      by_cases hc : a = k.a ∧ d = k.d ∧ c = k.c
      · rw [if_pos hc] at k1
        obtain ⟨rfl, rfl, rfl⟩ := hc
        cases q2 : tbl.lookup k.c with
        | none =>
          rw [q2] at k1
          exact k1.elim
        | some b =>
          rw [q2] at k1
          obtain ⟨C2, vs, rfl, h1, h2, h3⟩ := (S2.get r2 q).exc
          exact kk F2 H1 ρ1 b q2 S2 ⟨vs, S2.fh _ _ h2⟩ fun F3 H3 ex => k1 F3 H3 _ (S2.ext ex) (e2.trans ex.ff) (.d (.bl b))
      · rw [if_neg hc] at k1
        exact k1.elim
    | _ => exact k1.elim
theorem call_no {Y : Cx} {f : Value} : CallR Y f (fun _ _ _ => False) := fun _ _ _ _ _ _ _ _ _ h => h.elim
theorem me_isE (T : IsT X.K X.mg tbl [u]) (hm : X.mg k.c = some (.ref C)) (hz : Zc (.ref C) (some k.d) oe) (hf : ∃ vs, oe.data = .fields vs) (hk : ClsV cv u) (he : ME (X.suite k.a ((k.a, oe) :: pn)) W e m) (hce : PE (X.suite k.a ((k.a, oe) :: pn)) ce (tC cv))
    (hg : Gl X "isinstance") (hmi : X.mg "isinstance" = none)
    (hs1 : starEach (ce :: []) X.env = (false, eval ce X.env) :: starEach [] X.env := by rfl) (hs : starEach (e :: ce :: []) X.env = (false, eval e X.env) :: starEach (ce :: []) X.env := by rfl) (hpl : (backTo pos (starEach [ce] X.env)).any (·.1) = false := by rfl) :
    ME (X.suite k.a ((k.a, oe) :: pn)) W (.Call (.Name "isinstance" p) [e, ce] [] pos) (mIsE tbl k m) := by
  cases q0 : tbl.lookup k.c with
  | none =>
    refine ME.weak (pe_callB (X := X.suite k.a ((k.a, oe) :: pn)) call_no hg hmi (by first | boot_by_name | rfl | kernel_rfl) (pa_cons he (pa_cons hce pa_nil hs1) hs) (by decide) (by decide) hs hpl) fun {σ H Q G F ρ} S g => sub S (isE_fin (X := X) S g fun F1 H1 ρ1 b h => by rw [q0] at h; cases h)
  | some b0 =>
    obtain ⟨t1, t2⟩ := T.ok _ _ _ q0 hm
    refine ME.weak (pe_callB (X := X.suite k.a ((k.a, oe) :: pn)) (call_isX t1 hz hf) hg hmi (by first | boot_by_name | rfl | kernel_rfl) (pa_cons he (pa_cons hce pa_nil hs1) hs) (by decide) (by decide) hs hpl) fun {σ H Q G F ρ} S g => sub S (isE_fin (X := X) S g fun F1 H1 ρ1 b h S1 ⟨vs, hd⟩ kq => ?_)
    rw [q0] at h
    cases h
    exact ⟨vs, _, hd, .inl ⟨cv, u, rfl, hk, kitAny_one t2⟩, kq F1 H1 (Ext.refl S1.fh)⟩
theorem me_isET {x1} {tpos : Pos} (T : IsT X.K X.mg tbl us) (hm : X.mg k.c = some (.ref C)) (hz : Zc (.ref C) (some k.d) oe) (hf : ∃ vs, oe.data = .fields vs) (hk : Paired ClsV cvs us) (hl : cvs.length ≤ BIG) (he : ME (X.suite k.a ((k.a, oe) :: pn)) W e m)
    (hce : PA (X.suite k.a ((k.a, oe) :: pn)) ces (tVs cvs)) (hg : Gl X "isinstance") (hmi : X.mg "isinstance" = none)
    (hs1 : starEach (.Tuple ces x1 tpos :: []) X.env = (false, eval (.Tuple ces x1 tpos) X.env) :: starEach [] X.env := by rfl) (hs : starEach (e :: .Tuple ces x1 tpos :: []) X.env = (false, eval e X.env) :: starEach (.Tuple ces x1 tpos :: []) X.env := by rfl)
    (hpl : (backTo pos (starEach [.Tuple ces x1 tpos] X.env)).any (·.1) = false := by rfl) :
    ME (X.suite k.a ((k.a, oe) :: pn)) W (.Call (.Name "isinstance" p) [e, .Tuple ces x1 tpos] [] pos) (mIsE tbl k m) := by
  cases q0 : tbl.lookup k.c with
  | none =>
    refine ME.weak (pe_callB (X := X.suite k.a ((k.a, oe) :: pn)) call_no hg hmi (by first | boot_by_name | rfl | kernel_rfl) (pa_cons he (pa_cons (pe_tup hce) pa_nil hs1) hs) (by decide) (by decide) hs hpl) fun {σ H Q G F ρ} S g => sub S (isE_fin (X := X) S g fun F1 H1 ρ1 b h => by rw [q0] at h; cases h)
  | some b0 =>
    obtain ⟨t1, t2⟩ := T.ok _ _ _ q0 hm
    refine ME.weak (pe_callB (X := X.suite k.a ((k.a, oe) :: pn)) (call_isX t1 hz hf) hg hmi (by first | boot_by_name | rfl | kernel_rfl) (pa_cons he (pa_cons (pe_tup hce) pa_nil hs1) hs) (by decide) (by decide) hs hpl) fun {σ H Q G F ρ} S g => sub S (isE_fin (X := X) S g fun F1 H1 ρ1 b h S1 ⟨vs, hd⟩ kq => ?_)
    rw [q0] at h
    cases h
    refine tVs_run ⟨Nat.le_trans hl BIG_le, fun tp htp => ?_⟩
    have ex := Ext.new (u := HO.tup cvs) S1.fh htp
    exact ⟨vs, _, ex.hh _ _ hd, .inr ⟨tp, cvs, us, rfl, upd_same, hk, t2⟩, kq _ _ ex⟩
end
end Mi
set_option Elab.async false
set_option linter.all false
set_option maxRecDepth 100000
set_option maxHeartbeats 2000000
/-! Mi, part M: built-in functions, slices, chains, index. -/
namespace Mi
open PySem PySem.Spec PyProof.Rows L2 PySem.MiX
/-- the items of a sequence -/
def seqD : D → Option (List D)
  | .tup xs => some xs
  | .lst xs => some xs
  | .frl xs => some xs
  | _ => none
def intsD : List D → Option (List Int)
  | [] => some []
  | .int i :: r => (intsD r).map (i :: ·)
  | _ => none
def blsD : List D → Option (List Bool)
  | [] => some []
  | .bl i :: r => (blsD r).map (i :: ·)
  | _ => none
theorem intsD_eq : ∀ {ds : List D} {ns : List Int}, intsD ds = some ns → ds = ns.map D.int
  | [], _, h => by cases h; rfl
  | .int i :: r, ns, h => by
    unfold intsD at h
    obtain ⟨ms, h1, rfl⟩ := Option.map_eq_some_iff.mp h
    rw [intsD_eq h1]
    rfl
  | .non :: _, _, h => by cases h
  | .bl _ :: _, _, h => by cases h
  | .str _ :: _, _, h => by cases h
  | .tup _ :: _, _, h => by cases h
  | .lst _ :: _, _, h => by cases h
  | .frl _ :: _, _, h => by cases h
  | .dk _ :: _, _, h => by cases h
  | .dt _ :: _, _, h => by cases h
  | .obj _ _ :: _, _, h => by cases h
  | .exc _ _ _ _ :: _, _, h => by cases h
  | .fn _ :: _, _, h => by cases h
theorem blsD_eq : ∀ {ds : List D} {ns : List Bool}, blsD ds = some ns → ds = ns.map D.bl
  | [], _, h => by cases h; rfl
  | .bl i :: r, ns, h => by
    unfold blsD at h
    obtain ⟨ms, h1, rfl⟩ := Option.map_eq_some_iff.mp h
    rw [blsD_eq h1]
    rfl
  | .non :: _, _, h => by cases h
  | .int _ :: _, _, h => by cases h
  | .str _ :: _, _, h => by cases h
  | .tup _ :: _, _, h => by cases h
  | .lst _ :: _, _, h => by cases h
  | .frl _ :: _, _, h => by cases h
  | .dk _ :: _, _, h => by cases h
  | .dt _ :: _, _, h => by cases h
  | .obj _ _ :: _, _, h => by cases h
  | .exc _ _ _ _ :: _, _, h => by cases h
  | .fn _ :: _, _, h => by cases h
section
variable {K : PySem.W.Frag} {mg : Str → Option Value} {W : WX} {F F' H H' : Hp} {G : Gh} {σ : St} {ρ : En}
theorem RpI.seq {x : V} {d : D} {ds : List D} (e : Same F H) (h : RpI K mg F H x d) (hd : seqD d = some ds) : ∃ a vs, x = .ref a ∧ RpA K mg F vs ds ∧ ((SqL K H a vs ∧ ∀ xs, d ≠ .tup xs) ∨ (FT F a vs ∧ d = .tup ds)) := by
  cases h with
  | fz r =>
    cases r with
    | tup h1 r => cases hd; exact ⟨_, _, rfl, r, .inr ⟨h1, rfl⟩⟩
    | lst h1 r => cases hd; exact ⟨_, _, rfl, r, .inl ⟨.of (e _ _ h1), fun _ z => nomatch z⟩⟩
    | frl h1 r => cases hd; exact ⟨_, _, rfl, r, .inl ⟨e.seq h1, fun _ z => nomatch z⟩⟩
    | _ => cases hd
  | own o =>
    cases o with
    | lst h1 r => cases hd; exact ⟨_, _, rfl, r, .inl ⟨.of h1, fun _ z => nomatch z⟩⟩
    | _ => cases hd
theorem RpI.dk {x : V} {ds : List (Key × D)} (e : Same F H) (h : RpI K mg F H x (.dk ds)) : ∃ a vs, x = .ref a ∧ H a = some (.dK vs) ∧ RpK K mg F vs ds := by
  generalize hd : D.dk ds = d at h
  cases h with
  | fz r =>
    cases r with
    | dk h r =>
      cases hd
      exact ⟨_, _, rfl, e _ _ h, r⟩
    | _ => cases hd
  | own o =>
    cases o with
    | dk h r =>
      cases hd
      exact ⟨_, _, rfl, h, r⟩
    | _ => cases hd
theorem RpI.dt {x : V} {ds : List (List Key × D)} (e : Same F H) (h : RpI K mg F H x (.dt ds)) : ∃ a vs, x = .ref a ∧ H a = some (.dT vs) ∧ RpT K mg F vs ds := by
  generalize hd : D.dt ds = d at h
  cases h with
  | fz r =>
    cases r with
    | dt h r =>
      cases hd
      exact ⟨_, _, rfl, e _ _ h, r⟩
    | _ => cases hd
  | own o =>
    cases o with
    | dt h r =>
      cases hd
      exact ⟨_, _, rfl, h, r⟩
    | _ => cases hd
theorem RpIs.one {xs : List V} {ds : List D} {d : D} (h : RpIs K mg F H xs ds) (e : ds = [d]) : ∃ x, xs = [x] ∧ RpI K mg F H x d := by
  subst e
  cases h with
  | cons r t =>
    cases t
    exact ⟨_, rfl, r⟩
def g1 (f : D → Option D) : List D → Option D
  | [d] => f d
  | _ => none
def g1n (f : D → Option Ow) : List D → Option Ow
  | [d] => f d
  | _ => none
theorem g1_some {f : D → Option D} {ds : List D} {z : D} (h : g1 f ds = some z) : ∃ d, ds = [d] ∧ f d = some z := by
  match ds, h with
  | [d], h => exact ⟨d, rfl, h⟩
theorem g1n_some {f : D → Option Ow} {ds : List D} {z : Ow} (h : g1n f ds = some z) : ∃ d, ds = [d] ∧ f d = some z := by
  match ds, h with
  | [d], h => exact ⟨d, rfl, h⟩
/-- len -/
def dLen : D → Option D
  | .tup xs => some (.int xs.length)
  | .lst xs => some (.int xs.length)
  | .frl xs => some (.int xs.length)
  | .str x => if x.length ≤ BIG then some (.int x.length) else none
  | .dk kvs => some (.int kvs.length)
  | .dt kvs => some (.int kvs.length)
  | _ => none
abbrev rLenA (K : PySem.W.Frag) : List V → Hp → VK → Prop := fun xs H Q => (∃ x n, xs = [x] ∧ LenV K x H n ∧ Q (.int n) H) ∨ ((∃ a kvs, xs = [V.ref a] ∧ H a = some (.dK kvs) ∧ Q (.int kvs.length) H) ∨ rLenT xs H Q)
theorem call_lenA {X : Cx} : CallR X (.builtin "len") (rLenA X.K) := call_len.or (call_lenD.or call_len_dT)
theorem RpT.len : ∀ {vs : List (List Key × V)} {ds : List (List Key × D)}, RpT K mg F vs ds → vs.length = ds.length
  | _, _, .nil => rfl
  | _, _, .cons _ t => congrArg Nat.succ (RpT.len t)
theorem o_len : OpN K mg (rLenA K) (g1 dLen) := fun {F H xs ds z Q} hs r0 h q => by
  obtain ⟨d, e0, h⟩ := g1_some h
  obtain ⟨x, rfl, r⟩ := r0.one e0
  have sq : ∀ ys, seqD d = some ys → z = .int ys.length → rLenA K [x] H Q := fun ys h1 h2 => by
    obtain ⟨a, vs, rfl, ra, hq⟩ := r.seq hs h1
    subst h2
    refine .inl ⟨_, vs.length, rfl, ?_, by rw [ra.len]; exact q F H _ (.refl hs) (.int _)⟩
    rcases hq with ⟨hq, _⟩ | ⟨hq, _⟩
    · exact .inl ⟨vs, hq, rfl⟩
    · exact .inr ⟨vs, (hq.mono hs).seq, rfl⟩
  cases d with
  | tup ys => exact sq ys rfl (by cases h; rfl)
  | lst ys => exact sq ys rfl (by cases h; rfl)
  | frl ys => exact sq ys rfl (by cases h; rfl)
  | str y =>
    obtain ⟨c, rfl⟩ := if_some h
    rw [r.str]
    exact .inl ⟨_, y.length, rfl, ⟨Nat.le_trans c BIG_le, rfl⟩, q F H _ (.refl hs) (.int _)⟩
  | dk kvs =>
    cases h
    obtain ⟨a, vs, rfl, h1, h2⟩ := r.dk hs
    exact .inr (.inl ⟨_, _, rfl, h1, by rw [h2.len]; exact q F H _ (.refl hs) (.int _)⟩)
  | dt kvs =>
    cases h
    obtain ⟨a, vs, rfl, h1, h2⟩ := r.dt hs
    exact .inr (.inr ⟨_, _, rfl, h1, by rw [h2.len]; exact q F H _ (.refl hs) (.int _)⟩)
  | _ => cases h
/-- sum, all, any of lists (of ints; of bools) -/
def lsD : D → Option (List D)
  | .lst xs => some xs
  | .frl xs => some xs
  | _ => none
def dSum (d : D) : Option D := (lsD d).bind fun ds => (intsD ds).map fun ns => .int ns.sum
def dAll (d : D) : Option D := (lsD d).bind fun ds => (blsD ds).map fun bs => .bl (bs.all id)
def dAny (d : D) : Option D := (lsD d).bind fun ds => (blsD ds).map fun bs => .bl (bs.any id)
theorem RpI.ls {x : V} {d : D} {ds : List D} (e : Same F H) (h : RpI K mg F H x d) (hd : lsD d = some ds) : ∃ a vs, x = .ref a ∧ RpA K mg F vs ds ∧ SqL K H a vs := by
  have hd' : seqD d = some ds := by
    cases d <;> first | exact hd | cases hd
  obtain ⟨a, vs, e1, r, h1 | ⟨_, h2⟩⟩ := h.seq e hd'
  · exact ⟨a, vs, e1, r, h1.1⟩
  · subst h2
    cases hd
theorem o_sum : OpN K mg (rSum K) (g1 dSum) := fun {F H xs ds z Q} hs r0 h q => by
  obtain ⟨d, e0, h⟩ := g1_some h
  obtain ⟨x, rfl, r⟩ := r0.one e0
  obtain ⟨ys, h1, h2⟩ := Option.bind_eq_some_iff.mp h
  obtain ⟨ns, h3, rfl⟩ := Option.map_eq_some_iff.mp h2
  obtain ⟨a, vs, rfl, ra, hq⟩ := r.ls hs h1
  rw [intsD_eq h3] at ra
  rw [ra.to_ints] at hq
  exact ⟨a, ns, rfl, hq, q F H _ (.refl hs) (.int _)⟩
theorem o_all : OpN K mg (rAll K) (g1 dAll) := fun {F H xs ds z Q} hs r0 h q => by
  obtain ⟨d, e0, h⟩ := g1_some h
  obtain ⟨x, rfl, r⟩ := r0.one e0
  obtain ⟨ys, h1, h2⟩ := Option.bind_eq_some_iff.mp h
  obtain ⟨ns, h3, rfl⟩ := Option.map_eq_some_iff.mp h2
  obtain ⟨a, vs, rfl, ra, hq⟩ := r.ls hs h1
  rw [blsD_eq h3] at ra
  rw [ra.to_bls] at hq
  exact ⟨a, ns, rfl, hq, q F H _ (.refl hs) (.bl _)⟩
theorem o_any : OpN K mg (rAny K) (g1 dAny) := fun {F H xs ds z Q} hs r0 h q => by
  obtain ⟨d, e0, h⟩ := g1_some h
  obtain ⟨x, rfl, r⟩ := r0.one e0
  obtain ⟨ys, h1, h2⟩ := Option.bind_eq_some_iff.mp h
  obtain ⟨ns, h3, rfl⟩ := Option.map_eq_some_iff.mp h2
  obtain ⟨a, vs, rfl, ra, hq⟩ := r.ls hs h1
  rw [blsD_eq h3] at ra
  rw [ra.to_bls] at hq
  exact ⟨a, ns, rfl, hq, q F H _ (.refl hs) (.bl _)⟩
/-- int, abs, str -/
def dInt : D → Option D
  | .int i => some (.int i)
  | .bl b => some (.int (if b then 1 else 0))
  | _ => none
def dAbs : D → Option D
  | .int i => some (.int (if i < 0 then -i else i))
  | _ => none
def dStr : D → Option D
  | .int i => if i.natAbs.log2 < 1920 then some (.str (toString i)) else none
  | _ => none
theorem o_int : OpN K mg (fun xs H Q => (∃ i, xs = [.int i] ∧ Q (.int i) H) ∨ ∃ k, xs = [.bl k] ∧ Q (.int (if k then 1 else 0)) H) (g1 dInt) := fun {F H xs ds z Q} hs r0 h q => by
  obtain ⟨d, e0, h⟩ := g1_some h
  obtain ⟨x, rfl, r⟩ := r0.one e0
  cases d with
  | int i => cases h; rw [r.int]; exact .inl ⟨i, rfl, q F H _ (.refl hs) (.int _)⟩
  | bl b => cases h; rw [r.bl]; exact .inr ⟨b, rfl, q F H _ (.refl hs) (.int _)⟩
  | _ => cases h
theorem o_abs : OpN K mg (fun xs H Q => ∃ i, xs = [.int i] ∧ Q (.int (if i < 0 then -i else i)) H) (g1 dAbs) := fun {F H xs ds z Q} hs r0 h q => by
  obtain ⟨d, e0, h⟩ := g1_some h
  obtain ⟨x, rfl, r⟩ := r0.one e0
  cases d with
  | int i => cases h; rw [r.int]; exact ⟨i, rfl, q F H _ (.refl hs) (.int _)⟩
  | _ => cases h
theorem o_str : OpN K mg (fun xs H Q => ∃ i, xs = [.int i] ∧ i.natAbs.log2 < 1920 ∧ Q (.str (toString i)) H) (g1 dStr) := fun {F H xs ds z Q} hs r0 h q => by
  obtain ⟨d, e0, h⟩ := g1_some h
  obtain ⟨x, rfl, r⟩ := r0.one e0
  cases d with
  | int i =>
    obtain ⟨c, rfl⟩ := if_some h
    rw [r.int]
    exact ⟨i, rfl, c, q F H _ (.refl hs) (.str _)⟩
  | _ => cases h
/-- tuple(x): a tuple, or a list's items -/
def dTupOf : D → Option D
  | .tup xs => some (.tup xs)
  | .lst xs => some (.tup xs)
  | .frl xs => some (.tup xs)
  | _ => none
theorem o_tupOf : OpN K mg (rTupOf K) (g1 dTupOf) := fun {F H xs ds z Q} hs r0 h q => by
  obtain ⟨d, e0, h⟩ := g1_some h
  obtain ⟨x, rfl, r⟩ := r0.one e0
  obtain ⟨ys, hd, rfl⟩ : ∃ ys, seqD d = some ys ∧ z = .tup ys := by
    cases d <;> first | (cases h; exact ⟨_, rfl, rfl⟩) | cases h
  obtain ⟨a, vs, rfl, ra, hq⟩ := r.seq hs hd
  rcases hq with ⟨hq, _⟩ | ⟨hq, _⟩
  · refine ⟨a, vs, rfl, .inl ⟨hq, fun p o hp hd => ?_⟩⟩
    have e := Ext.new (u := HO.frz o (.tup vs)) hs hp
    exact q _ _ _ e (.tup ⟨o, upd_same, hd⟩ (ra.mono e.ff))
  · exact ⟨a, vs, rfl, .inr ⟨(hq.mono hs).seq, q F H _ (.refl hs) (.tup hq ra)⟩⟩
/-- list(x) -/
def dListOf (d : D) : Option Ow := (seqD d).map Ow.lst
theorem o_listOf : OpNn K mg (fun xs H Q => ∃ p ys, xs = [.ref p] ∧ (SqL K H p ys ∨ SqT K H p ys) ∧ ∀ l, H l = none → Q (.ref l) (upd H l (.lst ys))) (g1n dListOf) := fun {F H xs ds z Q} hs r0 h q => by
  obtain ⟨d, e0, h⟩ := g1n_some h
  obtain ⟨x, rfl, r⟩ := r0.one e0
  obtain ⟨ys, hd, rfl⟩ := Option.map_eq_some_iff.mp h
  obtain ⟨a, vs, rfl, ra, hq⟩ := r.seq hs hd
  refine ⟨a, vs, rfl, ?_, fun l hl => q l _ hl (.lst upd_same ra)⟩
  rcases hq with ⟨hq, _⟩ | ⟨hq, _⟩
  · exact .inl hq
  · exact .inr (hq.mono hs).seq
end
end Mi
set_option Elab.async false
set_option linter.all false
set_option maxRecDepth 100000
set_option maxHeartbeats 2000000
/-! Mi, part N: sorted of ints (a list, a tuple). -/
namespace MiS
open PySem PyProof.Rows Srt SrtO
section
variable {prog : Program} {w : World} {A : Around} {E : Value → Shared → Prop} {s : Shared}
theorem collect_tup {l : Addr} {vs : List Value} {o : Obj} {n : Nat} {Q : List Value → Shared → Prop} (ho : s.heap.get? l = some o) (hc : o.cls = .type "tuple") (hd : o.data = .seq vs.toArray n)
    (h : Q vs { s with heap := (s.heap.push (seqObj "list" #[] 0)).update s.heap.objs.size (Obj.mapSeq (· ++ vs.toArray)) }) (hsz : vs.length ≤ sizeLine) :
    wpAny (model prog w) A (collect (.ref l)) Q E s := by
  unfold collect
  refine wpAny_bind (wpAny_runValue (codeAny_builtin entry_proto_collect' ?_))
  show wpAny _ _ (do again (.builtin "list.__iadd__" ⟨[← newList [], .ref l], []⟩)) _ _ s
  refine wpAny_bind (wpAny_newList (wpAny_pure ⟨Code.quiet_builtin _ (by decide +kernel), codeAny_builtin entry_list_iadd' ?_⟩))
  show wpAny _ _ (Builtin.List.listExtendWith (.ref s.heap.objs.size) (.ref l) (.ref s.heap.objs.size)) _ _ { s with heap := s.heap.push (seqObj "list" #[] 0) }
  unfold Builtin.List.listExtendWith
  have ho' : (s.heap.push (seqObj "list" #[] 0)).get? l = some o := Heap.get?_push_of_some _ ho
  refine wpAny_bind (wpAny_typeOf (T := "tuple") ⟨o, ho', hc⟩ ?_)
  rw [if_pos (by rw [show (Value.type "tuple" == Value.type "tuple") = true from rfl]; simp)]
  refine wpAny_bind (listItems_at ho' hd ?_)
  refine wpAny_bind (listItems_at (xs := #[]) (n := 0) (Heap.get?_push_size _ rfl) rfl ?_)
  rw [if_neg (by simp)]
  refine wpAny_bind (listUpdate_at (xs := #[]) (n := 0) (Heap.get?_push_size _ rfl) rfl ?_ (Nat.zero_le _) (by show (#[] ++ vs.toArray).size ≤ sizeLine + 1; simp only [Array.size_append, List.size_toArray, List.length_nil]; omega))
  refine wpAny_pure ?_
  show wpAny (model prog w) A (do
      let o ← load s.heap.objs.size
      match o.data with
      | .seq xs _ => pure xs.toList
      | _ => unsupported "internal:collect") Q E { s with heap := (s.heap.push (seqObj "list" #[] 0)).update s.heap.objs.size (Obj.mapSeq (· ++ vs.toArray)) }
  refine wpAny_bind (wpAny_load (get?_update_seq (Heap.get?_push_size _ rfl) _) ?_)
  show wpAny _ _ (pure ((#[] : Array Value) ++ vs.toArray).toList) Q E _
  rw [show ((#[] : Array Value) ++ vs.toArray).toList = vs by simp]
  exact wpAny_pure h
theorem sorted_tup {l : Addr} {vs : List Value} {o : Obj} {n : Nat} {ltv : Value → Value → Bool} {Q : Value → Shared → Prop} (O : Swo ltv) (ho : s.heap.get? l = some o) (hc : o.cls = .type "tuple") (hd : o.data = .seq vs.toArray n) (hz : vs.length ≤ sizeLine)
    (hS : 2 ≤ vs.length → ∀ (h₁ : Heap) (a : Addr), h₁.get? a = some (seqObj "list" vs.toArray 0) → (∀ b o, s.heap.get? b = some o → b ≠ a ∧ h₁.get? b = some o) → SortableO prog w A.in1.in1 { s with heap := h₁ } a vs ltv)
    (h : ∀ out : List Value, Srtd ltv out → Stb ltv out vs → Q (.ref (s.heap.objs.size + 1)) { s with heap := sortedAll s.heap vs out.toArray }) :
    wpAny (model prog w) A (call (.builtin "sorted") [.ref l]) Q E s := by
  refine Calls.call_function_entry kind_sorted plain_sorted entry_sorted (args_sorted1 _) ?_
  unfold Builtin.«sorted»
  refine wpAny_bind (m := checkCount "sorted" 1 1 _) (wpAny_pure ?_)
  refine wpAny_bind (collect_tup ho hc hd ?_ hz)
  refine wpAny_bind (wpAny_newList ?_ hz)
  have e1 : ((s.heap.push (seqObj "list" #[] 0)).update s.heap.objs.size (Obj.mapSeq (· ++ vs.toArray))).objs.size = s.heap.objs.size + 1 := by
    rw [Heap.size_update, size_push']
  have e2 : (((s.heap.push (seqObj "list" #[] 0)).update s.heap.objs.size (Obj.mapSeq (· ++ vs.toArray))).push (seqObj "list" vs.toArray 0)).get? (s.heap.objs.size + 1) = some (seqObj "list" vs.toArray 0) := by
    rw [← e1]; exact Heap.get?_push_size _ rfl
  have old : ∀ b o, s.heap.get? b = some o → b ≠ s.heap.objs.size + 1 ∧ (((s.heap.push (seqObj "list" #[] 0)).update s.heap.objs.size (Obj.mapSeq (· ++ vs.toArray))).push (seqObj "list" vs.toArray 0)).get? b = some o := fun b o q => by
    have hlt : b < s.heap.objs.size := Heap.lt_size q
    refine ⟨Nat.ne_of_lt (Nat.lt_succ_of_lt hlt), Heap.get?_push_of_some _ ?_⟩
    rw [Heap.get?_update_ne _ _ _ _ (Nat.ne_of_lt hlt)]
    exact Heap.get?_push_of_some _ q
  show wpAny _ _ _ _ _ { s with heap := ((s.heap.push (seqObj "list" #[] 0)).update s.heap.objs.size (Obj.mapSeq (· ++ vs.toArray))).push (seqObj "list" vs.toArray 0) }
  rw [e1]
  refine wpAny_bind (wpAny_holding (wpAny_call_entry slot_list_sort ⟨_, e2, rfl⟩ entry_list_sort (list_sort_ord O e2 hz (fun h2 => hS h2 _ _ e2 old) fun out h1 h2 => ⟨_, rfl, ?_⟩) (args_list_sort _)))
  exact wpAny_pure ⟨_, rfl, h out h1 h2⟩
end
end MiS
namespace Mi
open PySem PySem.Spec PyProof.Rows L2 PySem.MiX
section
variable {X : Cx}
def rSortedT (K : PySem.W.Frag) : List V → Hp → VK → Prop := fun vs H Q => ∃ (a : Addr) (ns : List Int), vs = [V.ref a] ∧ SqT K H a (ns.map V.int) ∧
  ∀ (ns' : List Int) (p : Addr), ns'.Perm ns → ns'.Pairwise (· ≤ ·) → H p = none → Q (.ref p) (upd H p (.lst (ns'.map V.int)))
theorem cr_sortedT : CallR X (.builtin "sorted") (rSortedT X.K) := by
  intro pins s σ H vs us Q I r h
  obtain ⟨a, ns, rfl, hs, q⟩ := h
  obtain ⟨its, rv, hl, hz⟩ := I.tuple hs
  obtain ⟨o, ho, hc, n, hd⟩ := hl
  rw [Vals.ref1 r]
  have hi := rv.ints
  refine MiS.sorted_tup SrtO.swo_int ho hc hd (by rw [← rv.length]; exact hz) (fun h2 h₁ a' _ _ => SrtO.ints_sortable hi h2) fun out h1 h2 => ?_
  obtain ⟨k1, k2, k3⟩ := SrtO.ints_out hi h1 h2
  obtain ⟨ep, he'⟩ := PyProof.Rows.sortedAll_at s.heap its out.toArray
  have hlen : ((out.map SrtO.iv).map V.int).length ≤ sizeLine := by
    rw [List.length_map, k2.length_eq]
    rw [List.length_map] at hz
    exact hz
  exact ⟨.ref _, upd H (s.heap.objs.size + 1) (.lst ((out.map SrtO.iv).map V.int)), I.laid (t' := s.toks) (fun _ _ => PyProof.Rows.sortedAll_old) (Nat.le_succ _) ⟨hlen, out, ep, vals_of_ints k1, he'⟩, rfl, q _ _ k2 k3 (I.hok.fresh (Nat.le_succ _))⟩
end
/-- ints in order -/
def putI (i : Int) : List Int → List Int
  | [] => [i]
  | j :: r => if i ≤ j then i :: j :: r else j :: putI i r
def sortI : List Int → List Int
  | [] => []
  | i :: r => putI i (sortI r)
theorem putI_perm (i : Int) : ∀ l, (putI i l).Perm (i :: l)
  | [] => .refl _
  | j :: r => by
    unfold putI
    by_cases h : i ≤ j
    · rw [if_pos h]
    · rw [if_neg h]
      exact ((putI_perm i r).cons j).trans (.swap _ _ _)
theorem sortI_perm : ∀ l, (sortI l).Perm l
  | [] => .refl _
  | i :: r => (putI_perm i _).trans ((sortI_perm r).cons i)
theorem putI_mem {i x : Int} {l : List Int} (h : x ∈ putI i l) : x = i ∨ x ∈ l := by
  simpa using (putI_perm i l).mem_iff.mp h
theorem putI_sorted (i : Int) : ∀ {l : List Int}, l.Pairwise (· ≤ ·) → (putI i l).Pairwise (· ≤ ·)
  | [], _ => List.pairwise_singleton _ _
  | j :: r, h => by
    obtain ⟨h1, h2⟩ := List.pairwise_cons.mp h
    unfold putI
    by_cases c : i ≤ j
    · rw [if_pos c]
      refine List.pairwise_cons.mpr ⟨fun x hx => ?_, h⟩
      rcases List.mem_cons.mp hx with rfl | hx
      · exact c
      · exact Int.le_trans c (h1 x hx)
    · rw [if_neg c]
      refine List.pairwise_cons.mpr ⟨fun x hx => ?_, putI_sorted i h2⟩
      rcases putI_mem hx with rfl | hx
      · exact Int.le_of_lt (Int.not_le.mp c)
      · exact h1 x hx
theorem sortI_sorted : ∀ l, (sortI l).Pairwise (· ≤ ·)
  | [] => .nil
  | i :: r => putI_sorted i (sortI_sorted r)
theorem sorted_one : ∀ {l m : List Int}, l.Perm m → l.Pairwise (· ≤ ·) → m.Pairwise (· ≤ ·) → l = m
  | [], m, p, _, _ => (List.nil_perm.mp p).symm
  | a :: l, [], p, _, _ => absurd p.length_eq (by simp)
  | a :: l, b :: m, p, h1, h2 => by
    obtain ⟨a1, a2⟩ := List.pairwise_cons.mp h1
    obtain ⟨b1, b2⟩ := List.pairwise_cons.mp h2
    have e : a = b := by
      have ha : a ∈ b :: m := p.mem_iff.mp (List.mem_cons_self ..)
      have hb : b ∈ a :: l := p.mem_iff.mpr (List.mem_cons_self ..)
      have u : a ≤ b := by
        rcases List.mem_cons.mp hb with e | e
        · omega
        · exact a1 b e
      have v : b ≤ a := by
        rcases List.mem_cons.mp ha with e | e
        · omega
        · exact b1 a e
      omega
    subst e
    rw [sorted_one (List.Perm.cons_inv p) a2 b2]
def dSorted (d : D) : Option Ow := (seqD d).bind fun ds => (intsD ds).map fun ns => .lst ((sortI ns).map D.int)
section
variable {K : PySem.W.Frag} {mg : Str → Option Value}
theorem o_sorted : OpNn K mg (fun xs H Q => rSortedI K xs H Q ∨ rSortedT K xs H Q) (g1n dSorted) := fun {F H xs ds z Q} hs r0 h q => by
  obtain ⟨d, e0, h⟩ := g1n_some h
  obtain ⟨x, rfl, r⟩ := r0.one e0
  obtain ⟨ys, h1, h2⟩ := Option.bind_eq_some_iff.mp h
  obtain ⟨ns, h3, rfl⟩ := Option.map_eq_some_iff.mp h2
  obtain ⟨a, vs, rfl, ra, hq⟩ := r.seq hs h1
  rw [intsD_eq h3] at ra
  have ev := ra.to_ints
  subst ev
  have fin : ∀ (ns' : List Int) (p : Addr), ns'.Perm ns → ns'.Pairwise (· ≤ ·) → H p = none → Q (.ref p) (upd H p (.lst (ns'.map V.int))) := fun ns' p hp hsd hn => by
    have e := sorted_one (hp.trans (sortI_perm ns).symm) hsd (sortI_sorted ns)
    subst e
    exact q p _ hn (.lst upd_same (RpA.ints _))
  rcases hq with ⟨hq, _⟩ | ⟨hq, _⟩
  · exact .inl ⟨a, ns, rfl, hq, fin⟩
  · exact .inr ⟨a, ns, rfl, (hq.mono hs).seq, fin⟩
theorem call_sortedA {X : Cx} : CallR X (.builtin "sorted") (fun xs H Q => rSortedI X.K xs H Q ∨ rSortedT X.K xs H Q) := cr_sortedI.or cr_sortedT
end
end Mi
set_option Elab.async false
set_option linter.all false
set_option maxRecDepth 100000
set_option maxHeartbeats 2000000
/-! Mi, part O: ranges as values, slices, chains, index, either of two rules. -/
namespace Mi
open PySem PySem.Spec PyProof.Rows L2 PySem.MiX
/-! ### either of two rules -/
def mAlt (m1 m2 : EM) : EM := fun ρ => match m1 ρ with
  | .bad => m2 ρ
  | r => r
theorem me_alt {X : Cx} {W : WX} {e : Expr} {m1 m2 : EM} (h1 : ME X W e m1) (h2 : ME X W e m2) : ME X W e (mAlt m1 m2) :=
  ⟨fun pins s σ H Q I ⟨G, F, ρ, S, g⟩ => by
    unfold mAlt at g
    cases q : m1 ρ with
    | bad =>
      rw [q] at g
      exact h2.run pins s σ H Q I ⟨G, F, ρ, S, g⟩
    | ok v ρ1 =>
      rw [q] at g
      exact h1.run pins s σ H Q I ⟨G, F, ρ, S, by rw [q]; exact g⟩
    | ex x ρ1 =>
      rw [q] at g
      exact h1.run pins s σ H Q I ⟨G, F, ρ, S, by rw [q]; exact g⟩⟩

/-! ### range(a, b) as a list, as a tuple -/
def rgOk (a b : Int) : Bool := decide (-(2 ^ 62) ≤ a ∧ a < 2 ^ 62 ∧ -(2 ^ 62) ≤ b ∧ b < 2 ^ 62 ∧ (b - a).toNat ≤ 1000000)
def obI (v : OB) (ρ : En) : Option Int := match v.get ρ with
  | some (.int i) => some i
  | _ => none
def kRg (k : Int → Int → En → R OV) (a b : Option Int) (ρ : En) : R OV := match a with
  | some a => (match b with
    | some b => if rgOk a b then k a b ρ else .bad
    | none => .bad)
  | none => .bad
def mRg1 (m : EM) (k : Int → Int → En → R OV) : EM := fun ρ => (m ρ).bind fun v ρ => kRg k (some 0) (obI v.fz ρ) ρ
def mRg2 (ma mb : EM) (k : Int → Int → En → R OV) : EM := fun ρ => (ma ρ).bind fun v ρ => (mb ρ).bind fun u ρ => kRg k (obI v.fz ρ) (obI u.fz ρ) ρ
def rgTup (a b : Int) (ρ : En) : R OV := .ok (.d (.tup (rgD a b))) ρ
def rgLst (a b : Int) (ρ : En) : R OV := .ok (.n (.lst (rgD a b))) ρ
section
variable {K : PySem.W.Frag} {mg : Str → Option Value} {W : WX} {F F' H H' : Hp} {G : Gh} {σ : St} {ρ : En}
theorem rgOk_ok {a b : Int} (h : rgOk a b = true) : RgOk a b := by
  have h' := of_decide_eq_true h
  exact ⟨h'.1, h'.2.1, h'.2.2.1, h'.2.2.2.1, by have := h'.2.2.2.2; omega⟩
theorem rpa_map {f : Nat → V} {g : Nat → D} (h : ∀ i, Rp K mg F (f i) (g i)) : ∀ l : List Nat, RpA K mg F (l.map f) (l.map g)
  | [] => .nil
  | i :: r => .cons (h i) (rpa_map h r)
theorem rgD_rp {a b : Int} : RpA K mg F (rgV a b) (rgD a b) := rpa_map (fun i => .int _) _
theorem obI_ok {v : OB} {x : V} {i : Int} (S : Sat K mg G F H σ ρ) (r : RpB K mg F σ x v) (h : obI v ρ = some i) : x = .int i := by
  unfold obI at h
  cases q : v.get ρ with
  | none => rw [q] at h; cases h
  | some y =>
    rw [q] at h
    cases y with
    | int j => cases h; exact (S.get r q).int
    | _ => cases h
theorem kRg_ok {k : Int → Int → En → R OV} {a b : Option Int} {Q : VK} (g : Gd K mg W (RpO K mg) G F σ (kRg k a b ρ) Q) : ∃ i j, a = some i ∧ b = some j ∧ RgOk i j ∧ Gd K mg W (RpO K mg) G F σ (k i j ρ) Q := by
  unfold kRg at g
  cases a with
  | none => exact g.elim
  | some i =>
    cases b with
    | none => exact g.elim
    | some j =>
      dsimp only at g
      by_cases c : rgOk i j = true
      · rw [if_pos c] at g
        exact ⟨i, j, rfl, rfl, rgOk_ok c, g⟩
      · rw [if_neg c] at g
        exact g.elim
theorem rg1_ok {m : EM} {k : Int → Int → En → R OV} {Q : VK} {Q' : Int → Int → Hp → Prop} (S : Sat K mg G F H σ ρ) (g : Gd K mg W (RpO K mg) G F σ (mRg1 m k ρ) Q)
    (kk : ∀ F1 H1 ρ1 a b, Sat K mg G F1 H1 σ ρ1 → RgOk a b → Gd K mg W (RpO K mg) G F1 σ (k a b ρ1) Q → Q' a b H1) : tRg1 (tE K mg W m) σ H Q' :=
  sub S (Gd.opd (f := fun v ρ => kRg k (some 0) (obI v ρ) ρ) g fun v ρ1 F1 H1 x S1 e1 r1 k1 => by
    obtain ⟨i, j, ei, ej, ok, k2⟩ := kRg_ok k1
    cases ei
    exact ⟨j, obI_ok S1 r1 ej, kk F1 H1 ρ1 0 j S1 ok k2⟩)
theorem rg2_ok {ma mb : EM} {k : Int → Int → En → R OV} {Q : VK} {Q' : Int → Int → Hp → Prop} (S : Sat K mg G F H σ ρ) (g : Gd K mg W (RpO K mg) G F σ (mRg2 ma mb k ρ) Q)
    (kk : ∀ F1 H1 ρ1 a b, Sat K mg G F1 H1 σ ρ1 → RgOk a b → Gd K mg W (RpO K mg) G F1 σ (k a b ρ1) Q → Q' a b H1) : tRg2 (tE K mg W ma) (tE K mg W mb) σ H Q' :=
  sub S (Gd.opd (f := fun v ρ => (mb ρ).bind fun u ρ => kRg k (obI v ρ) (obI u.fz ρ) ρ) g fun v ρ1 F1 H1 x S1 e1 r1 k1 => sub S1 (Gd.opd (f := fun u ρ => kRg k (obI v ρ) (obI u ρ) ρ) k1 fun u ρ2 F2 H2 y S2 e2 r2 k2 => by
    obtain ⟨i, j, ei, ej, ok, k3⟩ := kRg_ok k2
    exact ⟨i, j, obI_ok S2 (r1.mono e2) ei, obI_ok S2 r2 ej, kk F2 H2 ρ2 i j S2 ok k3⟩))
theorem rgLst_ok {a b : Int} {Q : VK} (S : Sat K mg G F H σ ρ) (ok : RgOk a b) (g : Gd K mg W (RpO K mg) G F σ (rgLst a b ρ) Q) : RgOk a b ∧ ∀ q, H q = none → Q (.ref q) (upd H q (.lst (rgV a b))) :=
  ⟨ok, fun q hq => by
    obtain ⟨S3, r3⟩ := S.newOwn hq (OwOk.lst upd_same (rgD_rp (a := a) (b := b)))
    exact g _ _ _ S3 (Same.refl _) r3⟩
theorem rgTup_ok {a b : Int} {Q : VK} (S : Sat K mg G F H σ ρ) (ok : RgOk a b) (g : Gd K mg W (RpO K mg) G F σ (rgTup a b ρ) Q) : RgOk a b ∧ newT (rgV a b) H Q :=
  ⟨ok, fun p o hp hd => by
    have ex := Ext.new (u := HO.frz o (.tup (rgV a b))) S.fh hp
    exact g _ _ _ (S.ext ex) ex.ff (.d (.tup ⟨o, upd_same, hd⟩ rgD_rp))⟩
end
section
variable {X : Cx} {W : WX} {a b : Expr} {ma mb : EM} {p q pos pos2 : Pos}
theorem me_lstRg1 (hc : X.calm = true) (hg : Gl X "list") (hm : X.mg "list" = none) (hg2 : Gl X "range") (hm2 : X.mg "range" = none) (ha : ME X W a ma) (na : starEach [.Call (.Name "range" q) [a] [] pos2] X.env = (false, eval (.Call (.Name "range" q) [a] [] pos2) X.env) :: starEach [] X.env := by rfl)
    (nb : starEach [a] X.env = (false, eval a X.env) :: starEach [] X.env := by rfl) : ME X W (.Call (.Name "list" p) [.Call (.Name "range" q) [a] [] pos2] [] pos) (mRg1 ma rgLst) :=
  ME.weak (pe_listRg hc hg hm (prg_1 hg2 hm2 ha nb) na) fun S g => rg1_ok S g fun F1 H1 ρ1 a b S1 ok k => rgLst_ok S1 ok k
theorem me_tupRg1 (hc : X.calm = true) (hg : Gl X "tuple") (hm : X.mg "tuple" = none) (hg2 : Gl X "range") (hm2 : X.mg "range" = none) (ha : ME X W a ma) (na : starEach [.Call (.Name "range" q) [a] [] pos2] X.env = (false, eval (.Call (.Name "range" q) [a] [] pos2) X.env) :: starEach [] X.env := by rfl)
    (nb : starEach [a] X.env = (false, eval a X.env) :: starEach [] X.env := by rfl) : ME X W (.Call (.Name "tuple" p) [.Call (.Name "range" q) [a] [] pos2] [] pos) (mRg1 ma rgTup) :=
  ME.weak (pe_tupRgF hc hg hm (prg_1 hg2 hm2 ha nb) na) fun S g => rg1_ok S g fun F1 H1 ρ1 a b S1 ok k => rgTup_ok S1 ok k
theorem me_lstRg2 (hc : X.calm = true) (hg : Gl X "list") (hm : X.mg "list" = none) (hg2 : Gl X "range") (hm2 : X.mg "range" = none) (ha : ME X W a ma) (hb : ME X W b mb)
    (na : starEach [.Call (.Name "range" q) [a, b] [] pos2] X.env = (false, eval (.Call (.Name "range" q) [a, b] [] pos2) X.env) :: starEach [] X.env := by rfl) (n1 : starEach [a, b] X.env = (false, eval a X.env) :: starEach [b] X.env := by rfl)
    (n2 : starEach [b] X.env = (false, eval b X.env) :: starEach [] X.env := by rfl) (hp : (backTo pos2 (starEach [b] X.env)).any (·.1) = false := by rfl) : ME X W (.Call (.Name "list" p) [.Call (.Name "range" q) [a, b] [] pos2] [] pos) (mRg2 ma mb rgLst) :=
  ME.weak (pe_listRg hc hg hm (prg_2 hg2 hm2 ha hb n1 n2 hp) na) fun S g => rg2_ok S g fun F1 H1 ρ1 a b S1 ok k => rgLst_ok S1 ok k
theorem me_tupRg2 (hc : X.calm = true) (hg : Gl X "tuple") (hm : X.mg "tuple" = none) (hg2 : Gl X "range") (hm2 : X.mg "range" = none) (ha : ME X W a ma) (hb : ME X W b mb)
    (na : starEach [.Call (.Name "range" q) [a, b] [] pos2] X.env = (false, eval (.Call (.Name "range" q) [a, b] [] pos2) X.env) :: starEach [] X.env := by rfl) (n1 : starEach [a, b] X.env = (false, eval a X.env) :: starEach [b] X.env := by rfl)
    (n2 : starEach [b] X.env = (false, eval b X.env) :: starEach [] X.env := by rfl) (hp : (backTo pos2 (starEach [b] X.env)).any (·.1) = false := by rfl) : ME X W (.Call (.Name "tuple" p) [.Call (.Name "range" q) [a, b] [] pos2] [] pos) (mRg2 ma mb rgTup) :=
  ME.weak (pe_tupRgF hc hg hm (prg_2 hg2 hm2 ha hb n1 n2 hp) na) fun S g => rg2_ok S g fun F1 H1 ρ1 a b S1 ok k => rgTup_ok S1 ok k
end
/-! ### slices -/
abbrev PM := En → R (Option Int)
section
variable (K : PySem.W.Frag) (mg : Str → Option Value)
def tO (W : WX) (m : PM) : TO := fun σ H Q => ∃ G F ρ, Sat K mg G F H σ ρ ∧ Gd K mg W (fun _ _ _ _ _ x y => x = y) G F σ (m ρ) Q
end
abbrev MO (X : Cx) (W : WX) (e : Option Expr) (m : PM) : Prop := PO X e (tO X.K X.mg W m)
def mNoP : PM := fun ρ => .ok none ρ
def mPart (m : EM) : PM := fun ρ => (m ρ).bind fun v ρ => match obI v.fz ρ with
  | some i => .ok (some i) ρ
  | none => .bad
def cutL {α : Type} (xs : List α) (lo hi : Option Int) : List α := (xs.drop (HT.sIx xs.length 0 lo)).take (HT.sIx xs.length xs.length hi - HT.sIx xs.length 0 lo)
def apSl (v : OB) (lo hi : Option Int) (ρ : En) : R OV := match v.get ρ with
  | some (.tup xs) => .ok (.d (.tup (cutL xs lo hi))) ρ
  | some (.lst xs) => .ok (.n (.lst (cutL xs lo hi))) ρ
  | some (.frl xs) => .ok (.n (.lst (cutL xs lo hi))) ρ
  | _ => .bad
def mSl (m : EM) (ml mh : PM) : EM := fun ρ => (m ρ).bind fun v ρ => (ml ρ).bind fun l ρ => (mh ρ).bind fun u ρ => apSl v.fz l u ρ
section
variable {K : PySem.W.Frag} {mg : Str → Option Value} {W : WX} {F F' H H' : Hp} {G : Gh} {σ : St} {ρ : En}
theorem RpA.cut {vs : List V} {ds : List D} (r : RpA K mg F vs ds) (lo hi : Option Int) : RpA K mg F (cutV vs lo hi) (cutL ds lo hi) := by
  unfold cutV cutL
  rw [r.len]
  exact (r.drop _).take _
theorem subO {m : PM} {Q : Option Int → Hp → Prop} (S : Sat K mg G F H σ ρ) (g : Gd K mg W (fun _ _ _ _ _ x y => x = y) G F σ (m ρ) Q) : tO K mg W m σ H Q := ⟨G, F, ρ, S, g⟩
theorem cutL_all {α : Type} {xs : List α} {lo hi : Option Int} (h : HT.sIx xs.length 0 lo = 0 ∧ HT.sIx xs.length xs.length hi = xs.length) : cutL xs lo hi = xs := by
  unfold cutL
  rw [h.1, h.2]
  simp
theorem apSl_ok {v : OB} {x : V} {lo hi : Option Int} {Q : VK} (S : Sat K mg G F H σ ρ) (r : RpB K mg F σ x v) (g : Gd K mg W (RpO K mg) G F σ (apSl v lo hi ρ) Q) : rSlL K x lo hi H Q ∨ rSlF K x lo hi H Q := by
  unfold apSl at g
  cases q : v.get ρ with
  | none => rw [q] at g; exact g.elim
  | some d =>
    rw [q] at g
    have rI := S.get r q
    have lst : ∀ ds, lsD d = some ds → Gd K mg W (RpO K mg) G F σ (.ok (.n (.lst (cutL ds lo hi))) ρ) Q → rSlL K x lo hi H Q := fun ds hd k => by
      obtain ⟨a, vs, rfl, ra, hq⟩ := rI.ls S.fh hd
      refine ⟨a, vs, rfl, hq, fun p hp => ?_⟩
      obtain ⟨S3, r3⟩ := S.newOwn hp (OwOk.lst upd_same (ra.cut lo hi))
      exact k _ _ _ S3 (Same.refl _) r3
    cases d with
    | lst ds => exact .inl (lst ds rfl g)
    | frl ds => exact .inl (lst ds rfl g)
    | tup ds =>
      obtain ⟨a, vs, rfl, hT, ra⟩ := rI.tup S.fh
      refine .inr ⟨a, vs, rfl, (hT.mono S.fh).seq, fun hw => ?_, fun _ p o hp hd => ?_⟩
      · rw [ra.len] at hw
        have g' : Gd K mg W (RpO K mg) G F σ (.ok (.d (.tup (cutL ds lo hi))) ρ) Q := g
        rw [cutL_all hw] at g'
        exact g' F H _ S (Same.refl _) (.d (.tup hT ra))
      · have ex := Ext.new (u := HO.frz o (.tup (cutV vs lo hi))) S.fh hp
        exact g _ _ _ (S.ext ex) ex.ff (.d (.tup ⟨o, upd_same, hd⟩ ((ra.cut lo hi).mono ex.ff)))
    | _ => exact g.elim
end
section
variable {X : Cx} {W : WX} {e : Expr} {m : EM} {lo hi : Option Expr} {ml mh : PM} {pos p2 : Pos}
theorem mo_none : MO X W none mNoP := ⟨fun pins s σ H Q I ⟨G, F, ρ, S, g⟩ => po_none.run pins s σ H Q I (g F H none S (Same.refl _) rfl)⟩
theorem mo_some (h : ME X W e m) : MO X W (some e) (mPart m) := ⟨fun pins s σ H Q I ⟨G, F, ρ, S, g⟩ => (po_some h).run pins s σ H Q I
  (sub S (Gd.opd (f := fun v ρ => match obI v ρ with
    | some i => .ok (some i) ρ
    | none => .bad) g fun v ρ1 F1 H1 x S1 e1 r1 k1 => by
    cases q : obI v ρ1 with
    | none => rw [q] at k1; exact k1.elim
    | some i =>
      rw [q] at k1
      exact ⟨i, obI_ok S1 r1 q, k1 F1 H1 _ S1 (Same.refl _) rfl⟩))⟩
theorem me_slice (he : ME X W e m) (hl : MO X W lo ml) (hh : MO X W hi mh) : ME X W (.Subscript e (.Slice lo hi none p2) pos) (mSl m ml mh) :=
  ME.weak (pe_slice (SlR.or sl_list sl_tupF) he hl hh) fun S g => sub S (Gd.opd (f := fun v ρ => (ml ρ).bind fun l ρ => (mh ρ).bind fun u ρ => apSl v l u ρ) g fun v ρ1 F1 H1 x S1 e1 r1 k1 =>
    subO S1 (Gd.bind k1 fun l ρ2 F2 H2 y _ S2 e2 r2 k2 => by
      subst r2
      exact subO S2 (Gd.bind k2 fun u ρ3 F3 H3 z _ S3 e3 r3 k3 => by
        subst r3
        exact apSl_ok S3 ((r1.mono e2).mono e3) k3)))
end
end Mi
set_option Elab.async false
set_option linter.all false
set_option maxRecDepth 100000
set_option maxHeartbeats 2000000
/-! Mi, part P: a < b < c, t.index(x). -/
namespace Mi
open PySem PySem.Spec PyProof.Rows L2 PySem.MiX
def opD (g : D → D → Option D) (v u : OB) (ρ : En) : Option D := match v.get ρ with
  | some d => (match u.get ρ with
    | some e => g d e
    | none => none)
  | none => none
def mChain (g g' : D → D → Option D) (ma mb mc : EM) : EM := fun ρ => (ma ρ).bind fun v ρ => (mb ρ).bind fun u ρ => match opD g v.fz u.fz ρ with
  | some (.bl true) => (mc ρ).bind fun w ρ => ap2 g' u.fz w.fz ρ
  | some (.bl false) => .ok (.d (.bl false)) ρ
  | _ => .bad
section
variable {K : PySem.W.Frag} {mg : Str → Option Value} {W : WX} {F F' H H' : Hp} {G : Gh} {σ : St} {ρ : En}
theorem opD_some {g : D → D → Option D} {v u : OB} {z : D} (h : opD g v u ρ = some z) : ∃ d e, v.get ρ = some d ∧ u.get ρ = some e ∧ g d e = some z := by
  unfold opD at h
  cases q : v.get ρ with
  | none => rw [q] at h; cases h
  | some d =>
    rw [q] at h
    cases q2 : u.get ρ with
    | none => rw [q2] at h; cases h
    | some e => rw [q2] at h; exact ⟨d, e, rfl, rfl, h⟩
theorem bl_of {F : Hp} {v : V} {b : Bool} (r : Rp K mg F v (.bl b)) : v = .bl b := by
  cases r
  rfl
theorem chain_ok {r r' : R2} {g g' : D → D → Option D} {ma mb mc : EM} {Q : VK} (o : Op2 K mg r g) (o' : Op2 K mg r' g') (S : Sat K mg G F H σ ρ) (k : Gd K mg W (RpO K mg) G F σ (mChain g g' ma mb mc ρ) Q) : tChain r r' (tE K mg W ma) (tE K mg W mb) (tE K mg W mc) σ H Q :=
  sub S (Gd.opd (f := fun v ρ => (mb ρ).bind fun u ρ => match opD g v u.fz ρ with
    | some (.bl true) => (mc ρ).bind fun w ρ => ap2 g' u.fz w.fz ρ
    | some (.bl false) => .ok (.d (.bl false)) ρ
    | _ => .bad) k fun v ρ1 F1 H1 x S1 e1 r1 k1 => sub S1 (Gd.opd (f := fun u ρ => match opD g v u ρ with
    | some (.bl true) => (mc ρ).bind fun w ρ => ap2 g' u w.fz ρ
    | some (.bl false) => .ok (.d (.bl false)) ρ
    | _ => .bad) k1 fun u ρ2 F2 H2 y S2 e2 r2 k2 => by
    cases q : opD g v u ρ2 with
    | none => rw [q] at k2; exact k2.elim
    | some z =>
      rw [q] at k2
      obtain ⟨d, e, h1, h2, h3⟩ := opD_some q
      cases z with
      | bl b =>
        refine o S2.fh (S2.get (r1.mono e2) h1) (S2.get r2 h2) h3 fun F3 H3 w ex rw' => ?_
        have ew := bl_of rw'
        subst ew
        refine ⟨b, rfl, ?_⟩
        cases b with
        | false =>
          rw [if_neg Bool.false_ne_true]
          exact k2 F3 H3 _ (S2.ext ex) ex.ff (.d (.bl false))
        | true =>
          rw [if_pos rfl]
          exact sub (S2.ext ex) (Gd.opd (f := fun w ρ => ap2 g' u w ρ) (Gd.mono ex.ff k2) fun w ρ4 F4 H4 z S4 e4 r4 k4 => fin2 o' S4 ((r2.mono ex.ff).mono e4) r4 k4)
      | _ => exact k2.elim))
end
section
variable {X : Cx} {W : WX} {a b c : Expr} {op op' : CmpOp} {r r' : R2} {g g' : D → D → Option D} {ma mb mc : EM} {pos : Pos}
theorem me_chain (o : Op2 X.K X.mg r g) (o' : Op2 X.K X.mg r' g') (ho : OpR X (compareOp op) r) (ho' : OpR X (compareOp op') r') (ha : ME X W a ma) (hb : ME X W b mb) (hc : ME X W c mc)
    (hm : lastMarks [op, op'] [b, c] = false := by with_unfolding_all rfl) : ME X W (.Compare a [op, op'] [b, c] pos) (mChain g g' ma mb mc) :=
  ME.weak (pe_chain ho ho' ha hb hc hm) fun S k => chain_ok o o' S k
end
/-! ### index -/
def idxD (y : D) : List D → Option Nat
  | [] => none
  | z :: r => if z.eqf y then some 0 else (idxD y r).map (· + 1)
def dIndex (d y : D) : Option D := (seqD d).bind fun ds => if y.flat && ds.all D.flat then (idxD y ds).map fun (j : Nat) => .int (j : Nat) else none
def isTupB : Option D → Bool
  | some (.tup _) => true
  | _ => false
def isLstB : Option D → Bool
  | some (.lst _) => true
  | some (.frl _) => true
  | _ => false
/-- x.m(e) where x is a tuple; where it is a list -/
def mMT (g : D → D → Option D) (mo ma : EM) : EM := fun ρ => (mo ρ).bind fun v ρ => if isTupB (v.fz.get ρ) then (ma ρ).bind fun u ρ => if isTupB (v.fz.get ρ) then ap2 g v.fz u.fz ρ else .bad else .bad
def mML (g : D → D → Option D) (mo ma : EM) : EM := fun ρ => (mo ρ).bind fun v ρ => if isLstB (v.fz.get ρ) then (ma ρ).bind fun u ρ => if isLstB (v.fz.get ρ) then ap2 g v.fz u.fz ρ else .bad else .bad
section
variable {K : PySem.W.Frag} {mg : Str → Option Value} {W : WX} {F F' H H' : Hp} {G : Gh} {σ : St} {ρ : En}
theorem idxD_ok {y : D} : ∀ {ds : List D} {j : Nat}, idxD y ds = some j → ∃ z, ds[j]? = some z ∧ z.eqf y = true ∧ ∀ (m : Nat) (z' : D), m < j → ds[m]? = some z' → z'.eqf y = false
  | [], _, h => by cases h
  | z :: r, j, h => by
    unfold idxD at h
    by_cases c : z.eqf y = true
    · rw [if_pos c] at h
      cases h
      exact ⟨z, rfl, c, fun m z' hm => absurd hm (Nat.not_lt_zero _)⟩
    · rw [if_neg c] at h
      obtain ⟨i, h1, rfl⟩ := Option.map_eq_some_iff.mp h
      obtain ⟨z1, a1, a2, a3⟩ := idxD_ok h1
      refine ⟨z1, a1, a2, fun m z' hm hz => ?_⟩
      cases m with
      | zero =>
        cases hz
        simpa using c
      | succ m => exact a3 m z' (Nat.lt_of_succ_lt_succ hm) hz
/-- what both rules say of the place -/
theorem index_at {vs : List V} {ds : List D} {y : V} {d : D} {j : Nat} (r : RpA K mg F vs ds) (ry : Rp K mg F' y d) (fd : d.flat = true) (fs : ds.all D.flat = true) (h : idxD d ds = some j) :
    flatV y = true ∧ vs.all flatV = true ∧ ∃ z, vs[j]? = some z ∧ eqV z y = true ∧ ∀ (m : Nat) (z' : V), m < j → vs[m]? = some z' → eqV z' y = false := by
  obtain ⟨z, h1, h2, h3⟩ := idxD_ok h
  obtain ⟨v, h4, h5⟩ := r.get h1
  have fl : ∀ {i : Nat} {e : D}, ds[i]? = some e → e.flat = true := fun {i e} h => List.all_eq_true.mp fs e (List.mem_of_getElem? h)
  refine ⟨flat_V ry fd, flat_all r fs, v, h4, (flat_eq h5 ry (fl h1) fd).trans h2, fun m z' hm hz => ?_⟩
  obtain ⟨e, h6, h7⟩ := r.getV hz
  exact (flat_eq h7 ry (fl h6) fd).trans (h3 m e hm h6)
theorem index_some {d y z : D} (h : dIndex d y = some z) : ∃ ds j, seqD d = some ds ∧ y.flat = true ∧ ds.all D.flat = true ∧ idxD y ds = some j ∧ z = .int (j : Nat) := by
  obtain ⟨ds, h1, h2⟩ := Option.bind_eq_some_iff.mp h
  by_cases c : (y.flat && ds.all D.flat) = true
  · rw [if_pos c] at h2
    obtain ⟨j, h3, rfl⟩ := Option.map_eq_some_iff.mp h2
    obtain ⟨c1, c2⟩ := Bool.and_eq_true_iff.mp c
    exact ⟨ds, j, h1, c1, c2, h3, rfl⟩
  · rw [if_neg c] at h2
    cases h2
theorem isTup_at {x : V} {d : D} (r : RpI K mg F H x d) (e : Same F H) (h : isTupB (some d) = true) : ∃ ds a vs, d = .tup ds ∧ x = .ref a ∧ FT F a vs ∧ RpA K mg F vs ds := by
  cases d with
  | tup ds =>
    obtain ⟨a, vs, h1, h2, h3⟩ := r.tup e
    exact ⟨ds, a, vs, rfl, h1, h2, h3⟩
  | _ => cases h
theorem isLst_at {x : V} {d : D} (r : RpI K mg F H x d) (e : Same F H) (h : isLstB (some d) = true) : ∃ ds a vs, lsD d = some ds ∧ seqD d = some ds ∧ x = .ref a ∧ SqL K H a vs ∧ RpA K mg F vs ds := by
  have hd : ∃ ds, lsD d = some ds ∧ seqD d = some ds := by
    cases d <;> first | exact ⟨_, rfl, rfl⟩ | cases h
  obtain ⟨ds, h1, h2⟩ := hd
  obtain ⟨a, vs, e1, e2, e3⟩ := r.ls e h1
  exact ⟨ds, a, vs, h1, h2, e1, e3, e2⟩
end
section
variable {X : Cx} {W : WX} {o e : Expr} {mo ma : EM} {apos cpos : Pos}
theorem me_tindex (ho : ME X W o mo) (ha : ME X W e ma) (hbase : attributeBase o "index" X.env (eval o X.env) = eval o X.env := by rfl)
    (hfew : ((backTo cpos (starEach (e :: []) X.env)).all (fun x => !x.1) && (backToKw cpos (keywordEach [] X.env)).all (fun x => x.1.isSome)
      && decide ((e :: []).length + ([] : List Keyword).length + (if ([] : List Keyword).isEmpty then 0 else 1) < 30)) = true := by rfl)
    (hline : (apos.endLine == cpos.line) = true := by rfl) (hs : starEach (e :: []) X.env = (false, eval e X.env) :: starEach [] X.env := by rfl) (hplain : (backTo cpos (starEach [] X.env)).any (·.1) = false := by rfl) :
    ME X W (.Call (.Attribute o "index" apos) [e] [] cpos) (mMT dIndex mo ma) :=
  ME.weak (pe_bmT PySem.F.plainAttrs_tuple PySem.F.slot_tuple_index PySem.F.type_tuple_index mt_tindex ho (pa_cons ha pa_nil hs) hbase hfew hline hs hplain) fun {σ H Q G F ρ} S g =>
    sub S (Gd.opd (f := fun v ρ => if isTupB (v.get ρ) then (ma ρ).bind fun u ρ => if isTupB (v.get ρ) then ap2 dIndex v u.fz ρ else .bad else .bad) g fun v ρ1 F1 H1 x S1 e1 r1 k1 => by
      by_cases c : isTupB (v.get ρ1) = true
      · rw [if_pos c] at k1
        cases q : v.get ρ1 with
        | none => rw [q] at c; cases c
        | some d =>
          rw [q] at c
          obtain ⟨ds, a, vs, rfl, rfl, hT, ra⟩ := isTup_at (S1.get r1 q) S1.fh c
          refine ⟨⟨a, vs, rfl, hT.mono S1.fh⟩, sub S1 (Gd.opd (f := fun u ρ => if isTupB (v.get ρ) then ap2 dIndex v u ρ else .bad) k1 fun u ρ2 F2 H2 y S2 e2 r2 k2 => ?_)⟩
          by_cases c2 : isTupB (v.get ρ2) = true
          · rw [if_pos c2] at k2
            unfold ap2 at k2
            cases q2 : v.get ρ2 with
            | none => rw [q2] at c2; cases c2
            | some d2 =>
              rw [q2] at k2 c2
              obtain ⟨ds2, a2, vs2, rfl, ea, hT2, ra2⟩ := isTup_at (S2.get (r1.mono e2) q2) S2.fh c2
              cases ea
              cases q3 : u.get ρ2 with
              | none => rw [q3] at k2; exact k2.elim
              | some dy =>
                rw [q3] at k2
                obtain ⟨z, hz, kz⟩ := fin_rz S2 k2
                obtain ⟨ds3, j, h1, h2, h3, h4, rfl⟩ := index_some hz
                cases h1
                have ry := (S2.get r2 q3).rp S2.fh
                obtain ⟨f1, f2, zz, f3, f4, f5⟩ := index_at ra2 ry h2 h3 h4
                exact ⟨a, vs2, y, j, zz, rfl, rfl, (hT2.mono S2.fh).seq, f1, f2, f3, f4, f5, kz F2 H2 _ (.refl S2.fh) (.int _)⟩
          · rw [if_neg c2] at k2
            exact k2.elim
      · rw [if_neg c] at k1
        exact k1.elim)
theorem me_lindex (ho : ME X W o mo) (ha : ME X W e ma) (hbase : attributeBase o "index" X.env (eval o X.env) = eval o X.env := by rfl)
    (hfew : ((backTo cpos (starEach (e :: []) X.env)).all (fun x => !x.1) && (backToKw cpos (keywordEach [] X.env)).all (fun x => x.1.isSome)
      && decide ((e :: []).length + ([] : List Keyword).length + (if ([] : List Keyword).isEmpty then 0 else 1) < 30)) = true := by rfl)
    (hline : (apos.endLine == cpos.line) = true := by rfl) (hs : starEach (e :: []) X.env = (false, eval e X.env) :: starEach [] X.env := by rfl) (hplain : (backTo cpos (starEach [] X.env)).any (·.1) = false := by rfl) :
    ME X W (.Call (.Attribute o "index" apos) [e] [] cpos) (mML dIndex mo ma) :=
  ME.weak (pe_bm (T := "list") PySem.F.plainAttrs_list PySem.F.slot_list_index PySem.F.type_list_index mt_index ho (pa_cons ha pa_nil hs) hbase hfew hline hs hplain) fun {σ H Q G F ρ} S g =>
    sub S (Gd.opd (f := fun v ρ => if isLstB (v.get ρ) then (ma ρ).bind fun u ρ => if isLstB (v.get ρ) then ap2 dIndex v u.fz ρ else .bad else .bad) g fun v ρ1 F1 H1 x S1 e1 r1 k1 => by
      by_cases c : isLstB (v.get ρ1) = true
      · rw [if_pos c] at k1
        cases q : v.get ρ1 with
        | none => rw [q] at c; cases c
        | some d =>
          rw [q] at c
          obtain ⟨ds, a, vs, _, _, rfl, hT, ra⟩ := isLst_at (S1.get r1 q) S1.fh c
          refine ⟨.inl ⟨rfl, vs, hT⟩, sub S1 (Gd.opd (f := fun u ρ => if isLstB (v.get ρ) then ap2 dIndex v u ρ else .bad) k1 fun u ρ2 F2 H2 y S2 e2 r2 k2 => ?_)⟩
          by_cases c2 : isLstB (v.get ρ2) = true
          · rw [if_pos c2] at k2
            unfold ap2 at k2
            cases q2 : v.get ρ2 with
            | none => rw [q2] at c2; cases c2
            | some d2 =>
              rw [q2] at k2 c2
              obtain ⟨ds2, a2, vs2, _, hd2, ea, hT2, ra2⟩ := isLst_at (S2.get (r1.mono e2) q2) S2.fh c2
              cases ea
              cases q3 : u.get ρ2 with
              | none => rw [q3] at k2; exact k2.elim
              | some dy =>
                rw [q3] at k2
                obtain ⟨z, hz, kz⟩ := fin_rz S2 k2
                obtain ⟨ds3, j, h1, h2, h3, h4, rfl⟩ := index_some hz
                rw [hd2] at h1
                cases h1
                have ry := (S2.get r2 q3).rp S2.fh
                obtain ⟨f1, f2, zz, f3, f4, f5⟩ := index_at ra2 ry h2 h3 h4
                exact ⟨a, vs2, y, j, zz, rfl, rfl, hT2, f1, f2, f3, f4, f5, kz F2 H2 _ (.refl S2.fh) (.int _)⟩
          · rw [if_neg c2] at k2
            exact k2.elim
      · rw [if_neg c] at k1
        exact k1.elim)
/-- x.index(e), x a tuple or a list -/
def mIndex (mo ma : EM) : EM := mAlt (mMT dIndex mo ma) (mML dIndex mo ma)
theorem me_index (ho : ME X W o mo) (ha : ME X W e ma) (hbase : attributeBase o "index" X.env (eval o X.env) = eval o X.env := by rfl)
    (hfew : ((backTo cpos (starEach (e :: []) X.env)).all (fun x => !x.1) && (backToKw cpos (keywordEach [] X.env)).all (fun x => x.1.isSome)
      && decide ((e :: []).length + ([] : List Keyword).length + (if ([] : List Keyword).isEmpty then 0 else 1) < 30)) = true := by rfl)
    (hline : (apos.endLine == cpos.line) = true := by rfl) (hs : starEach (e :: []) X.env = (false, eval e X.env) :: starEach [] X.env := by rfl) (hplain : (backTo cpos (starEach [] X.env)).any (·.1) = false := by rfl) :
    ME X W (.Call (.Attribute o "index" apos) [e] [] cpos) (mIndex mo ma) := me_alt (me_tindex ho ha hbase hfew hline hs hplain) (me_lindex ho ha hbase hfew hline hs hplain)
end
end Mi
set_option Elab.async false
set_option linter.all false
set_option maxRecDepth 100000
set_option maxHeartbeats 2000000
/-! Mi, part Q: enumerate over tuples and lists, zip. -/
namespace PySem
namespace MiE
open Sem (wp)
theorem meets_enum1 {v : Value} {o : Obj} {H : Heap → Prop} (B : Begins v o H) :
    Meets (Builtin.«enumerate.__new__» ⟨[.type "enumerate", v], []⟩) (fun _ R s => H s.heap ∧
      R (.ok (.ret (.ref (s.heap.push o).objs.size))) { s with heap := (s.heap.push o).push { cls := .type "enumerate", data := .fields #[.none, .bool false, .ref s.heap.objs.size, rawInt 0, .none, .none] } }) :=
  .of_wp fun prog w A R s h => by
    obtain ⟨hp, g, d, tk, os⟩ := s; obtain ⟨h1, h⟩ := h
    have hsub := sub_enumerate
    have q1 : ∀ {A' : Around} {E : Value → Shared → Prop} {Q : Value → Shared → Prop}, Q (.ref hp.objs.size) ⟨hp.push o, g, d, tk, os⟩ → wpAny (model prog w) A' (pyIter v) Q E ⟨hp, g, d, tk, os⟩ :=
      fun q => B.iter prog w _ _ ⟨hp, g, d, tk, os⟩ _ h1 q
    wp_walk using q1
    refine wpAny_stack_any fun st => wpAny_pure ?_
    split
    · rename_i c _ _ _ _ _
      cases (c == Value.type "enumerate")
      · wp_walk using q1
        exact ⟨_, rfl, h⟩
      · wp_walk using q1
        exact ⟨_, rfl, h⟩
    · wp_walk using q1
      exact ⟨_, rfl, h⟩
section
variable {prog : Program} {w : World} {A : Around} {E : Value → Shared → Prop} {s : Shared}
theorem enum1 {v : Value} {o : Obj} {H : Heap → Prop} {Q : Value → Shared → Prop} (B : Begins v o H) (h1 : H s.heap)
    (h : ∀ h', IsEnum h' (s.heap.objs.size + 1) s.heap.objs.size 0 .none → h'.get? s.heap.objs.size = some o → h'.objs.size = s.heap.objs.size + 2 →
      (∀ b o, s.heap.get? b = some o → h'.get? b = some o) → Q (.ref (s.heap.objs.size + 1)) { s with heap := h' }) :
    wpAny (model prog w) A (call (.type "enumerate") [v]) Q E s := by
  refine callType_new F.called_enumerate (by decide) (F.typeCall_enumerate_1 _) (F.newCall_enumerate_1 _) (fun obj => F.args_object_init_2 obj _) F.entry_enumerate_new (meets_enum1 B) ⟨h1, ?_⟩
  have hz : (s.heap.push o).objs.size = s.heap.objs.size + 1 := Heap.size_push ..
  show _ ∧ _
  rw [hz]
  have he : IsEnum ((s.heap.push o).push { cls := .type "enumerate", data := .fields #[.none, .bool false, .ref s.heap.objs.size, rawInt 0, .none, .none] }) (s.heap.objs.size + 1) s.heap.objs.size 0 .none := by
    have := Heap.get?_push_size (s.heap.push o) (o := { cls := .type "enumerate", data := .fields #[.none, .bool false, .ref s.heap.objs.size, rawInt 0, .none, .none] }) rfl
    rw [hz] at this; exact this
  exact ⟨⟨_, he, rfl⟩, h _ he (Heap.get?_push_of_some _ (Heap.get?_push_size _ B.free)) (by rw [Heap.size_push, hz]) fun b o x => Heap.get?_push_of_some _ (Heap.get?_push_of_some _ x)⟩
theorem enum_endT {e it a : Addr} {i : Nat} {items : Array Value} {old : Value} {Q : Option Value → Shared → Prop} (hh : A.handled = none) (he : IsEnum s.heap e it (i : Int) old) (hit : s.heap.IsTupleIter it a i) (ha : s.heap.IsTuple a items) (hx : items[i]? = none)
    (hQ : ∀ h', Heap.ExtBut it s.heap h' → Q none { s with heap := h' }) : wpAny (model prog w) A (pyNext (.ref e)) Q E s := by
  have hT : s.TypeIs (.ref e) "enumerate" := ⟨_, he, rfl⟩
  unfold pyNext
  refine wpAny_bind (wpAny_attempt (wpAny_callSpecial?_slot (name := Str.ofString "__next__") hT F.slot_enumerate_next
    (wpAny_call_entry F.slot_enumerate_next hT F.entry_enumerate_next ?_ (F.args_enumerate_next_1 _))))
  show wpAny _ _ (field (.ref e) 2 >>= _) _ _ _
  refine wpAny_bind (wpAny_field he rfl (x := .ref it) rfl ?_)
  refine wpAny_bind (RZ.nextOf_tuple_end (show A.in1.handled = none from hh) hit ha hx fun h' x he' hx' => ?_)
  obtain ⟨o, ho, hc⟩ := hx'
  refine wpAny_bind (wpAny_isInstance (T := "StopIteration") (b := true) ⟨o, ho, hc⟩ isSubtype_stop ?_)
  exact wpAny_pure (hQ _ he')
end
end MiE
end PySem
namespace Mi
open PySem PySem.Spec PyProof.Rows L2 PySem.MiX
/-- the tuple at a as it stands at each turn, each item in a new pair -/
def IteT (K : PySem.W.Frag) (a : Addr) : It :=
  ⟨fun i H => ∃ (xs : List V) (x : V), SqT K H a xs ∧ xs[i]? = some x, fun i H v H' => ∃ T x, v = .ref T ∧ H T = none ∧ H' = upd H T (.tup [.int (i : Nat), x]) ∧ ∀ xs, SqT K H a xs → xs[i]? = some x, fun i H => ∃ xs : List V, SqT K H a xs ∧ xs.length ≤ i⟩
theorem turn_enumT {P : Program} {w : World} {K : PySem.W.Frag} {elts : List Expr} {kk : Nat} {tpos : Pos} (a e it : Addr) :
    Turn P w K (.Tuple elts kk tpos) (IteT K a) [e, it] e (fun i h => (∃ old, IsEnum h e it ((i : Nat) : Int) old) ∧ h.IsTupleIter it a i ∧ e ≠ it ∧ a ≠ it ∧ e ≠ a) where
  mem := by simp
  obj := fun i h st b hb => by
    obtain ⟨⟨old, he⟩, ⟨o, ho, hc, hd⟩, _⟩ := st
    have e' : b = e ∨ b = it := by simpa using hb
    rcases e' with z | z
    · rw [z]; exact ⟨_, he, fun v q => nomatch q⟩
    · rw [z]; exact ⟨o, ho, fun v q => by rw [hd] at q; cases q⟩
  keep := fun i h h' st k => let ⟨⟨old, he⟩, hi, hne⟩ := st; ⟨⟨old, k e (by simp) _ he⟩, hi.at fun o q => k it (by simp) o q, hne⟩
  item := by
    intro X hP hw hK hc i pins s σ H E I hf st hg
    subst hP hw hK
    obtain ⟨⟨old, he⟩, hit, hne, hai, hea⟩ := st
    obtain ⟨xs, x, hq, hx⟩ := hg
    obtain ⟨its, rv, p, hz⟩ := I.tuple hq
    obtain ⟨u, hu, ru⟩ := rv.get hx
    have hel : e < s.heap.objs.size := Heap.lt_size he
    have hil : it < s.heap.objs.size := by obtain ⟨_, q, _⟩ := hit; exact Heap.lt_size q
    have hlt : i < its.toArray.size := by
      rw [List.size_toArray]
      exact (List.getElem?_eq_some_iff.mp hu).1
    refine wpAny_pyNext_enum_itemD (Draws.tuple (show X.A.in1.handled = none from I.ok.hd hc) it a hai its.toArray) he ⟨hit, p⟩ hlt hne (by simp [hne, hea]) fun y h' tk hy ho hit' hT hsz hk => ?_
    have ey : y = u := by
      have hy' : its.toArray[i]? = some y := hy
      rw [List.getElem?_toArray, hu] at hy'
      exact (Option.some.inj hy').symm
    subst ey
    refine ⟨_, rfl, wpAny_letOwnedTupleGo_enum (s := { s with heap := h', toks := tk + 1 }) ho fun h'' he' sb => ?_⟩
    have hT2 : h''.get? s.heap.objs.size = some { cls := .type "tuple", data := .seq #[.int i tk, y] } := (sb.2 _ (Nat.ne_of_gt hel)).trans hT
    have new : ObjOk X.prog X.w (upd H s.heap.objs.size (.tup [.int (i : Nat), x])) h'' s.heap.objs.size (.tup [.int (i : Nat), x]) :=
      ⟨by show 2 ≤ sizeLine; decide, [.int i tk, y], .cons ⟨_, rfl⟩ (.cons ru .nil), ⟨_, hT2, rfl, _, rfl⟩⟩
    have I1 : Inv X pins σ (upd H s.heap.objs.size (.tup [.int (i : Nat), x])) { s with heap := h'', toks := tk + 1 } :=
      I.turnedNew (ch := [e, it]) (fun b ob hb q => (sb.2 b (fun z => hb (by simp [z]))).trans (hk b ob (fun z => hb (by simp [z])) (fun z => hb (by simp [z])) q)) hf (Nat.le_refl _) new
    refine ⟨.ref s.heap.objs.size, _, I1, rfl, ⟨_, x, rfl, I.hok.fresh (Nat.le_refl _), rfl, fun ys hy => by rw [I.tuple_inj hy hq]; exact hx⟩, ⟨⟨y, ?_⟩, hit'.1.at fun o q => (sb.2 it (Ne.symm hne)).trans q, hne, hai, hea⟩, fun b hb => ?_⟩
    · have e1 : ((i + 1 : Nat) : Int) = (i : Int) + 1 := by omega
      rw [e1]; exact he'
    · have hb' : b < s.heap.objs.size := by
        have e' : b = e ∨ b = it := by simpa using hb
        rcases e' with z | z
        · rw [z]; exact hel
        · rw [z]; exact hil
      rw [upd_ne (Nat.ne_of_lt hb')]
      exact (hf b hb).1
  done := by
    intro X hP hw hK hc i pins s σ H E I hf st hg
    subst hP hw hK
    obtain ⟨⟨old, he⟩, hit, hne, hai, hea⟩ := st
    obtain ⟨xs, hq, hx⟩ := hg
    obtain ⟨its, rv, p, hz⟩ := I.tuple hq
    obtain ⟨f0, f1, f2, f3, f4, f5⟩ := hf it (by simp)
    have hl := rv.length
    have hi2 : its.toArray[i]? = none := by
      rw [List.getElem?_toArray, List.getElem?_eq_none]
      omega
    exact PySem.MiE.enum_endT (I.ok.hd hc) he hit p hi2 fun h' eb => ⟨rfl, I.turned (t' := s.toks) (fun b o hb q => eb b o hb q) f0 f1 f3 f4 f5⟩
  self := fun A i s Q E st h => let ⟨⟨_, he⟩, _⟩ := st; wpAny_pyIter_enum he h
def iEnumT (K : PySem.W.Frag) (ta : TA) : TI := fun σ H R => ta σ H fun vs H1 => ∃ a xs, vs = [.ref a] ∧ SqT K H1 a xs ∧ R (IteT K a) H1
theorem pi_enumT {X : Cx} {e : Expr} {ta : TA} {p pos tpos : Pos} {elts : List Expr} {kk : Nat} (hg : Gl X "enumerate") (hm : X.mg "enumerate" = none) (ha : PA X [e] ta) (hs : starEach [e] X.env = [(false, eval e X.env)] := by rfl) :
    PI X (.Tuple elts kk tpos) (.Call (.Name "enumerate" p) [e] [] pos) (iEnumT X.K ta) := by
  refine ⟨fun pins s σ H R I h => ?_⟩
  refine Call_ (ld_blt I hg hm boot_enumerate (PyProof.Rows.callWith_type1 (thn (ha.run pos pins s σ H _ I h) fun us s1 ⟨vs, H1, I1, r1, q1⟩ => ?_) hs rfl))
  obtain ⟨a, xs, ex, hq, q⟩ := q1
  subst ex
  cases r1 with
  | cons r rr =>
    cases rr
    cases r
    obtain ⟨its, rv, p', hz⟩ := I1.tuple hq
    have hal : a < s1.heap.objs.size := by obtain ⟨_, e1, _⟩ := p'; exact Heap.lt_size e1
    refine PySem.MiE.enum1 (begins_tuple a its.toArray) p' fun h' he hit hsz hk => wpAny_pyIter_enum he ?_
    have I2 : Inv X pins σ H1 { s1 with heap := h' } := I1.kept (t' := s1.toks) hk
    refine ⟨s1.heap.objs.size + 1, [s1.heap.objs.size + 1, s1.heap.objs.size], _, _, H1, rfl, I2, turn_enumT a (s1.heap.objs.size + 1) s1.heap.objs.size, ⟨⟨.none, he⟩, ⟨_, hit, rfl, rfl⟩, Nat.succ_ne_self _, Nat.ne_of_lt hal, Nat.ne_of_gt (Nat.lt_succ_of_lt hal)⟩, fun b hb => ?_, q⟩
    have e' : b = s1.heap.objs.size + 1 ∨ b = s1.heap.objs.size := by simpa using hb
    have hle : s1.heap.objs.size ≤ b := by
      rcases e' with z | z
      · rw [z]; exact Nat.le_succ _
      · rw [z]; exact Nat.le_refl _
    exact I1.fpOk hle (I1.hok.fresh hle)
/-! ### their mirrors -/
def enumL : Nat → List D → List IV
  | _, [] => []
  | i, d :: r => .pair (.int (i : Nat)) d :: enumL (i + 1) r
def zipL : List D → List D → List IV
  | d :: r, e :: s => .pair d e :: zipL r s
  | _, _ => []
section
variable {K : PySem.W.Frag} {mg : Str → Option Value} {W : WX} {F F' H H' : Hp} {G : Gh} {σ : St} {ρ : En}
theorem enumL_get : ∀ {ds : List D} {k i : Nat} {iv : IV}, (enumL k ds)[i]? = some iv → ∃ d, ds[i]? = some d ∧ iv = .pair (.int ((k + i : Nat))) d
  | [], _, _, _, h => by simp [enumL] at h
  | d :: r, k, 0, iv, h => by
    cases h
    exact ⟨d, rfl, rfl⟩
  | d :: r, k, i + 1, iv, h => by
    obtain ⟨e, h1, h2⟩ := enumL_get (ds := r) (k := k + 1) (i := i) (iv := iv) h
    refine ⟨e, h1, ?_⟩
    rw [h2, show k + 1 + i = k + (i + 1) by omega]
theorem enumL_len : ∀ {ds : List D} {k : Nat}, (enumL k ds).length = ds.length
  | [], _ => rfl
  | _ :: r, k => congrArg Nat.succ (enumL_len (ds := r) (k := k + 1))
theorem zipL_get : ∀ {ds es : List D} {i : Nat} {iv : IV}, (zipL ds es)[i]? = some iv → ∃ d e, ds[i]? = some d ∧ es[i]? = some e ∧ iv = .pair d e
  | [], _, _, _, h => by simp [zipL] at h
  | _ :: _, [], _, _, h => by simp [zipL] at h
  | d :: r, e :: s, 0, iv, h => by
    cases h
    exact ⟨d, e, rfl, rfl, rfl⟩
  | d :: r, e :: s, i + 1, iv, h => zipL_get (ds := r) (es := s) (i := i) h
theorem zipL_len : ∀ {ds es : List D}, (zipL ds es).length = min ds.length es.length
  | [], _ => by simp [zipL]
  | _ :: _, [] => by simp [zipL]
  | _ :: r, _ :: s => by
    show (zipL r s).length + 1 = _
    rw [zipL_len (ds := r) (es := s), List.length_cons, List.length_cons]
    omega
theorem jok_enumT {a : Addr} {vs : List V} {ds : List D} (h : FT F a vs) (r : RpA K mg F vs ds) : JOk K mg F (IteT K a) (enumL 0 ds) := by
  refine ⟨fun F2 H2 i e1 e2 hi => ⟨vs, (h.mono (e1.trans e2)).seq, by rw [r.len]; rw [enumL_len] at hi; exact hi⟩, fun F2 H2 i iv e1 e2 hi => ?_, fun F2 H2 i iv x H' e1 e2 hi hy => ?_⟩
  · obtain ⟨d, hd, rfl⟩ := enumL_get hi
    obtain ⟨v, hv, _⟩ := r.get hd
    exact ⟨vs, v, (h.mono (e1.trans e2)).seq, hv⟩
  · obtain ⟨d, hd, rfl⟩ := enumL_get hi
    obtain ⟨v, hv, rv⟩ := r.get hd
    obtain ⟨T, y, rfl, hT, rfl, k⟩ := hy
    have e := k vs (h.mono (e1.trans e2)).seq
    rw [hv] at e
    cases e
    refine ⟨F2, ⟨Same.refl _, same_upd hT, e2.trans (same_upd hT), fun _ _ h => .inl h⟩, .pair (.inl (.inl upd_same)) ?_ (rv.mono e1)⟩
    rw [Nat.zero_add]
    exact .int _
theorem jok_enumL {a : Addr} {vs : List V} {ds : List D} (h : SqL K F a vs) (r : RpA K mg F vs ds) : JOk K mg F (Ite K a) (enumL 0 ds) := by
  refine ⟨fun F2 H2 i e1 e2 hi => ⟨vs, (e1.trans e2).seq h, by rw [r.len]; rw [enumL_len] at hi; exact hi⟩, fun F2 H2 i iv e1 e2 hi => ?_, fun F2 H2 i iv x H' e1 e2 hi hy => ?_⟩
  · obtain ⟨d, hd, rfl⟩ := enumL_get hi
    obtain ⟨v, hv, _⟩ := r.get hd
    exact ⟨vs, v, (e1.trans e2).seq h, hv⟩
  · obtain ⟨d, hd, rfl⟩ := enumL_get hi
    obtain ⟨v, hv, rv⟩ := r.get hd
    obtain ⟨T, y, rfl, hT, rfl, k⟩ := hy
    have e := k vs ((e1.trans e2).seq h)
    rw [hv] at e
    cases e
    refine ⟨F2, ⟨Same.refl _, same_upd hT, e2.trans (same_upd hT), fun _ _ h => .inl h⟩, .pair (.inl (.inl upd_same)) ?_ (rv.mono e1)⟩
    rw [Nat.zero_add]
    exact .int _
theorem jok_zipT {a b : Addr} {vs ws : List V} {ds es : List D} (h : FT F a vs) (r : RpA K mg F vs ds) (h' : FT F b ws) (r' : RpA K mg F ws es) : JOk K mg F (RZ.ItzT K a b) (zipL ds es) := by
  refine ⟨fun F2 H2 i e1 e2 hi => ⟨vs, ws, (h.mono (e1.trans e2)).seq, (h'.mono (e1.trans e2)).seq, by rw [r.len, r'.len]; rw [zipL_len] at hi; omega⟩, fun F2 H2 i iv e1 e2 hi => ?_, fun F2 H2 i iv x H' e1 e2 hi hy => ?_⟩
  · obtain ⟨d, e, hd, he, rfl⟩ := zipL_get hi
    obtain ⟨v, hv, _⟩ := r.get hd
    obtain ⟨w, hw, _⟩ := r'.get he
    exact ⟨vs, ws, v, w, (h.mono (e1.trans e2)).seq, (h'.mono (e1.trans e2)).seq, hv, hw⟩
  · obtain ⟨d, e, hd, he, rfl⟩ := zipL_get hi
    obtain ⟨v, hv, rv⟩ := r.get hd
    obtain ⟨w, hw, rw'⟩ := r'.get he
    obtain ⟨T, y, z, rfl, hT, rfl, k, k'⟩ := hy
    have q := k vs (h.mono (e1.trans e2)).seq
    have q' := k' ws (h'.mono (e1.trans e2)).seq
    rw [hv] at q
    rw [hw] at q'
    cases q
    cases q'
    exact ⟨F2, ⟨Same.refl _, same_upd hT, e2.trans (same_upd hT), fun _ _ h => .inl h⟩, .pair (.inl (.inl upd_same)) (rv.mono e1) (rw'.mono e1)⟩
theorem jok_zipL {a b : Addr} {vs ws : List V} {ds es : List D} (h : SqL K F a vs) (r : RpA K mg F vs ds) (h' : SqL K F b ws) (r' : RpA K mg F ws es) : JOk K mg F (Itz K a b) (zipL ds es) := by
  refine ⟨fun F2 H2 i e1 e2 hi => ⟨vs, ws, (e1.trans e2).seq h, (e1.trans e2).seq h', by rw [r.len, r'.len]; rw [zipL_len] at hi; omega⟩, fun F2 H2 i iv e1 e2 hi => ?_, fun F2 H2 i iv x H' e1 e2 hi hy => ?_⟩
  · obtain ⟨d, e, hd, he, rfl⟩ := zipL_get hi
    obtain ⟨v, hv, _⟩ := r.get hd
    obtain ⟨w, hw, _⟩ := r'.get he
    exact ⟨vs, ws, v, w, (e1.trans e2).seq h, (e1.trans e2).seq h', hv, hw⟩
  · obtain ⟨d, e, hd, he, rfl⟩ := zipL_get hi
    obtain ⟨v, hv, rv⟩ := r.get hd
    obtain ⟨w, hw, rw'⟩ := r'.get he
    obtain ⟨T, y, z, rfl, hT, rfl, k, k'⟩ := hy
    have q := k vs ((e1.trans e2).seq h)
    have q' := k' ws ((e1.trans e2).seq h')
    rw [hv] at q
    rw [hw] at q'
    cases q
    cases q'
    exact ⟨F2, ⟨Same.refl _, same_upd hT, e2.trans (same_upd hT), fun _ _ h => .inl h⟩, .pair (.inl (.inl upd_same)) (rv.mono e1) (rw'.mono e1)⟩
end
/-- for i, x in enumerate(e); for x, y in zip(a, b): what is walked is data (an own list is frozen) -/
def mEnum (m : EM) : IM := fun ρ => (m ρ).bind fun v ρ => match esc v.fz ρ with
  | some (d, ρ) => (match seqD d with
    | some ds => .ok (enumL 0 ds) ρ
    | none => .bad)
  | none => .bad
def sameKind : D → D → Bool
  | .tup _, .tup _ => true
  | .lst _, .lst _ => true
  | .frl _, .frl _ => true
  | .lst _, .frl _ => true
  | .frl _, .lst _ => true
  | _, _ => false
def mZip (ma mb : EM) : IM := fun ρ => (mArg ma (mArg mb mNil) ρ).bind fun vs ρ => match vs with
  | [.d d, .d e] => if sameKind d e then (match seqD d with
    | some ds => (match seqD e with
      | some es => .ok (zipL ds es) ρ
      | none => .bad)
    | none => .bad) else .bad
  | _ => .bad
section
variable {K : PySem.W.Frag} {mg : Str → Option Value} {F H : Hp}
theorem Rp.seqs {x : V} {d : D} {ds : List D} (h : Rp K mg F x d) (hd : seqD d = some ds) : ∃ a vs, x = .ref a ∧ RpA K mg F vs ds ∧ ((SqL K F a vs ∧ ∀ xs, d ≠ .tup xs) ∨ (FT F a vs ∧ d = .tup ds)) := RpI.seq (Same.refl F) (.fz h) hd
end
section
variable {X : Cx} {W : WX} {e e2 : Expr} {m m2 : EM} {p pos tpos : Pos} {elts : List Expr} {kk : Nat}
theorem mi_enum (hg : Gl X "enumerate") (hm : X.mg "enumerate" = none) (he : ME X W e m) (hs : starEach [e] X.env = [(false, eval e X.env)] := by rfl) (hs1 : starEach [e] X.env = (false, eval e X.env) :: starEach [] X.env := by rfl) :
    MI X W (.Tuple elts kk tpos) (.Call (.Name "enumerate" p) [e] [] pos) (mEnum m) :=
  MI.weak (PI.or (pi_enum hg hm (pa_cons he pa_nil hs1) hs) (pi_enumT hg hm (pa_cons he pa_nil hs1) hs)) fun {σ H Q G F ρ} S k => by
    unfold mEnum at k
    cases q : m ρ with
    | bad =>
      rw [q] at k
      exact k.elim
    | ex x ρ1 =>
      rw [q] at k
      exact .inl (sub S (by rw [q]; exact k))
    | ok v ρ1 =>
      rw [q] at k
      dsimp only [R.bind] at k
      cases q1 : esc v.fz ρ1 with
      | none =>
        rw [q1] at k
        exact k.elim
      | some p =>
        obtain ⟨d, ρ2⟩ := p
        rw [q1] at k
        dsimp only at k
        cases q2 : seqD d with
        | none =>
          rw [q2] at k
          exact k.elim
        | some ds =>
          rw [q2] at k
          have core : ∀ F1 H1 x, Sat X.K X.mg G F1 H1 σ ρ1 → Same F F1 → RpO X.K X.mg G F1 H1 σ ρ1 x v → ∃ F3, Same F F3 ∧ Sat X.K X.mg G F3 H1 σ ρ2 ∧ Rp X.K X.mg F3 x d := fun F1 H1 x S1 e1 r1 => by
            obtain ⟨F2, e2, S2, r2⟩ := S1.fz r1
            obtain ⟨F3, e3, S3, r3⟩ := S2.esc r2 q1
            exact ⟨F3, (e1.trans e2).trans e3, S3, r3⟩
          by_cases ht : ∃ xs, d = .tup xs
          · refine .inr (sub S ?_)
            rw [q]
            intro F1 H1 x S1 e1 r1
            obtain ⟨F3, e3, S3, r3⟩ := core F1 H1 x S1 e1 r1
            obtain ⟨a, vs, rfl, ra, h | h⟩ := r3.seqs q2
            · obtain ⟨xs, rfl⟩ := ht
              exact absurd rfl (h.2 xs)
            · exact ⟨a, vs, rfl, (h.1.mono S3.fh).seq, k F3 H1 _ S3 e3 (jok_enumT h.1 ra)⟩
          · refine .inl (sub S ?_)
            rw [q]
            intro F1 H1 x S1 e1 r1
            obtain ⟨F3, e3, S3, r3⟩ := core F1 H1 x S1 e1 r1
            obtain ⟨a, vs, rfl, ra, h | h⟩ := r3.seqs q2
            · exact ⟨a, vs, rfl, S3.fh.seq h.1, k F3 H1 _ S3 e3 (jok_enumL h.1 ra)⟩
            · exact absurd ⟨_, h.2⟩ ht
theorem mi_zip (hg : Gl X "zip") (hm : X.mg "zip" = none) (ha : ME X W e m) (hb : ME X W e2 m2) (hs : starEach [e, e2] X.env = (false, eval e X.env) :: starEach [e2] X.env := by rfl) (hs2 : starEach [e2] X.env = (false, eval e2 X.env) :: starEach [] X.env := by rfl)
    (hpl : (backTo pos (starEach [e2] X.env)).any (·.1) = false := by rfl) : MI X W (.Tuple elts kk tpos) (.Call (.Name "zip" p) [e, e2] [] pos) (mZip m m2) :=
  MI.weak (RZ.pi_zipA hg hm (ma_arg ha (ma_arg hb ma_nil hs2) hs) hs hpl) fun {σ H Q G F ρ} S k => subA S (Gd.bind k fun vs ρ1 F1 H1 xs hq0 S1 e1 r1 k1 => by
    cases r1 with
    | nil => exact k1.elim
    | cons r1 rr =>
      cases rr with
      | nil => cases r1 <;> exact k1.elim
      | cons r2 rr =>
        cases rr with
        | cons r3 r4 => cases r1 <;> first | exact k1.elim | (cases r2 <;> exact k1.elim)
        | nil =>
          cases r1 with
          | o h => exact k1.elim
          | d r1 =>
            cases r2 with
            | o h => exact k1.elim
            | d r2 =>
              rename_i x y d e
              dsimp only at k1
              by_cases hk : sameKind d e = true
              · rw [if_pos hk] at k1
                cases q1 : seqD d with
                | none => rw [q1] at k1; exact k1.elim
                | some ds =>
                  rw [q1] at k1
                  cases q2 : seqD e with
                  | none => rw [q2] at k1; exact k1.elim
                  | some es =>
                    rw [q2] at k1
                    obtain ⟨a, vs, rfl, ra, h⟩ := r1.seqs q1
                    obtain ⟨b, ws, rfl, rb, h'⟩ := r2.seqs q2
                    refine ⟨a, b, vs, ws, rfl, ?_⟩
                    rcases h with ⟨h, hn⟩ | ⟨h, hd⟩
                    · rcases h' with ⟨h', hn'⟩ | ⟨h', hd'⟩
                      · exact .inl ⟨S1.fh.seq h, S1.fh.seq h', k1 F1 H1 _ S1 (Same.refl _) (jok_zipL h ra h' rb)⟩
                      · subst hd'
                        cases d <;> first | (cases hk; done) | (exact absurd rfl (hn _))
                    · rcases h' with ⟨h', hn'⟩ | ⟨h', hd'⟩
                      · subst hd
                        cases e <;> first | (cases hk; done) | (exact absurd rfl (hn' _))
                      · exact .inr ⟨(h.mono S1.fh).seq, (h'.mono S1.fh).seq, k1 F1 H1 _ S1 (Same.refl _) (jok_zipT h ra h' rb)⟩
              · rw [if_neg hk] at k1
                exact k1.elim)
end
end Mi
set_option Elab.async false
set_option linter.all false
set_option maxRecDepth 100000
set_option maxHeartbeats 2000000
/-! Mi, part R: comprehensions of two fors. -/
namespace Mi
open PySem PySem.Spec PyProof.Rows L2 PySem.MiX
/-- one turn of a comprehension -/
def turnL (vs : List Nat) (gm : GM) (tt : TM) (te : EM) (iv : IV) (acc : List D) (ρ : En) : R (List D) := match gm iv ρ with
  | some ρ => (match tt ρ with
    | .ok true ρ => (match te ρ with
      | .ok v ρ => (match esc v.fz ρ with
        | some (d, ρ) => if acc.length < BIG then (if vs.all (canSet ρ) then .ok (acc ++ [d]) (wipeE ρ vs) else .bad) else .bad
        | none => .bad)
      | _ => .bad)
    | .ok false ρ => if vs.all (canSet ρ) then .ok acc (wipeE ρ vs) else .bad
    | _ => .bad)
  | none => .bad
def foldT (f : IV → List D → En → R (List D)) : List IV → List D → En → R (List D)
  | [], acc, ρ => .ok acc ρ
  | iv :: r, acc, ρ => match f iv acc ρ with
    | .ok acc ρ => foldT f r acc ρ
    | _ => .bad
/-- the names of the new list's turns: where it stands, what it holds -/
structure LSt (K : PySem.W.Frag) (mg : Str → Option Value) (G : Gh) (F H : Hp) (σ : St) (ρ : En) (L : Addr) (acc : List D) : Prop where
  sat : Sat K mg G F H σ ρ
  lst : ∃ xs, H L = some (.lst xs) ∧ RpA K mg F xs acc
  nF : F L = none
  nL : ∀ j : Nat, isOw ρ[j]? = true → σ[j]? = some (some (V.ref L)) → False
section
variable {K : PySem.W.Frag} {mg : Str → Option Value} {W : WX} {F F' H H' : Hp} {G : Gh} {σ : St} {ρ : En} {L : Addr} {acc : List D}
theorem LSt.ext (S : LSt K mg G F H σ ρ L acc) (ex : Ext F H F' H') : LSt K mg G F' H' σ ρ L acc := by
  obtain ⟨xs, hL, rA⟩ := S.lst
  refine ⟨S.sat.ext ex, ⟨xs, ex.hh _ _ hL, rA.mono ex.ff⟩, ?_, S.nL⟩
  cases q : F' L with
  | none => rfl
  | some z =>
    rcases ex.nw L z q with q | q
    · rw [S.nF] at q; cases q
    · rw [hL] at q; cases q
/-- within a block that was entered at S (slots σ, ρ): the list stands still -/
theorem LSt.still (S : LSt K mg G F H σ ρ L acc) {F5 H5 : Hp} {σ3 : St} {ρ5 : En} (S5 : Sat K mg (G.blk F H σ ρ) F5 H5 σ3 ρ5) : LSt K mg G F5 H5 σ3 ρ5 L acc := by
  obtain ⟨xs, hL, rA⟩ := S.lst
  have nO : ¬ (G.blk F H σ ρ).O L := fun ⟨j, h1, h2⟩ => S.nL j h1 h2
  refine ⟨S.sat.unblock S5, ⟨xs, S5.h0 L _ hL nO, rA.mono S5.f0⟩, ?_, fun j hj hs => ?_⟩
  · cases q5 : F5 L with
    | none => rfl
    | some z =>
      rcases S5.fn L z q5 with q6 | q6 | q6
      · have q6' : F L = some z := q6
        rw [S.nF] at q6'
        cases q6'
      · have q6' : H L = none := q6
        rw [hL] at q6'
        cases q6'
      · exact absurd q6 nO
  · obtain ⟨a, io, w, q7, h1, h2, h3⟩ := S5.owAt hj
    rw [hs] at h1
    cases h1
    obtain ⟨c, c1, _, _, c4⟩ := S5.own j io w q7
    rw [hs] at c1
    cases c1
    rcases c4 with c4 | c4
    · exact nO c4
    · have c5 : H L = none := c4
      rw [hL] at c5
      cases c5
theorem LSt.wipe (S : LSt K mg G F H σ ρ L acc) {vs : List Nat} (hc : vs.all (canSet ρ) = true) : LSt K mg G F H (L2.wipe σ vs) (wipeE ρ vs) L acc := by
  refine ⟨S.sat.wipe hc, S.lst, S.nF, fun j hj hs => ?_⟩
  by_cases hv : j ∈ vs
  · rw [wipe_in hv] at hs
    split at hs <;> cases hs
  · rw [wipeE_out hv] at hj
    rw [wipe_out hv] at hs
    exact S.nL j hj hs
theorem LSt.add (S : LSt K mg G F H σ ρ L acc) (gL : G.O L ∨ G.H0 L = none) {y : V} {d : D} (r : Rp K mg F y d) : ∃ xs, H L = some (.lst xs) ∧ xs.length = acc.length ∧ LSt K mg G F (L2.upd H L (.lst (xs ++ [y]))) σ ρ L (acc ++ [d]) := by
  obtain ⟨xs, hL, rA⟩ := S.lst
  exact ⟨xs, hL, rA.len, S.sat.grow S.nF S.nL gL, ⟨_, upd_same, rA.app (.one r)⟩, S.nF, S.nL⟩
/-- a turn, as its mirror says -/
theorem turn_ok {vs is : List Nat} {g : TG} {gm : GM} {tt : TM} {te : EM} {iv : IV} {x : V} {acc' : List D} {ρ' : En} {Nx : Hp → Prop} (hgm : TgOk K mg is g gm) (his : ∀ i ∈ is, i ∈ vs) (gL : G.O L ∨ G.H0 L = none) (S : LSt K mg G F H (L2.wipe σ vs) ρ L acc)
    (rv : RpV K mg F H x iv) (k : turnL vs gm tt te iv acc ρ = .ok acc' ρ') (hN : ∀ F' H', Same F F' → LSt K mg G F' H' (L2.wipe σ vs) ρ' L acc' → Nx H') :
    g x (L2.wipe σ vs) H fun σ2 H2 => L2.wipe σ2 vs = L2.wipe σ vs ∧ tT K mg W0 tt σ2 H2 fun b H3 =>
      if b = true then tE K mg W0 te σ2 H3 fun y H4 => ∃ acc, H4 L = some (.lst acc) ∧ acc.length < sizeLine ∧ Nx (L2.upd H4 L (.lst (acc ++ [y]))) else Nx H3 := by
  unfold turnL at k
  cases q : gm iv ρ with
  | none =>
    rw [q] at k
    cases k
  | some ρ3 =>
    rw [q] at k
    dsimp only at k
    refine hgm S.sat.block rv q fun σ3 S4 same3 len3 => ?_
    have hw : L2.wipe σ3 vs = L2.wipe σ vs := by
      rw [← wipe_wipe (σ := σ)]
      exact wipe_same len3 fun j hj => same3 j fun z => hj (his j z)
    refine ⟨hw, subT S4 ?_⟩
    cases qt : tt ρ3 with
    | bad => rw [qt] at k; cases k
    | ex x ρ4 => rw [qt] at k; cases k
    | ok t ρ4 =>
      rw [qt] at k
      intro F4 H4 b S5 e5 eb
      subst eb
      cases b with
      | false =>
        dsimp only at k
        rw [if_neg Bool.false_ne_true]
        by_cases hc : vs.all (canSet ρ4) = true
        · rw [if_pos hc] at k
          cases k
          have S6 := (S.still S5).wipe hc
          rw [hw] at S6
          exact hN F4 H4 e5 S6
        · rw [if_neg hc] at k
          cases k
      | true =>
        dsimp only at k
        rw [if_pos rfl]
        refine sub S5 ?_
        cases qe : te ρ4 with
        | bad => rw [qe] at k; cases k
        | ex x ρ5 => rw [qe] at k; cases k
        | ok v ρ5 =>
          rw [qe] at k
          dsimp only at k
          intro F5 H5 y S6 e6 r6
          obtain ⟨F6, e7, S7, r7⟩ := S6.fz r6
          cases q8 : esc v.fz ρ5 with
          | none => rw [q8] at k; cases k
          | some p =>
            obtain ⟨d, ρ6⟩ := p
            rw [q8] at k
            dsimp only at k
            obtain ⟨F7, e8, S8, r8⟩ := S7.esc r7 q8
            by_cases hz : acc.length < BIG
            · rw [if_pos hz] at k
              by_cases hc : vs.all (canSet ρ6) = true
              · rw [if_pos hc] at k
                cases k
                have S9 := (S.still S8).wipe hc
                rw [hw] at S9
                obtain ⟨xs, h1, h2, h3⟩ := S9.add gL r8
                exact ⟨xs, h1, by rw [h2]; exact Nat.lt_of_lt_of_le hz BIG_le, hN F7 _ (((e5.trans e6).trans e7).trans e8) h3⟩
              · rw [if_neg hc] at k
                cases k
            · rw [if_neg hz] at k
              cases k
end
/-! ### two fors -/
def turn2 (vs : List Nat) (gm : GM) (tt : TM) (im1 : IM) (vs1 : List Nat) (gm1 : GM) (tt1 : TM) (te : EM) (iv : IV) (acc : List D) (ρ : En) : R (List D) := match gm iv ρ with
  | some ρ => (match tt ρ with
    | .ok true ρ => (match im1 ρ with
      | .ok ivs ρ => if vs1.all (canSet ρ) then (match foldT (turnL vs1 gm1 tt1 te) ivs acc (wipeE ρ vs1) with
        | .ok acc ρ => if vs.all (canSet ρ) then .ok acc (wipeE ρ vs) else .bad
        | _ => .bad) else .bad
      | _ => .bad)
    | .ok false ρ => if vs.all (canSet ρ) then .ok acc (wipeE ρ vs) else .bad
    | _ => .bad)
  | none => .bad
def mComp2 (vs : List Nat) (im : IM) (gm : GM) (tt : TM) (im1 : IM) (vs1 : List Nat) (gm1 : GM) (tt1 : TM) (te : EM) : EM := fun ρ => (im ρ).bind fun ivs ρ1 => if vs.all (noOw ρ1) then (match foldT (turn2 vs gm tt im1 vs1 gm1 tt1 te) ivs [] (wipeE ρ1 vs) with
  | .ok acc ρ2 => .ok (.n (.lst acc)) (restE ρ1 ρ2 vs)
  | _ => .bad) else .bad
section
variable {K : PySem.W.Frag} {mg : Str → Option Value} {W : WX} {F F' H H' : Hp} {G : Gh} {σ : St} {ρ : En} {L : Addr} {acc : List D}
variable {vs is vs1 is1 : List Nat} {g g1 : TG} {gm gm1 : GM} {im im1 : IM} {tt tt1 : TM} {te : EM}
theorem comp2_ok {Q : VK} (hgm : TgOk K mg is g gm) (his : ∀ i ∈ is, i ∈ vs) (hgm1 : TgOk K mg is1 g1 gm1) (his1 : ∀ i ∈ is1, i ∈ vs1) (hv : ∀ i ∈ vs1, i ∈ vs) (S : Sat K mg G F H σ ρ) (k : Gd K mg W (RpO K mg) G F σ (mComp2 vs im gm tt im1 vs1 gm1 tt1 te ρ) Q) :
    tLc2 (tI K mg W im) g (tT K mg W0 tt) (tI K mg W0 im1) g1 (tT K mg W0 tt1) (tE K mg W0 te) vs vs1 σ H Q := by
  refine ⟨G, F, ρ, S, Gd.bind k fun ivs ρ1 F1 H1 J _ S1 e1 jok k1 => ?_⟩
  intro L hL
  by_cases hn : vs.all (noOw ρ1) = true
  · rw [if_pos hn] at k1
    have gL : G.O L ∨ G.H0 L = none := (S1.fresh0 hL).symm
    have SL : Sat K mg G F1 (L2.upd H1 L (.lst [])) σ ρ1 := (S1.newOwn hL (OwOk.lst upd_same .nil)).1
    have L0 : LSt K mg G F1 (L2.upd H1 L (.lst [])) σ ρ1 L [] := ⟨SL, ⟨[], upd_same, .nil⟩, S1.fh.free hL, fun j hj hs => by
      obtain ⟨a, _, _, _, ha, _, ok⟩ := S1.owAt hj
      rw [hs] at ha
      cases ha
      obtain ⟨z, hz⟩ := ok.at
      rw [hL] at hz
      cases hz⟩
    -- what stands at turn i
    refine ⟨fun i m H => i + m = ivs.length ∧ ∃ F ρ acc, LSt K mg G F H (L2.wipe σ vs) ρ L acc ∧ Same F1 F ∧
      Gd K mg W (RpO K mg) G F σ (match foldT (turn2 vs gm tt im1 vs1 gm1 tt1 te) (ivs.drop i) acc ρ with
        | .ok acc ρ2 => .ok (.n (.lst acc)) (restE ρ1 ρ2 vs)
        | _ => .bad) Q, ⟨ivs.length, by omega, F1, wipeE ρ1 vs, [], L0.wipe (noOw_can hn), Same.refl _, k1⟩, ?_⟩
    rintro i m H2 ⟨him, F2, ρ2, acc, S2, e2, k2⟩
    by_cases hi : i < ivs.length
    · have hiv : ivs[i]? = some ivs[i] := List.getElem?_eq_getElem hi
      rw [List.drop_eq_getElem_cons hi] at k2
      unfold foldT at k2
      refine .inr ⟨jok.go F2 H2 i _ e2 S2.sat.fh hiv, fun H => ∃ F ρ acc, LSt K mg G F H (L2.wipe σ vs) ρ L acc ∧ Same F1 F ∧
        Gd K mg W (RpO K mg) G F σ (match foldT (turn2 vs gm tt im1 vs1 gm1 tt1 te) (ivs.drop (i + 1)) acc ρ with
          | .ok acc ρ2 => .ok (.n (.lst acc)) (restE ρ1 ρ2 vs)
          | _ => .bad) Q, fun H' hN => ⟨m - 1, by omega, by omega, hN⟩, fun x H' hy => ?_⟩
      obtain ⟨F3, ex, rv⟩ := jok.yld F2 H2 i _ x H' e2 S2.sat.fh hiv hy
      have S3 := S2.ext ex
      cases qq : turn2 vs gm tt im1 vs1 gm1 tt1 te ivs[i] acc ρ2 with
      | bad => rw [qq] at k2; exact k2.elim
      | ex _ _ => rw [qq] at k2; exact k2.elim
      | ok acc' ρ' =>
        rw [qq] at k2
        dsimp only at k2
        have fin : ∀ F' H', Same F3 F' → LSt K mg G F' H' (L2.wipe σ vs) ρ' L acc' → ∃ F ρ acc, LSt K mg G F H' (L2.wipe σ vs) ρ L acc ∧ Same F1 F ∧
            Gd K mg W (RpO K mg) G F σ (match foldT (turn2 vs gm tt im1 vs1 gm1 tt1 te) (ivs.drop (i + 1)) acc ρ with
              | .ok acc ρ2 => .ok (.n (.lst acc)) (restE ρ1 ρ2 vs)
              | _ => .bad) Q := fun F' H' e h => ⟨F', ρ', acc', h, (e2.trans ex.ff).trans e, Gd.mono (ex.ff.trans e) k2⟩
        unfold turn2 at qq
        cases q : gm ivs[i] ρ2 with
        | none => rw [q] at qq; cases qq
        | some ρ3 =>
          rw [q] at qq
          dsimp only at qq
          refine hgm S3.sat.block rv q fun σ3 S4 same3 len3 => ?_
          have hw : L2.wipe σ3 vs = L2.wipe σ vs := by
            rw [← wipe_wipe (σ := σ)]
            exact wipe_same len3 fun j hj => same3 j fun z => hj (his j z)
          refine ⟨hw, subT S4 ?_⟩
          cases qt : tt ρ3 with
          | bad => rw [qt] at qq; cases qq
          | ex _ _ => rw [qt] at qq; cases qq
          | ok t ρ4 =>
            rw [qt] at qq
            intro F4 H4 b S5 e5 eb
            subst eb
            cases b with
            | false =>
              dsimp only at qq
              rw [if_neg Bool.false_ne_true]
              by_cases hc : vs.all (canSet ρ4) = true
              · rw [if_pos hc] at qq
                cases qq
                have S6 := (S3.still S5).wipe hc
                rw [hw] at S6
                exact fin F4 H4 e5 S6
              · rw [if_neg hc] at qq
                cases qq
            | true =>
              dsimp only at qq
              rw [if_pos rfl]
              refine ⟨_, F4, ρ4, S5, ?_⟩
              cases qi : im1 ρ4 with
              | bad => rw [qi] at qq; cases qq
              | ex _ _ => rw [qi] at qq; cases qq
              | ok ivs1 ρ5 =>
                rw [qi] at qq
                dsimp only at qq
                intro F5 H5 J1 S6 e6 jok1
                by_cases hc1 : vs1.all (canSet ρ5) = true
                · rw [if_pos hc1] at qq
                  have S7 := (S3.still S6).wipe hc1
                  refine ⟨fun j n H => j + n = ivs1.length ∧ ∃ F ρ acc, LSt K mg G F H (L2.wipe σ3 vs1) ρ L acc ∧ Same F5 F ∧
                    (match foldT (turnL vs1 gm1 tt1 te) (ivs1.drop j) acc ρ with
                      | .ok acc ρ => if vs.all (canSet ρ) then .ok acc (wipeE ρ vs) else .bad
                      | _ => .bad) = R.ok acc' ρ', ⟨ivs1.length, by omega, F5, wipeE ρ5 vs1, acc, S7, Same.refl _, qq⟩, ?_⟩
                  rintro j n H8 ⟨hjn, F8, ρ8, acc8, S8, e8, q8⟩
                  by_cases hj : j < ivs1.length
                  · have hjv : ivs1[j]? = some ivs1[j] := List.getElem?_eq_getElem hj
                    rw [List.drop_eq_getElem_cons hj] at q8
                    unfold foldT at q8
                    refine .inr ⟨jok1.go F8 H8 j _ e8 S8.sat.fh hjv, fun H => ∃ F ρ acc, LSt K mg G F H (L2.wipe σ3 vs1) ρ L acc ∧ Same F5 F ∧
                      (match foldT (turnL vs1 gm1 tt1 te) (ivs1.drop (j + 1)) acc ρ with
                        | .ok acc ρ => if vs.all (canSet ρ) then .ok acc (wipeE ρ vs) else .bad
                        | _ => .bad) = R.ok acc' ρ', fun H' hN => ⟨n - 1, by omega, by omega, hN⟩, fun y H9 hy1 => ?_⟩
                    obtain ⟨F9, ex9, rv9⟩ := jok1.yld F8 H8 j _ y H9 e8 S8.sat.fh hjv hy1
                    cases q9 : turnL vs1 gm1 tt1 te ivs1[j] acc8 ρ8 with
                    | bad => rw [q9] at q8; cases q8
                    | ex _ _ => rw [q9] at q8; cases q8
                    | ok acc9 ρ9 =>
                      rw [q9] at q8
                      exact turn_ok hgm1 his1 gL (S8.ext ex9) rv9 q9 fun F' H' e h => ⟨F', ρ9, acc9, h, (e8.trans ex9.ff).trans e, q8⟩
                  · have hd : ivs1.drop j = [] := List.drop_eq_nil_of_le (by omega)
                    rw [hd] at q8
                    unfold foldT at q8
                    dsimp only at q8
                    refine .inl ⟨jok1.stop F8 H8 j e8 S8.sat.fh (by omega), ?_⟩
                    by_cases hc : vs.all (canSet ρ8) = true
                    · rw [if_pos hc] at q8
                      cases q8
                      have S10 := S8.wipe hc
                      have hw2 : L2.wipe (L2.wipe σ3 vs1) vs = L2.wipe σ vs := by
                        rw [← hw]
                        exact wipe_same (wipe_length σ3 vs1) fun j hj => wipe_out fun z => hj (hv j z)
                      rw [hw2] at S10
                      exact fin F8 H8 ((e5.trans e6).trans e8) S10
                    · rw [if_neg hc] at q8
                      cases q8
                · rw [if_neg hc1] at qq
                  cases qq
    · have hd : ivs.drop i = [] := List.drop_eq_nil_of_le (by omega)
      rw [hd] at k2
      unfold foldT at k2
      refine .inl ⟨jok.stop F2 H2 i e2 S2.sat.fh (by omega), ?_⟩
      obtain ⟨xs, hL2, rA⟩ := S2.lst
      have S5 := Sat.unwipe SL hn e2 S2.sat
      refine k2 F2 H2 _ S5 (Same.refl _) (.n S2.nF (.lst hL2 rA) gL fun j hj hs => ?_)
      by_cases hvj : j ∈ vs
      · cases q : (restE ρ1 ρ2 vs)[j]? with
        | none =>
          rw [q] at hj
          cases hj
        | some t =>
          have e9 := restE_in hvj q
          have e10 := List.all_eq_true.mp hn j hvj
          unfold noOw at e10
          rw [q, e9, List.getD_eq_getElem?_getD] at hj
          cases q2 : ρ1[j]? with
          | none =>
            rw [q2] at hj
            cases hj
          | some t2 =>
            rw [q2] at hj e10
            cases t2 with
            | own _ _ => cases e10
            | _ => cases hj
      · rw [restE_out hvj] at hj
        exact S2.nL j hj (by rw [wipe_out hvj]; exact hs)
  · rw [if_neg hn] at k1
    exact k1.elim
end
section
variable {X : Cx} {W : WX} {tg iter tg1 iter1 elt : Expr} {ifs ifs1 : List Expr} {scope : Scope} {pos : Pos} {is is1 vs1 : List Nat} {g g1 : TG} {gm gm1 : GM} {im im1 : IM} {tt tt1 : TM} {te : EM}
theorem me_comp2 {own : List (Str × Nat)} (hc : X.calm = true) (hN : X.N.Nodup) (hi : MI X W tg iter im) (ok : BlkOk X.N X.env.scope scope own) (hv : ∀ i ∈ vs1, i ∈ own.map (·.2))
    (hg : ∀ (s : Shared) (H : Hp) (C : Addr) (cl : List (Str × Addr)) (fp : List Addr), PG (X.blk s H scope (compEnvC scope cl C X.env) fp) tg g)
    (ht : ∀ (s : Shared) (H : Hp) (C : Addr) (cl : List (Str × Addr)) (fp : List Addr), MTs (X.blk s H scope (compEnvC scope cl C X.env) fp) W0 ifs tt)
    (hi1 : ∀ (s : Shared) (H : Hp) (C : Addr) (cl : List (Str × Addr)) (fp : List Addr), MI (X.blk s H scope (compEnvC scope cl C X.env) fp) W0 tg1 iter1 im1)
    (hg1 : ∀ (s : Shared) (H : Hp) (C : Addr) (cl : List (Str × Addr)) (fp : List Addr), PG (X.blk s H scope (compEnvC scope cl C X.env) fp) tg1 g1)
    (ht1 : ∀ (s : Shared) (H : Hp) (C : Addr) (cl : List (Str × Addr)) (fp : List Addr), MTs (X.blk s H scope (compEnvC scope cl C X.env) fp) W0 ifs1 tt1)
    (he : ∀ (s : Shared) (H : Hp) (C : Addr) (cl : List (Str × Addr)) (fp : List Addr), ME (X.blk s H scope (compEnvC scope cl C X.env) fp) W0 elt te) (hgm : TgOk X.K X.mg is g gm) (his : ∀ i ∈ is, i ∈ own.map (·.2)) (hgm1 : TgOk X.K X.mg is1 g1 gm1) (his1 : ∀ i ∈ is1, i ∈ vs1)
    (hs : ∀ x, foldedSetIterable iter X.env x = pure x := by intro _; rfl) (hs1 : ∀ env x, foldedSetIterable iter1 env x = pure x := by intro _ _; rfl) :
    ME X W (.ListComp elt [⟨tg, iter, ifs, 0⟩, ⟨tg1, iter1, ifs1, 0⟩] scope pos) (mComp2 (own.map (·.2)) im gm tt im1 vs1 gm1 tt1 te) :=
  ME.weak (pe_lc2 hc hN hi ok hv hg ht hi1 hg1 ht1 he hs hs1) fun S k => comp2_ok hgm his hgm1 his1 hv S k
theorem ms_setComp2 {own : List (Str × Nat)} {i : Nat} {y : Str} {py spos : Pos} (hc : X.calm = true) (hN : X.N.Nodup) (hy : X.N[i]? = some y) (hyl : X.env.scope.names.lookup y = some .local)
    (hsw : swapsWith (.ListComp elt [⟨tg, iter, ifs, 0⟩, ⟨tg1, iter1, ifs1, 0⟩] scope pos) (some (.Name y py)) spos.line X.env = pure true) (hi : MI X W tg iter im) (ok : BlkOk X.N X.env.scope scope own) (hv : ∀ i ∈ vs1, i ∈ own.map (·.2))
    (hg : ∀ (s : Shared) (H : Hp) (C : Addr) (cl : List (Str × Addr)) (fp : List Addr), PG (X.blk s H scope (compEnvC scope cl C X.env) fp) tg g)
    (ht : ∀ (s : Shared) (H : Hp) (C : Addr) (cl : List (Str × Addr)) (fp : List Addr), MTs (X.blk s H scope (compEnvC scope cl C X.env) fp) W0 ifs tt)
    (hi1 : ∀ (s : Shared) (H : Hp) (C : Addr) (cl : List (Str × Addr)) (fp : List Addr), MI (X.blk s H scope (compEnvC scope cl C X.env) fp) W0 tg1 iter1 im1)
    (hg1 : ∀ (s : Shared) (H : Hp) (C : Addr) (cl : List (Str × Addr)) (fp : List Addr), PG (X.blk s H scope (compEnvC scope cl C X.env) fp) tg1 g1)
    (ht1 : ∀ (s : Shared) (H : Hp) (C : Addr) (cl : List (Str × Addr)) (fp : List Addr), MTs (X.blk s H scope (compEnvC scope cl C X.env) fp) W0 ifs1 tt1)
    (he : ∀ (s : Shared) (H : Hp) (C : Addr) (cl : List (Str × Addr)) (fp : List Addr), ME (X.blk s H scope (compEnvC scope cl C X.env) fp) W0 elt te) (hgm : TgOk X.K X.mg is g gm) (his : ∀ i ∈ is, i ∈ own.map (·.2)) (hgm1 : TgOk X.K X.mg is1 g1 gm1) (his1 : ∀ i ∈ is1, i ∈ vs1)
    (hs : ∀ x, foldedSetIterable iter X.env x = pure x := by intro _; rfl) (hs1 : ∀ env x, foldedSetIterable iter1 env x = pure x := by intro _ _; rfl) :
    MS X W (.Assign [.Name y py] (.ListComp elt [⟨tg, iter, ifs, 0⟩, ⟨tg1, iter1, ifs1, 0⟩] scope pos) spos) (mSet i (mComp2 (own.map (·.2)) im gm tt im1 vs1 gm1 tt1 te)) :=
  MS.weak (ps_setLc2 hc hN hy hyl hsw hi ok hv hg ht hi1 hg1 ht1 he hs hs1) fun {σ H D G F ρ} S k => comp2_ok (W := W) (Q := fun x H1 => D.nx (σ.set i (some x)) H1) hgm his hgm1 his1 hv S (Gd.st k fun v ρ1 F1 H1 x S1 e1 r1 k1 => set_fin S1 r1 k1)
end
end Mi
set_option Elab.async false
set_option linter.all false
set_option maxRecDepth 100000
set_option maxHeartbeats 2000000
/-! Mi, part U: dicts with int and text keys: {}, in, not in; module constants. -/
namespace Mi
open PySem PySem.Spec PyProof.Rows L2 PySem.MiX
def mDkNew : EM := fun ρ => .ok (.n (.dk [])) ρ
theorem me_dkNew {X : Cx} {W : WX} {pos : Pos} : ME X W (.Dict [] [] pos) mDkNew :=
  ME.weak pe_dnewK fun {σ H Q G F ρ} S g p hp => by
    obtain ⟨S3, r3⟩ := S.newOwn hp (OwOk.dk (upd_same (H := H) (a := p) (o := HO.dK [])) .nil)
    exact g _ _ _ S3 (Same.refl _) r3
abbrev rDkIn (K : PySem.W.Frag) (n : Bool) : R2 := fun x y H Q => ∃ a o, y = .ref a ∧ DGet H a x o ∧ Q (.bl (if n then !o.isSome else o.isSome)) H
section
variable {X : Cx}
theorem op_dkIn (hu : X.A.units + 1 < cLine) : OpR X (compareOp .In) (rDkIn X.K false) := by
  intro pins s σ H x y v u Q I rx ry h
  obtain ⟨a, o, rfl, g, q⟩ := h
  cases ry
  exact d_in hu I g rx fun s3 I3 => ⟨.bl o.isSome, H, I3, rfl, q⟩
theorem op_dkNotIn (hu : X.A.units + 1 < cLine) : OpR X (compareOp .NotIn) (rDkIn X.K true) := by
  intro pins s σ H x y v u Q I rx ry h
  obtain ⟨a, o, rfl, g, q⟩ := h
  cases ry
  exact d_notIn hu I g rx fun s3 I3 => ⟨.bl (!o.isSome), H, I3, rfl, q⟩
end
def dDkIn (n : Bool) (x y : D) : Option D := match y with
  | .dk kvs => (keyD x).map fun k => .bl (if n then !(lookK kvs k).isSome else (lookK kvs k).isSome)
  | _ => none
section
variable {K : PySem.W.Frag} {mg : Str → Option Value}
theorem o_dkIn (n : Bool) : Op2 K mg (rDkIn K n) (dDkIn n) := fun {F H x y d e z Q} hs rx ry h q => by
  cases e with
  | dk kvs =>
    obtain ⟨k, h1, rfl⟩ := Option.map_eq_some_iff.mp h
    obtain ⟨a, vs, rfl, ha, rk⟩ := ry.dk hs
    have ek := keyD_V (rx.rp hs) h1
    subst ek
    rcases rk.look k with ⟨l1, l2⟩ | ⟨v, dd, l1, l2, _⟩
    · refine ⟨a, none, rfl, .inl ⟨vs, k, .inl ha, rfl, l2.symm⟩, ?_⟩
      rw [l1] at q
      exact q F H _ (.refl hs) (.bl _)
    · refine ⟨a, some v, rfl, .inl ⟨vs, k, .inl ha, rfl, l2.symm⟩, ?_⟩
      rw [l1] at q
      exact q F H _ (.refl hs) (.bl _)
  | _ => cases h
/-- either of two operators -/
def dOr (g g' : D → D → Option D) : D → D → Option D := fun x y => match g x y with
  | some z => some z
  | none => g' x y
theorem o_or {r r' : R2} {g g' : D → D → Option D} (o : Op2 K mg r g) (o' : Op2 K mg r' g') : Op2 K mg (fun x y H Q => r x y H Q ∨ r' x y H Q) (dOr g g') := fun {F H x y d e z Q} hs rx ry h q => by
  unfold dOr at h
  cases q1 : g d e with
  | some w =>
    rw [q1] at h
    cases h
    exact .inl (o hs rx ry q1 q)
  | none =>
    rw [q1] at h
    exact .inr (o' hs rx ry h q)
end
/-- a module's constant -/
theorem me_gl {X : Cx} {W : WX} {x : Str} {v : V} {d : D} {u : Value} {pos : Pos} (hg : Gl X x) (hm : X.mg x = some u) (r : RelV v u) (rd : ∀ F, Rp X.K X.mg F v d) (hd : (x == ("__debug__" : Str)) = false := by decide) : ME X W (.Name x pos) (mC d) := me_c (pe_glob hg hm r hd) rd
end Mi
set_option Elab.async false
set_option linter.all false
set_option maxRecDepth 100000
set_option maxHeartbeats 2000000
/-! Mi, part V: a def as its callers know it; bad promises; shorthands for the derivations. -/
namespace Mi
open PySem PySem.Spec PyProof.Rows L2 PySem.MiX
/-- the def named x keeps its mirror's promise, at level k -/
structure CalM (P : Program) (w : World) (K : PySem.W.Frag) (mg : Str → Option Value) (base : Heap) (k : Nat) (x : Str) (n : Nat) (ios : List Nat) (m : List Sl → DR) : Prop where
  ex : ∃ f fd ps, FnOk P w K mg base (L2.CX P w) k f fd ps (spM K mg n ios m) ∧ mg x = some (.ref f) ∧ PySem.W.keepIn K (.ref f) = true ∧ Binds K fd ps []
theorem me_callM {X : Cx} {W : WX} {ios : List Nat} {f : List Sl → DR} {ms : AM} {k j n : Nat} {x : Str} {p pos : Pos} {e : Expr} {es : List Expr} (c : CalM X.prog X.w X.K X.mg X.base k x n ios f) (hr : Room j X.A) (hk : k ≤ j) (tk : Takes X W) (hg : Gl X x)
    (ha : MA X W (e :: es) ms) (hml : ∀ ρ vs ρ', ms ρ = .ok vs ρ' → vs.length = (e :: es).length) (hn : (e :: es).length = n := by rfl)
    (hdb : (x == ("__debug__" : Str)) = false := by decide) (he : starEach (e :: es) X.env = (false, eval e X.env) :: starEach es X.env := by rfl) (hpl : (backTo pos (starEach es X.env)).any (·.1) = false := by rfl) :
    ME X W (.Call (.Name x p) (e :: es) [] pos) (mCall ios f [] ms) := by
  obtain ⟨fa, fd, ps, FO, hm, hkp, hb⟩ := c.ex
  exact me_call (dv := []) (dvs := []) (ds := []) FO (hr.mono hk) tk hg hm hkp hb .nil (fun _ => .nil) (by simpa using hn) ha hml hdb he hpl
theorem calM_of {P : Program} {w : World} {K : PySem.W.Frag} {mg : Str → Option Value} {base : Heap} {k : Nat} {x : Str} {n : Nat} {ios : List Nat} {m : List Sl → DR} {f : Addr} {fd : FuncData} {ps : List Str}
    (FO : FnOk P w K mg base (L2.CX P w) k f fd ps (spM K mg n ios m)) (hm : mg x = some (.ref f)) (hk : PySem.W.keepIn K (.ref f) = true) (hb : Binds K fd ps []) : CalM P w K mg base k x n ios m := ⟨f, fd, ps, FO, hm, hk, hb⟩
/-- nothing is promised -/
theorem fnok_bad {P : Program} {w : World} {K : PySem.W.Frag} {mg : Str → Option Value} {base : Heap} {k : Nat} {n : Nat} {ios : List Nat} {f : Addr} {fd : FuncData} {ps : List Str} : FnOk P w K mg base (L2.CX P w) k f fd ps (spM K mg n ios (fun _ => .bad)) where
  len := fun vs H Q E h => by
    obtain ⟨_, _, _, _, _, h⟩ := h
    exact h.elim
  run := fun A outer s H args us vs Q E hr he hb hv h => by
    obtain ⟨_, _, _, _, _, h⟩ := h
    exact h.elim
theorem takes_W0 {X : Cx} : Takes X W0 := takes_none5
end Mi
namespace Mi
open PySem PySem.Spec PyProof.Rows L2 PySem.MiX
/-! ### is, is not: True, False, None on the right -/
theorem relV_plain {x : V} {v : Value} (r : RelV x v) : (∀ b, plainIs v (.bool b) = true) ∧ plainIs v .none = true ∧ (∀ b, (v == Value.bool b) = decide (x = .bl b)) := by
  cases x with
  | non => cases (show v = Value.none from r); exact ⟨fun _ => rfl, rfl, fun _ => rfl⟩
  | bl a =>
    cases (show v = Value.bool a from r)
    refine ⟨fun _ => rfl, rfl, fun b => ?_⟩
    by_cases e : a = b
    · subst e; simp
    · have e1 : (Value.bool a == Value.bool b) = false := by simp [e]
      rw [e1]
      simp [e]
  | int i => obtain ⟨t, q⟩ := (show ∃ t, v = Value.int i t from r); cases q; exact ⟨fun _ => rfl, rfl, fun _ => rfl⟩
  | str x => obtain ⟨t, q⟩ := (show ∃ t, v = Value.str x t from r); cases q; exact ⟨fun _ => rfl, rfl, fun _ => rfl⟩
  | byt x => obtain ⟨t, q⟩ := (show ∃ t, v = Value.bytes x t from r); cases q; exact ⟨fun _ => rfl, rfl, fun _ => rfl⟩
  | flt x => obtain ⟨t, q⟩ := (show ∃ t, v = Value.float x t from r); cases q; exact ⟨fun _ => rfl, rfl, fun _ => rfl⟩
  | ref a => cases (show v = Value.ref a from r); exact ⟨fun _ => rfl, rfl, fun _ => rfl⟩
  | ty n => cases (show v = Value.type n from r); exact ⟨fun _ => rfl, rfl, fun _ => rfl⟩
def rIsA (n : Bool) : R2 := fun x y H Q => (∃ b : Bool, y = .bl b ∧ Q (.bl (if n then !decide (x = .bl b) else decide (x = .bl b))) H) ∨ (y = .non ∧ Q (.bl (if n then !decide (x = .non) else decide (x = .non))) H)
section
variable {X : Cx}
theorem op_isA : OpR X (compareOp .Is) (rIsA false) := by
  intro pins s σ H x y v u Q I rx ry h
  rcases h with ⟨b, rfl, q⟩ | ⟨rfl, q⟩
  · cases (show u = Value.bool b from ry)
    obtain ⟨p1, _, p3⟩ := relV_plain rx
    exact wpAny_is_plain (p1 b) ⟨.bl (decide (x = .bl b)), H, I, by rw [p3 b]; rfl, q⟩
  · exact op_isN pins s σ H x .non v u Q I rx ry ⟨rfl, q⟩
theorem op_notA : OpR X (compareOp .IsNot) (rIsA true) := by
  intro pins s σ H x y v u Q I rx ry h
  rcases h with ⟨b, rfl, q⟩ | ⟨rfl, q⟩
  · cases (show u = Value.bool b from ry)
    obtain ⟨p1, _, p3⟩ := relV_plain rx
    exact wpAny_isNot_plain (p1 b) ⟨.bl (!decide (x = .bl b)), H, I, by rw [p3 b]; rfl, q⟩
  · exact op_notN pins s σ H x .non v u Q I rx ry ⟨rfl, q⟩
end
def isBlD (b : Bool) : D → Bool
  | .bl a => a == b
  | _ => false
def isNonD : D → Bool
  | .non => true
  | _ => false
def dIsA (n : Bool) (x y : D) : Option D := match y with
  | .bl b => some (.bl (if n then !isBlD b x else isBlD b x))
  | .non => some (.bl (if n then !isNonD x else isNonD x))
  | _ => none
section
variable {K : PySem.W.Frag} {mg : Str → Option Value} {F H : Hp}
theorem isBl_V {v : V} {d : D} (r : RpI K mg F H v d) (b : Bool) : decide (v = .bl b) = isBlD b d := by
  cases r with
  | fz r =>
    cases r with
    | bl a =>
      by_cases e : a = b
      · subst e; simp [isBlD]
      · simp [isBlD, e]
    | _ => simp [isBlD]
  | own o => cases o <;> simp [isBlD, Ow.d]
theorem isNon_V {v : V} {d : D} (r : RpI K mg F H v d) : decide (v = .non) = isNonD d := by
  cases r with
  | fz r => cases r <;> simp [isNonD]
  | own o => cases o <;> simp [isNonD, Ow.d]
theorem o_isA (n : Bool) : Op2 K mg (rIsA n) (dIsA n) := fun {F H x y d e z Q} hs rx ry h q => by
  cases e with
  | bl b =>
    cases h
    refine .inl ⟨b, ry.bl, ?_⟩
    rw [isBl_V rx b]
    exact q F H _ (.refl hs) (.bl _)
  | non =>
    cases h
    refine .inr ⟨?_, ?_⟩
    · have hy := isNon_V ry
      simpa [isNonD] using hy
    · rw [isNon_V rx]
      exact q F H _ (.refl hs) (.bl _)
  | _ => cases h
end
end Mi
namespace Mi
open PySem PySem.Spec PyProof.Rows L2 PySem.MiX
/-! ### an own object handed over to be read -/
mutual
def D.noL : D → Bool
  | .non => true
  | .bl _ => true
  | .int _ => true
  | .str _ => true
  | .tup xs => D.noLs xs
  | _ => false
def D.noLs : List D → Bool
  | [] => true
  | x :: r => x.noL && D.noLs r
end
def Ow.noL : Ow → Bool
  | .lst xs => D.noLs xs
  | _ => false
def fsNoL : List (Str × D) → Bool
  | [] => true
  | (_, d) :: r => d.noL && fsNoL r
def delF (F : Hp) (a : Addr) : Hp := fun b => if b = a then none else F b
section
variable {K : PySem.W.Frag} {mg : Str → Option Value} {F F' H H' : Hp} {a : Addr}
theorem delF_ne {b : Addr} (h : b ≠ a) : delF F a b = F b := if_neg h
theorem delF_same : delF F a a = none := if_pos rfl
mutual
theorem Rp.del (na : ∀ o u, F a ≠ some (.frz o u)) : ∀ {v : V} {d : D}, d.noL = true → Rp K mg F v d → Rp K mg (delF F a) v d
  | _, _, _, .non => .non
  | _, _, _, .bl b => .bl b
  | _, _, _, .int i => .int i
  | _, _, _, .str x => .str x
  | _, _, h, .tup h1 r => .tup (by
      obtain ⟨o, e, q⟩ := h1
      exact ⟨o, by rw [delF_ne (fun z => by rw [z] at e; exact na _ _ e)]; exact e, q⟩) (RpA.del na (by simpa [D.noL] using h) r)
  | _, _, h, .lst _ _ => by simp [D.noL] at h
  | _, _, h, .frl _ _ => by simp [D.noL] at h
  | _, _, h, .dk _ _ => by simp [D.noL] at h
  | _, _, h, .dt _ _ => by simp [D.noL] at h
  | _, _, h, .obj _ _ _ => by simp [D.noL] at h
  | _, _, h, .exc _ _ _ => by simp [D.noL] at h
theorem RpA.del (na : ∀ o u, F a ≠ some (.frz o u)) : ∀ {v : List V} {d : List D}, D.noLs d = true → RpA K mg F v d → RpA K mg (delF F a) v d
  | _, _, _, .nil => .nil
  | _, _, h, .cons r t => by
    have h' := Bool.and_eq_true_iff.mp (by simpa [D.noLs] using h : (D.noL _ && D.noLs _) = true)
    exact .cons (Rp.del na h'.1 r) (RpA.del na h'.2 t)
end
theorem RpF.del (na : ∀ o u, F a ≠ some (.frz o u)) : ∀ {v : List (Str × V)} {d : List (Str × D)}, fsNoL d = true → RpF K mg F v d → RpF K mg (delF F a) v d
  | _, _, _, .nil => .nil
  | _, _, h, .cons r t => by
    have h' := Bool.and_eq_true_iff.mp (by simpa [fsNoL] using h : (D.noL _ && fsNoL _) = true)
    exact .cons (Rp.del na h'.1 r) (RpF.del na h'.2 t)
def loanF (k : Nat) (f : List Sl → DR) : List Sl → DR := fun as => match as[k]? with
  | some (.own true o) => (match f (as.set k (.val o.d)) with
    | .ok (.v d) os => if d.noL && os.isEmpty then .ok (.v d) [o] else .bad
    | .ok (.w w) os => if w.noL && os.isEmpty then .ok (.w w) [o] else .bad
    | .ex x os => if fsNoL x.fs && os.isEmpty then .ex x [o] else .bad
    | .bad => .bad)
  | _ => .bad
theorem OwOk.nofrz {o : Ow} (h : OwOk K mg F H a o) : ∀ q u, H a ≠ some (.frz q u) := fun q u z => by
  cases h with
  | lst h _ => rw [z] at h; cases h
  | dk h _ => rw [z] at h; cases h
  | dt h _ => rw [z] at h; cases h
  | ins _ h _ => rw [z] at h; cases h
theorem spM_loan {n k : Nat} {f : List Sl → DR} {vs : List V} {Q : VK} {E : XK} (h : spM K mg n [k] (loanF k f) vs H Q E) : spM K mg n [] f vs H Q E := by
  obtain ⟨hn, F, as, fh, A, g⟩ := h
  refine ⟨hn, ?_⟩
  obtain ⟨o, ho⟩ := A.io k (List.mem_singleton.mpr rfl)
  obtain ⟨_, a, hv, fa, ok⟩ := A.own k true o ho
  obtain ⟨u, hu⟩ := ok.at
  have sm : Same F (upd F a u) := same_upd fa
  have fh1 : Same (upd F a u) H := fun b q e => by
    by_cases hb : b = a
    · subst hb
      rw [upd_same] at e
      cases e
      exact hu
    · rw [upd_ne hb] at e
      exact fh b q e
  have hk : k < as.length := (List.getElem?_eq_some_iff.mp ho).1
  have rep : Rp K mg (upd F a u) (.ref a) o.d := by
    have hua : (upd F a u) a = some u := upd_same
    cases ok with
    | lst h r => rw [h] at hu; cases hu; exact .lst hua (r.mono sm)
    | dk h r => rw [h] at hu; cases hu; exact .dk hua (r.mono sm)
    | dt h r => rw [h] at hu; cases hu; exact .dt hua (r.mono sm)
    | ins g h r => rw [h] at hu; cases hu; exact .obj g hua (r.mono sm)
  have A1 : ArgOk K mg (upd F a u) H [] vs (as.set k (.val o.d)) := by
    refine ⟨by rw [List.length_set]; exact A.len, fun i d e => ?_, fun i io w e => ?_, fun j hj => (by cases hj), fun i j b hij h1 => (by cases h1)⟩
    · by_cases hi : i = k
      · subst hi
        rw [List.getElem?_set_self hk] at e
        cases e
        exact ⟨_, hv, rep⟩
      · rw [List.getElem?_set_ne (Ne.symm hi)] at e
        obtain ⟨v, e1, e2⟩ := A.val i d e
        exact ⟨v, e1, e2.mono sm⟩
    · exfalso
      by_cases hi : i = k
      · subst hi
        rw [List.getElem?_set_self hk] at e
        cases e
      · rw [List.getElem?_set_ne (Ne.symm hi)] at e
        obtain ⟨e1, _⟩ := A.own i io w e
        exact hi (List.mem_singleton.mp e1)
  refine ⟨upd F a u, as.set k (.val o.d), fh1, A1, ?_⟩
  -- behind the call: the object is one's own again
  have aft : ∀ {F' H' : Hp} {os : List Ow}, Aft K mg (upd F a u) H F' H' vs [] os → Aft K mg F H (delF F' a) H' vs [k] [o] ∧ ∀ q u, F' a ≠ some (.frz q u) := fun {F' H' os} B => by
    have ha : H' a = some u := B.hh a u hu fun j hj => (by cases hj)
    have fa' : F' a = some u := B.ff a u upd_same
    refine ⟨⟨fun b q e => ?_, fun b q e => ?_, fun b q e hnk => B.hh b q e fun j hj => (by cases hj), fun b q e => ?_, rfl, fun m j b w e1 e2 e3 => ?_⟩, fun q w e => ok.nofrz q w (by rw [hu, ← fa', e])⟩
    · have hb : b ≠ a := fun z => by rw [z, fa] at e; cases e
      rw [delF_ne hb]
      exact B.ff b q (by rw [upd_ne hb]; exact e)
    · by_cases hb : b = a
      · rw [hb, delF_same] at e; cases e
      · rw [delF_ne hb] at e
        exact B.fh b q e
    · by_cases hb : b = a
      · rw [hb, delF_same] at e; cases e
      · rw [delF_ne hb] at e
        rcases B.nw b q e with z | z
        · rw [upd_ne hb] at z
          exact .inl z
        · exact .inr z
    · cases m with
      | zero =>
        cases e1
        cases e2
        rw [hv] at e3
        cases e3
        refine ⟨delF_same, ok.mono (fun b q e => ?_) (ha.trans hu.symm)⟩
        have hb : b ≠ a := fun z => by rw [z, fa] at e; cases e
        rw [delF_ne hb]
        exact B.ff b q (by rw [upd_ne hb]; exact e)
      | succ m => simp at e1
  unfold loanF at g
  rw [ho] at g
  dsimp only at g
  cases q : f (as.set k (.val o.d)) with
  | bad =>
    rw [q] at g
    exact g.elim
  | ex x os =>
    rw [q] at g
    dsimp only at g
    by_cases c : (fsNoL x.fs && os.isEmpty) = true
    · rw [if_pos c] at g
      obtain ⟨c1, c2⟩ := Bool.and_eq_true_iff.mp c
      intro F' H' C d fs hC B hd rf
      obtain ⟨B2, nf⟩ := aft B
      have hda : d ≠ a := fun z => by
        have fa' : F' a = some u := B.ff a u upd_same
        rw [z, fa'] at hd
        cases hd
        have no : False := by
          cases ok with
          | lst h _ => rw [h] at hu; cases hu
          | dk h _ => rw [h] at hu; cases hu
          | dt h _ => rw [h] at hu; cases hu
          | ins _ h _ => rw [h] at hu; cases hu
        exact no
      exact g _ H' C d fs hC B2 (by rw [delF_ne hda]; exact hd) (rf.del nf c1)
    · rw [if_neg c] at g
      exact g.elim
  | ok r os =>
    rw [q] at g
    cases r with
    | v d =>
      dsimp only at g
      by_cases c : (d.noL && os.isEmpty) = true
      · rw [if_pos c] at g
        obtain ⟨c1, c2⟩ := Bool.and_eq_true_iff.mp c
        intro F' H' x B rr
        obtain ⟨B2, nf⟩ := aft B
        cases rr with
        | v r => exact g _ H' x B2 (.v (r.del nf c1))
      · rw [if_neg c] at g
        exact g.elim
    | w w =>
      dsimp only at g
      by_cases c : (w.noL && os.isEmpty) = true
      · rw [if_pos c] at g
        obtain ⟨c1, c2⟩ := Bool.and_eq_true_iff.mp c
        intro F' H' x B rr
        obtain ⟨B2, nf⟩ := aft B
        cases rr with
        | w h1 h2 h3 =>
          rename_i b
          have hba : b ≠ a := fun z => by rw [z, hu] at h3; cases h3
          refine g _ H' _ B2 (.w (by rw [delF_ne hba]; exact h1) ?_ h3)
          cases w with
          | lst xs =>
            cases h2 with
            | lst h r => exact .lst h (r.del nf c1)
          | _ => cases c1
      · rw [if_neg c] at g
        exact g.elim
end
theorem calM_loan {P : Program} {w : World} {K : PySem.W.Frag} {mg : Str → Option Value} {base : Heap} {j : Nat} {x : Str} {n : Nat} {m : List Sl → DR} (k : Nat) (c : CalM P w K mg base j x n [] m) : CalM P w K mg base j x n [k] (loanF k m) := by
  obtain ⟨f, fd, ps, FO, h1, h2, h3⟩ := c.ex
  exact ⟨f, fd, ps, FO.imp fun vs H Q E h => spM_loan h, h1, h2, h3⟩
end Mi
set_option Elab.async false
set_option linter.all false
set_option maxRecDepth 100000
set_option maxHeartbeats 2000000
/-! Mi, part W: shorthands for derivations that are written by a tool. -/
namespace Mi
open PySem PySem.Spec PyProof.Rows L2 PySem.MiX
theorem u1 {k : Nat} {A : Around} (h : Room k A) : A.units + 1 < cLine := by
  have := h.un
  omega
theorem u64 {k : Nat} {A : Around} (h : Room k A) : A.units + 64 < cLine := by
  have := h.un
  omega
section
variable {X : Cx} {W : WX} {s : Nat} {x : Str} {px apos cpos : Pos} {e : Expr} {m : EM}
theorem x_append (hx : PE X (.Name x px) (tVar s)) (ha : ME X W e m) (hbase : attributeBase (.Name x px) "append" X.env (eval (.Name x px) X.env) = eval (.Name x px) X.env := by rfl)
    (hfew : ((backTo cpos (starEach (e :: []) X.env)).all (fun x => !x.1) && (backToKw cpos (keywordEach [] X.env)).all (fun x => x.1.isSome)
      && decide ((e :: []).length + ([] : List Keyword).length + (if ([] : List Keyword).isEmpty then 0 else 1) < 30)) = true := by rfl)
    (hline : (apos.endLine == cpos.line) = true := by rfl) (hs : starEach (e :: []) X.env = (false, eval e X.env) :: starEach [] X.env := by rfl) (hplain : (backTo cpos (starEach [] X.env)).any (·.1) = false := by rfl) :
    ME X W (.Call (.Attribute (.Name x px) "append" apos) [e] [] cpos) (mAppend s m) :=
  me_append hx ha (pe_bm (T := "list") PySem.F.plainAttrs_list PySem.F.slot_list_append PySem.F.type_list_append mt_append hx (pa_cons ha pa_nil hs) hbase hfew hline hs hplain)
theorem x_extend (hx : PE X (.Name x px) (tVar s)) (ha : ME X W e m) (hbase : attributeBase (.Name x px) "extend" X.env (eval (.Name x px) X.env) = eval (.Name x px) X.env := by rfl)
    (hfew : ((backTo cpos (starEach (e :: []) X.env)).all (fun x => !x.1) && (backToKw cpos (keywordEach [] X.env)).all (fun x => x.1.isSome)
      && decide ((e :: []).length + ([] : List Keyword).length + (if ([] : List Keyword).isEmpty then 0 else 1) < 30)) = true := by rfl)
    (hline : (apos.endLine == cpos.line) = true := by rfl) (hs : starEach (e :: []) X.env = (false, eval e X.env) :: starEach [] X.env := by rfl) (hplain : (backTo cpos (starEach [] X.env)).any (·.1) = false := by rfl) :
    ME X W (.Call (.Attribute (.Name x px) "extend" apos) [e] [] cpos) (mExtend s m) :=
  me_extend ha (pe_bm (T := "list") PySem.F.plainAttrs_list PySem.F.slot_list_extend PySem.F.type_list_extend mt_extend hx (pa_cons ha pa_nil hs) hbase hfew hline hs hplain)
theorem x_popAt (hx : PE X (.Name x px) (tVar s)) (ha : ME X W e m) (hbase : attributeBase (.Name x px) "pop" X.env (eval (.Name x px) X.env) = eval (.Name x px) X.env := by rfl)
    (hfew : ((backTo cpos (starEach (e :: []) X.env)).all (fun x => !x.1) && (backToKw cpos (keywordEach [] X.env)).all (fun x => x.1.isSome)
      && decide ((e :: []).length + ([] : List Keyword).length + (if ([] : List Keyword).isEmpty then 0 else 1) < 30)) = true := by rfl)
    (hline : (apos.endLine == cpos.line) = true := by rfl) (hs : starEach (e :: []) X.env = (false, eval e X.env) :: starEach [] X.env := by rfl) (hplain : (backTo cpos (starEach [] X.env)).any (·.1) = false := by rfl) :
    ME X W (.Call (.Attribute (.Name x px) "pop" apos) [e] [] cpos) (mPopAt s m) :=
  me_popAt ha (pe_bm (T := "list") PySem.F.plainAttrs_list PySem.F.slot_list_pop PySem.F.type_list_pop mt_popAt hx (pa_cons ha pa_nil hs) hbase hfew hline hs hplain)
theorem x_rng1 {tg a : Expr} {p pos : Pos} (hg : Gl X "range") (hm : X.mg "range" = none) (ha : ME X W a m) (hs : starEach [a] X.env = [(false, eval a X.env)] := by rfl) (hs1 : starEach (a :: []) X.env = (false, eval a X.env) :: starEach [] X.env := by rfl) :
    MI X W tg (.Call (.Name "range" p) [a] [] pos) (mRng1 m) := mi_rng1 (p := p) (pos := pos) (t := iRng1 (tCons (tE X.K X.mg W m) tNil)) (pi_range1 hg hm (pa_cons ha pa_nil hs1) hs)
theorem x_rng2 {tg a b : Expr} {ma mb : EM} {p pos : Pos} (hg : Gl X "range") (hm : X.mg "range" = none) (ha : ME X W a ma) (hb : ME X W b mb) (hs : starEach [a, b] X.env = [(false, eval a X.env), (false, eval b X.env)] := by rfl) (hs2 : starEach [b] X.env = [(false, eval b X.env)] := by rfl)
    (h1 : starEach (a :: b :: []) X.env = (false, eval a X.env) :: starEach (b :: []) X.env := by rfl) (h2 : starEach (b :: []) X.env = (false, eval b X.env) :: starEach [] X.env := by rfl) :
    MI X W tg (.Call (.Name "range" p) [a, b] [] pos) (mRng2 ma mb) := mi_rng2 (pi_range2 hg hm (pa_cons ha (pa_cons hb pa_nil h2) h1) hs hs2)
theorem x_setIx {i : Expr} {mi : EM} {pos' pos : Pos} (hx : PE X (.Name x px) (tVar s)) (hi : ME X W i mi) (he : ME X W e m)
    (hs : swapsWithSole [.Subscript (.Name x px) i pos'] e pos.line X.env = pure false := by rfl) (hw : swappedStores [.Subscript (.Name x px) i pos'] e X.env = pure none := by rfl) (hpg : PG X (.Subscript (.Name x px) i pos') (gSub (tVar s) (tE X.K X.mg W mi) rSetL)) :
    MS X W (.Assign [.Subscript (.Name x px) i pos'] e pos) (mSetIx s mi m) := ms_setIx hi he hpg hs hw
theorem x_glob {v : V} {d : D} {pos : Pos} (h : ∃ u, X.mg x = some u ∧ RelV v u) (hg : Gl X x) (rd : ∀ F, Rp X.K X.mg F v d) (hd : (x == ("__debug__" : Str)) = false := by decide) : ME X W (.Name x pos) (mC d) := by
  obtain ⟨u, h1, h2⟩ := h
  exact me_gl hg h1 h2 rd hd
end
section
variable {X : Cx}
theorem pe_clsTy {x : Str} {n : String} {pos : Pos} (hg : Gl X x) (hm : X.mg x = none) (hv : bootBuiltins x = some (.type n)) (hn : x ≠ "__name__" := by decide) (hd : (x == ("__debug__" : Str)) = false := by decide) : PE X (.Name x pos) (tC (.ty n)) := pe_bltn hg hm hv rfl hn hd
theorem pe_clsOwn {x : Str} {C : Addr} {pos : Pos} (hg : Gl X x) (hm : X.mg x = some (.ref C)) (hd : (x == ("__debug__" : Str)) = false := by decide) : PE X (.Name x pos) (tC (.ref C)) := pe_glob hg hm rfl hd
end
end Mi
namespace Mi
open PySem PySem.Spec PyProof.Rows L2 PySem.MiX
/-! ### what the written part says of the own errors' classes -/
structure ClsT (P : Program) (K : PySem.W.Frag) (mg : Str → Option Value) (AA : Str → Addr) (exs : List (Str × Str)) (root : Str) (sub : Str → Str → Bool) : Prop where
  x : ∀ c f, (c, f) ∈ exs → ∃ fI, ExT P K mg c f (AA c) fI
  r : mg root = some (.ref (AA root))
  ec : ∀ c f, (c, f) ∈ exs → ExC K (AA c)
  kit : ∀ c f d g, (c, f) ∈ exs → (d, g) ∈ exs → PySem.W.kitOne K (.ref (AA c)) (.ref (AA d)) = some (sub c d)
  exm : ∀ c f, (c, f) ∈ exs → PySem.W.exmOne K (.ref (AA c)) (.ref (AA root)) = some true
def tblOf (exs : List (Str × Str)) (sub : Str → Str → Bool) (ds : List Str) : List (Str × Bool) := exs.map fun p => (p.1, ds.any (sub p.1))
def catOf (exs : List (Str × Str)) : List (Str × Bool) := exs.map fun p => (p.1, true)
theorem tblOf_mem {exs : List (Str × Str)} {sub : Str → Str → Bool} {ds : List Str} {c : Str} {b : Bool} : (tblOf exs sub ds).lookup c = some b → ∃ f, (c, f) ∈ exs ∧ b = ds.any (sub c) := by
  unfold tblOf
  induction exs with
  | nil => intro h; cases h
  | cons p r ih =>
    intro h
    rw [List.map_cons, List.lookup_cons] at h
    by_cases e : c = p.1
    · subst e
      rw [beq_self_eq_true] at h
      cases h
      exact ⟨p.2, List.mem_cons_self .., rfl⟩
    · rw [show (c == p.1) = false by simpa using e] at h
      obtain ⟨f, h1, h2⟩ := ih h
      exact ⟨f, List.mem_cons_of_mem _ h1, h2⟩
theorem catOf_mem {exs : List (Str × Str)} {c : Str} {b : Bool} : (catOf exs).lookup c = some b → ∃ f, (c, f) ∈ exs ∧ b = true := by
  unfold catOf
  induction exs with
  | nil => intro h; cases h
  | cons p r ih =>
    intro h
    rw [List.map_cons, List.lookup_cons] at h
    by_cases e : c = p.1
    · subst e
      rw [beq_self_eq_true] at h
      cases h
      exact ⟨p.2, List.mem_cons_self .., rfl⟩
    · rw [show (c == p.1) = false by simpa using e] at h
      obtain ⟨f, h1, h2⟩ := ih h
      exact ⟨f, List.mem_cons_of_mem _ h1, h2⟩
section
variable {P : Program} {K : PySem.W.Frag} {mg : Str → Option Value} {AA : Str → Addr} {exs : List (Str × Str)} {root : Str} {sub : Str → Str → Bool}
theorem ClsT.cls (T : ClsT P K mg AA exs root sub) {c f : Str} (h : (c, f) ∈ exs) {C : Addr} (e : mg c = some (.ref C)) : C = AA c := by
  obtain ⟨fI, X⟩ := T.x c f h
  have := X.gC
  rw [e] at this
  cases this
  rfl
theorem kitAny_map {K : PySem.W.Frag} {t : Value} {f : Str → Bool} {AA : Str → Addr} : ∀ {ds : List Str}, (∀ d ∈ ds, PySem.W.kitOne K t (.ref (AA d)) = some (f d)) → PySem.W.kitAny K t (ds.map fun d => .ref (AA d)) = some (ds.any f)
  | [], _ => rfl
  | d :: r, h => by
    rw [List.map_cons, List.any_cons]
    refine kitAny_cons (h d (List.mem_cons_self ..)) (fun e => ?_) (fun e => ?_)
    · rw [e, Bool.false_or]
      exact kitAny_map fun d hd => h d (List.mem_cons_of_mem _ hd)
    · rw [e, Bool.true_or]
theorem ClsT.isT (T : ClsT P K mg AA exs root sub) (ds : List Str) (hd : (ds.all fun d => (exs.map (·.1)).contains d) = true) : IsT K mg (tblOf exs sub ds) (ds.map fun d => .ref (AA d)) := ⟨fun c b C h e => by
  obtain ⟨f, h1, rfl⟩ := tblOf_mem h
  have eC := T.cls h1 e
  subst eC
  exact ⟨T.ec c f h1, kitAny_map fun d hd' => by
    have h3 := List.all_eq_true.mp hd d hd'
    obtain ⟨⟨d2, g⟩, h4, h5⟩ := List.mem_map.mp (by simpa using h3 : d ∈ exs.map (·.1))
    have h6 : d2 = d := h5
    subst h6
    exact T.kit c f _ g h1 h4⟩⟩
theorem ClsT.xf (T : ClsT P K mg AA exs root sub) : XfT K mg exs := ⟨fun c f C h e => by
  have h1 : (c, f) ∈ exs := by simpa using h
  have eC := T.cls h1 e
  subst eC
  obtain ⟨fI, X⟩ := T.x c f h1
  exact ⟨⟨X.ga, X.gg, X.exC, X.hdC⟩, X.noN⟩⟩
theorem ClsT.cat (T : ClsT P K mg AA exs root sub) : ∀ c b C, (catOf exs).lookup c = some b → mg c = some (.ref C) → PySem.W.exmOne K (.ref C) (.ref (AA root)) = some b := fun c b C h e => by
  obtain ⟨f, h1, rfl⟩ := catOf_mem h
  have eC := T.cls h1 e
  subst eC
  exact T.exm c f h1
end
theorem x_raise {X : Cx} {W : WX} {c f : Str} {C : Addr} {a : Expr} {ms : AM} {p pos pos2 : Pos} {k : Nat} (T : ∃ fI, ExT X.prog X.K X.mg c f C fI) (Fl : Fld f) (hc : X.calm = true) (tk : Takes X W) (hr : Room k X.A) (ha : MA X W [a] ms) (hg : Gl X c)
    (hdb : (c == ("__debug__" : Str)) = false := by decide) (he : starEach (a :: []) X.env = (false, eval a X.env) :: starEach [] X.env := by rfl) (hpl : (backTo pos (starEach [] X.env)).any (·.1) = false := by rfl) :
    MS X W (.Raise (some (.Call (.Name c p) [a] [] pos)) none pos2) (mRaise c f ms) := by
  obtain ⟨fI, T⟩ := T
  exact ms_raise T Fl hc tk hr ha hg hdb he hpl
end Mi
namespace Mi
open PySem PySem.Spec PyProof.Rows L2 PySem.MiX
def dAddI : D → D → Option D
  | .int a, .int b => some (.int (a + b))
  | _, _ => none
def dSubI : D → D → Option D
  | .int a, .int b => some (.int (a - b))
  | _, _ => none
theorem o_addX {K : PySem.W.Frag} {mg : Str → Option Value} : Op2 K mg (ipI fun i j => i + j) dAddI := fun {F H x y d e z Q} hs rx ry h q => by
  cases d <;> cases e <;> first | (cases h; done) | (cases h; exact ⟨_, _, rx.int, ry.int, q F H _ (.refl hs) (.int _)⟩)
theorem o_subX {K : PySem.W.Frag} {mg : Str → Option Value} : Op2 K mg (ipI fun i j => i - j) dSubI := fun {F H x y d e z Q} hs rx ry h q => by
  cases d <;> cases e <;> first | (cases h; done) | (cases h; exact ⟨_, _, rx.int, ry.int, q F H _ (.refl hs) (.int _)⟩)
end Mi
set_option Elab.async false
set_option linter.all false
set_option maxRecDepth 100000
set_option maxHeartbeats 2000000
/-! Mi, part S: texts. -/
namespace Mi
open PySem PySem.Spec PyProof.Rows L2
/-! ### text * int -/
theorem op_mul_str {X : Cx} : OpR X (binaryOp .Mult) (fun x y H Q => ∃ (z : Str) (n : Int), x = .str z ∧ y = .int n ∧ (0 ≤ n ∧ n ≤ 1000 ∧ z.length ≤ 10000) ∧ Q (.str (Txt.mul z n)) H) := by
  intro pins s σ H x y v u Q I rx ry h
  obtain ⟨z, n, rfl, rfl, ⟨h0, h1, h2⟩, q⟩ := h
  obtain ⟨t, rfl⟩ := rx
  obtain ⟨t', rfl⟩ := ry
  exact SB.mul (PyProof.Rows.mulOk_of 10000 1000 h2 (by omega) (by omega) (by omega) (by omega)) fun t' k => ⟨.str (Txt.mul z n), H, I.tok _, ⟨_, rfl⟩, q⟩
def dMulS (x y : D) : Option D := match x with
  | .str z => (match y with
    | .int n => if 0 ≤ n ∧ n ≤ 1000 ∧ z.length ≤ 10000 then some (.str (Txt.mul z n)) else none
    | _ => none)
  | _ => none
section
variable {K : PySem.W.Frag} {mg : Str → Option Value}
theorem o_mulS : Op2 K mg (fun x y H Q => ∃ (z : Str) (n : Int), x = .str z ∧ y = .int n ∧ (0 ≤ n ∧ n ≤ 1000 ∧ z.length ≤ 10000) ∧ Q (.str (Txt.mul z n)) H) dMulS := fun {F H x y d e z Q} hs rx ry h q => by
  cases d <;> cases e <;> try (cases h; done)
  obtain ⟨c, rfl⟩ := if_some h
  rw [rx.str, ry.int]
  exact ⟨_, _, rfl, rfl, c, q F H _ (.refl hs) (.str _)⟩
/-! ### order -/
def dLtS : D → D → Option D
  | .str a, .str b => some (.bl (decide (a.cps.toList < b.cps.toList)))
  | _, _ => none
def dLeS : D → D → Option D
  | .str a, .str b => some (.bl (!decide (b.cps.toList < a.cps.toList)))
  | _, _ => none
theorem o_ltS : Op2 K mg (fun x y H Q => ∃ i j, x = .str i ∧ y = .str j ∧ Q (.bl (decide (i.cps.toList < j.cps.toList))) H) dLtS := fun {F H x y d e z Q} hs rx ry h q => by
  cases d <;> cases e <;> try (cases h; done)
  cases h
  rw [rx.str, ry.str]
  exact ⟨_, _, rfl, rfl, q F H _ (.refl hs) (.bl _)⟩
theorem o_leS : Op2 K mg (fun x y H Q => ∃ i j, x = .str i ∧ y = .str j ∧ Q (.bl (!decide (j.cps.toList < i.cps.toList))) H) dLeS := fun {F H x y d e z Q} hs rx ry h q => by
  cases d <;> cases e <;> try (cases h; done)
  cases h
  rw [rx.str, ry.str]
  exact ⟨_, _, rfl, rfl, q F H _ (.refl hs) (.bl _)⟩
/-! ### one sign in a text -/
def sign1 (x : Str) : Option Nat := match x.cps.toList with
  | [c] => some c
  | _ => none
theorem sign1_eq {x : Str} {c : Nat} (h : sign1 x = some c) : x = ⟨#[c]⟩ := by
  unfold sign1 at h
  split at h
  · rename_i c' e
    cases h
    exact TL.ext_tl e
  · cases h
def dInS (n : Bool) : D → D → Option D
  | .str a, .str b => (sign1 a).map fun c => .bl (if n then !decide (c ∈ b.cps.toList) else decide (c ∈ b.cps.toList))
  | _, _ => none
theorem o_inS : Op2 K mg (fun x y H Q => ∃ (c : Nat) (z : Str), x = .str ⟨#[c]⟩ ∧ y = .str z ∧ Q (.bl (decide (c ∈ z.cps.toList))) H) (dInS false) := fun {F H x y d e z Q} hs rx ry h q => by
  cases d <;> cases e <;> try (cases h; done)
  obtain ⟨c, h1, rfl⟩ := Option.map_eq_some_iff.mp h
  rw [rx.str, ry.str, sign1_eq h1]
  exact ⟨c, _, rfl, rfl, q F H _ (.refl hs) (.bl _)⟩
theorem o_ninS : Op2 K mg (fun x y H Q => ∃ (c : Nat) (z : Str), x = .str ⟨#[c]⟩ ∧ y = .str z ∧ Q (.bl (!decide (c ∈ z.cps.toList))) H) (dInS true) := fun {F H x y d e z Q} hs rx ry h q => by
  cases d <;> cases e <;> try (cases h; done)
  obtain ⟨c, h1, rfl⟩ := Option.map_eq_some_iff.mp h
  rw [rx.str, ry.str, sign1_eq h1]
  exact ⟨c, _, rfl, rfl, q F H _ (.refl hs) (.bl _)⟩
/-! ### text[i] -/
def dIxS : D → D → Option D
  | .str z, .int i => if 0 ≤ i ∧ i < 1000000 then (z.cps[i.toNat]?).map fun c => .str ⟨#[c]⟩ else none
  | _, _ => none
theorem o_ixS : Op2 K mg (fun x y H Q => ∃ z i c, x = .str z ∧ y = .int i ∧ 0 ≤ i ∧ i < 2 ^ 63 ∧ i < z.length ∧ z.cps[i.toNat]? = some c ∧ Q (.str ⟨#[c]⟩) H) dIxS := fun {F H x y d e z Q} hs rx ry h q => by
  cases d <;> cases e <;> try (cases h; done)
  rename_i zz i
  have h' : (if 0 ≤ i ∧ i < 1000000 then (zz.cps[i.toNat]?).map fun c => D.str ⟨#[c]⟩ else none) = some z := h
  by_cases c : 0 ≤ i ∧ i < 1000000
  · rw [if_pos c] at h'
    obtain ⟨k, h1, rfl⟩ := Option.map_eq_some_iff.mp h'
    rw [rx.str, ry.int]
    have hl : i.toNat < zz.cps.size := (Array.getElem?_eq_some_iff.mp h1).1
    have hl2 : i < (zz.length : Int) := by
      show i < (zz.cps.size : Int)
      omega
    exact ⟨_, _, k, rfl, rfl, c.1, by omega, hl2, h1, q F H _ (.refl hs) (.str _)⟩
  · rw [if_neg c] at h'
    cases h'
end
theorem me_ixS {X : Cx} {W : WX} {a b : Expr} {ma mb : EM} {pos : Pos} (ha : ME X W a ma) (hb : ME X W b mb) (hs : PlainIxT b) : ME X W (.Subscript a b pos) (mB dIxS ma mb) :=
  ME.weak (pe_item_str ha hb hs) fun S g => two_ok o_ixS S g
/-! ### max, min -/
def dMax2 : List D → Option D
  | [.int i, .int j] => some (.int (if j > i then j else i))
  | _ => none
def dMin2 : List D → Option D
  | [.int i, .int j] => some (.int (if j < i then j else i))
  | _ => none
section
variable {K : PySem.W.Frag} {mg : Str → Option Value}
theorem RpIs.two {F H : Hp} {xs : List V} {ds : List D} {d e : D} (h : RpIs K mg F H xs ds) (q : ds = [d, e]) : ∃ x y, xs = [x, y] ∧ RpI K mg F H x d ∧ RpI K mg F H y e := by
  subst q
  cases h with
  | cons r t =>
    cases t with
    | cons r2 t2 =>
      cases t2
      exact ⟨_, _, rfl, r, r2⟩
theorem o_max2 : OpN K mg (fun xs H Q => ∃ i j, xs = [.int i, .int j] ∧ Q (.int (if j > i then j else i)) H) dMax2 := fun {F H xs ds z Q} hs r0 h q => by
  unfold dMax2 at h
  split at h
  · cases h
    obtain ⟨x, y, rfl, r1, r2⟩ := r0.two rfl
    rw [r1.int, r2.int]
    exact ⟨_, _, rfl, q F H _ (.refl hs) (.int _)⟩
  · cases h
theorem o_min2 : OpN K mg (fun xs H Q => ∃ i j, xs = [.int i, .int j] ∧ Q (.int (if j < i then j else i)) H) dMin2 := fun {F H xs ds z Q} hs r0 h q => by
  unfold dMin2 at h
  split at h
  · cases h
    obtain ⟨x, y, rfl, r1, r2⟩ := r0.two rfl
    rw [r1.int, r2.int]
    exact ⟨_, _, rfl, q F H _ (.refl hs) (.int _)⟩
  · cases h
/-! ### int(text) -/
def dIntS : D → Option D
  | .str a => if a.length ≤ 640 then (PySem.intText? a).map D.int else none
  | _ => none
theorem o_intS : OpN K mg (fun xs H Q => ∃ a n, xs = [.str a] ∧ PySem.intText? a = some n ∧ a.length ≤ 640 ∧ Q (.int n) H) (g1 dIntS) := fun {F H xs ds z Q} hs r0 h q => by
  obtain ⟨d, e0, h⟩ := g1_some h
  obtain ⟨x, rfl, r⟩ := r0.one e0
  cases d with
  | str a =>
    have h' : (if a.length ≤ 640 then (PySem.intText? a).map D.int else none) = some z := h
    by_cases c : a.length ≤ 640
    · rw [if_pos c] at h'
      obtain ⟨n, h1, rfl⟩ := Option.map_eq_some_iff.mp h'
      rw [r.str]
      exact ⟨a, n, rfl, h1, c, q F H _ (.refl hs) (.int _)⟩
    · rw [if_neg c] at h'
      cases h'
  | _ => cases h
/-! ### slices of a text -/
def apSlS (v : OB) (lo hi : Option Int) (ρ : En) : R OV := match v.get ρ with
  | some (.str z) => if z.length ≤ BIG then .ok (.d (.str (cutS z lo hi))) ρ else .bad
  | _ => .bad
def mSlS (m : EM) (ml mh : PM) : EM := fun ρ => (m ρ).bind fun v ρ => (ml ρ).bind fun l ρ => (mh ρ).bind fun u ρ => apSlS v.fz l u ρ
theorem apSlS_ok {W : WX} {F H : Hp} {G : Gh} {σ : St} {ρ : En} {v : OB} {x : V} {lo hi : Option Int} {Q : VK} (S : Sat K mg G F H σ ρ) (r : RpB K mg F σ x v) (g : Gd K mg W (RpO K mg) G F σ (apSlS v lo hi ρ) Q) : rSlS x lo hi H Q := by
  unfold apSlS at g
  cases q : v.get ρ with
  | none => rw [q] at g; exact g.elim
  | some d =>
    rw [q] at g
    have rI := S.get r q
    cases d with
    | str z =>
      have g' : Gd K mg W (RpO K mg) G F σ (if z.length ≤ BIG then .ok (.d (.str (cutS z lo hi))) ρ else .bad) Q := g
      by_cases c : z.length ≤ BIG
      · rw [if_pos c] at g'
        rw [rI.str]
        exact ⟨z, rfl, Nat.le_trans c BIG_le, g' F H _ S (Same.refl _) (.d (.str _))⟩
      · rw [if_neg c] at g'
        exact g'.elim
    | _ => exact g.elim
end
section
variable {X : Cx} {W : WX} {e : Expr} {m : EM} {lo hi : Option Expr} {ml mh : PM} {pos p2 : Pos}
theorem me_sliceS (he : ME X W e m) (hl : MO X W lo ml) (hh : MO X W hi mh) : ME X W (.Subscript e (.Slice lo hi none p2) pos) (mSlS m ml mh) :=
  ME.weak (pe_slice sl_str he hl hh) fun S g => sub S (Gd.opd (f := fun v ρ => (ml ρ).bind fun l ρ => (mh ρ).bind fun u ρ => apSlS v l u ρ) g fun v ρ1 F1 H1 x S1 e1 r1 k1 =>
    subO S1 (Gd.bind k1 fun l ρ2 F2 H2 y _ S2 e2 r2 k2 => by
      subst r2
      exact subO S2 (Gd.bind k2 fun u ρ3 F3 H3 z _ S3 e3 r3 k3 => by
        subst r3
        exact apSlS_ok S3 ((r1.mono e2).mono e3) k3)))
/-! ### for c in a text -/
def mStrI (m : EM) : IM := fun ρ => (m ρ).bind fun v ρ => match v with
  | .d (.str x) => .ok (x.cps.toList.map fun c => IV.one (.str ⟨#[c]⟩)) ρ
  | _ => .bad
theorem jok_str {K : PySem.W.Frag} {mg : Str → Option Value} {F : Hp} {x : Str} : JOk K mg F (Its x) (x.cps.toList.map fun c => IV.one (.str ⟨#[c]⟩)) := by
  have at_ : ∀ {i : Nat} {iv : IV}, (x.cps.toList.map fun c => IV.one (.str ⟨#[c]⟩))[i]? = some iv → ∃ c, x.cps[i]? = some c ∧ iv = .one (.str ⟨#[c]⟩) := fun {i iv} h => by
    rw [List.getElem?_map] at h
    obtain ⟨c, h1, rfl⟩ := Option.map_eq_some_iff.mp h
    exact ⟨c, by rw [← h1]; simp, rfl⟩
  refine ⟨fun F2 H2 i e1 e2 hi => by
    show x.cps.size ≤ i
    simpa using hi, fun F2 H2 i iv e1 e2 hi => ?_, fun F2 H2 i iv y H' e1 e2 hi hy => ?_⟩
  · obtain ⟨c, h1, _⟩ := at_ hi
    exact (Array.getElem?_eq_some_iff.mp h1).1
  · obtain ⟨c, h1, rfl⟩ := at_ hi
    obtain ⟨rfl, c', h2, rfl⟩ := hy
    rw [h1] at h2
    cases h2
    exact ⟨F2, .refl e2, .one (.str _)⟩
theorem mi_str {tg : Expr} (he : ME X W e m) : MI X W tg e (mStrI m) :=
  MI.weak (pi_str he) fun {σ H Q G F ρ} S k => sub S (Gd.bind k fun v ρ1 F1 H1 x _ S1 e1 r1 k1 => by
    cases r1 with
    | d r =>
      cases r with
      | str z => exact ⟨z, rfl, k1 F1 H1 _ S1 (Same.refl _) jok_str⟩
      | _ => exact k1.elim
    | _ => exact k1.elim)
/-! ### a, b = e -/
def mAsg (gm : GM) (m : EM) : SM := fun ρ => (m ρ).st fun v ρ => match esc v.fz ρ with
  | some (d, ρ) => nxt (gm (.one d) ρ)
  | none => .bad
theorem ms_asg {tg : Expr} {is : List Nat} {g : TG} {gm : GM} (he : ME X W e m) (hg : PG X tg g) (hgm : TgOk X.K X.mg is g gm) (hs : swapsWithSole [tg] e pos.line X.env = pure false := by rfl) (hw : swappedStores [tg] e X.env = pure none := by rfl)
    (h1 : (assignEach [tg] X.env).map (·.2) = [assign tg X.env] := by rfl) : MS X W (.Assign [tg] e pos) (mAsg gm m) :=
  MS.weak (ps_asg he hg hs hw h1) fun {σ H D G F ρ} S k => sub S (Gd.st k fun v ρ1 F1 H1 x S1 e1 r1 k1 => by
    obtain ⟨F2, e2, S2, r2⟩ := S1.fz r1
    cases q : esc v.fz ρ1 with
    | none => rw [q] at k1; exact k1.elim
    | some p =>
      obtain ⟨d, ρ2⟩ := p
      rw [q] at k1
      obtain ⟨F3, e3, S3, r3⟩ := S2.esc r2 q
      dsimp only at k1
      cases q2 : gm (.one d) ρ2 with
      | none => rw [q2] at k1; exact k1.elim
      | some ρ3 =>
        rw [q2] at k1
        exact hgm S3 (.one r3) q2 fun σ' S4 _ _ => k1 F3 H1 σ' S4 (e2.trans e3))
end
end Mi
set_option Elab.async false
set_option linter.all false
set_option maxRecDepth 100000
set_option maxHeartbeats 2000000
/-! Mi, part Cl: own classes: fields read and stored, methods called, instances made. -/
namespace Mi
open PySem PySem.Spec PyProof.Rows L2
/-! ### fields as data -/
def putFD (f : Str) (d : D) : List (Str × D) → List (Str × D)
  | [] => [(f, d)]
  | (g, x) :: r => if g = f then (g, d) :: r else (g, x) :: putFD f d r
section
variable {K : PySem.W.Frag} {mg : Str → Option Value} {F F' H H' : Hp}
theorem RpF.put {f : Str} {y : V} {d : D} (q : Rp K mg F y d) : ∀ {vs : List (Str × V)} {ds : List (Str × D)}, RpF K mg F vs ds → RpF K mg F (putF f y vs) (putFD f d ds)
  | _, _, .nil => .cons q .nil
  | (g, x) :: vs, (_, z) :: ds, .cons r t => by
    unfold putF putFD
    by_cases e : g = f
    · rw [if_pos e, if_pos e]
      exact .cons q t
    · rw [if_neg e, if_neg e]
      exact .cons r (RpF.put q t)
theorem RpF.lenF : ∀ {vs : List (Str × V)} {ds : List (Str × D)}, RpF K mg F vs ds → vs.length = ds.length
  | _, _, .nil => rfl
  | _, _, .cons _ t => congrArg Nat.succ (RpF.lenF t)
theorem RpF.lookN : ∀ {fs : List (Str × V)} {ds : List (Str × D)} {f : Str}, RpF K mg F fs ds → fldD ds f = none → fs.lookup f = none
  | _, _, _, .nil, _ => rfl
  | _, _, f, .cons (k := g) (v := v) r t, h => by
    unfold fldD at h
    by_cases e : f = g
    · rw [if_pos e] at h
      cases h
    · rw [if_neg e] at h
      rw [List.lookup_cons, show (f == g) = false by simpa using e]
      exact RpF.lookN t h
end
/-- what is known of classes and their fields' names -/
structure FldT (K : PySem.W.Frag) (mg : Str → Option Value) (flds : List (Str × Str)) : Prop where
  ok : ∀ c f C, flds.contains (c, f) = true → mg c = some (.ref C) → Cls K C ∧ NoAttr K C f
/-! ### x.f of an instance in a slot -/
def mFld (flds : List (Str × Str)) (i : Nat) (f : Str) : EM := fun ρ => match ρ[i]? with
  | some (.own _ (.ins c ds)) => if flds.contains (c, f) = true then (match fldD ds f with
    | some y => .ok (.d y) ρ
    | none => .bad) else .bad
  | some (.val (.obj c ds)) => if flds.contains (c, f) = true then (match fldD ds f with
    | some y => .ok (.d y) ρ
    | none => .bad) else .bad
  | _ => .bad
section
variable {X : Cx} {W : WX} {flds : List (Str × Str)} {i : Nat} {x f : Str} {px pos pos' tpos : Pos}
theorem me_fld (T : FldT X.K X.mg flds) (hx : PE X (.Name x px) (tVar i)) (hb : attributeBase (.Name x px) f X.env (eval (.Name x px) X.env) = eval (.Name x px) X.env := by rfl) : ME X W (.Attribute (.Name x px) f pos) (mFld flds i f) :=
  ME.weak (pe_fld hx hb) fun {σ H Q G F ρ} S g => by
    unfold mFld at g
    cases q : ρ[i]? with
    | none =>
      rw [q] at g
      exact g.elim
    | some s =>
      rw [q] at g
      cases s with
      | un => exact g.elim
      | val d =>
        cases d with
        | obj c ds =>
          dsimp only at g
          by_cases hc : flds.contains (c, f) = true
          · rw [if_pos hc] at g
            cases q2 : fldD ds f with
            | none =>
              rw [q2] at g
              exact g.elim
            | some y =>
              rw [q2] at g
              obtain ⟨v, h1, h2⟩ := S.val i _ q
              cases h2 with
              | obj hm hF hr =>
                obtain ⟨t1, t2⟩ := T.ok c f _ hc hm
                obtain ⟨w, l1, l2⟩ := hr.look q2
                exact ⟨_, h1, _, _, _, _, w, rfl, S.fh _ _ hF, t1, t2, l1, g F H w S (Same.refl _) (.d l2)⟩
          · rw [if_neg hc] at g
            exact g.elim
        | _ => exact g.elim
      | own io o =>
        cases o with
        | ins c ds =>
          dsimp only at g
          by_cases hc : flds.contains (c, f) = true
          · rw [if_pos hc] at g
            cases q2 : fldD ds f with
            | none =>
              rw [q2] at g
              exact g.elim
            | some y =>
              rw [q2] at g
              obtain ⟨a, h1, _, h3, _⟩ := S.own i io _ q
              cases h3 with
              | ins hm hH hr =>
                obtain ⟨t1, t2⟩ := T.ok c f _ hc hm
                obtain ⟨w, l1, l2⟩ := hr.look q2
                exact ⟨_, h1, a, _, _, _, w, rfl, hH, t1, t2, l1, g F H w S (Same.refl _) (.d l2)⟩
          · rw [if_neg hc] at g
            exact g.elim
        | _ => exact g.elim
/-! ### x.f = e -/
def mPutF (flds : List (Str × Str)) (i : Nat) (f : Str) (m : EM) : SM := fun ρ => (m ρ).st fun v ρ => match esc v.fz ρ with
  | some (d, ρ) => (match ρ[i]? with
    | some (.own io (.ins c ds)) => if flds.contains (c, f) = true ∧ ds.length < 1000 then .nx (ρ.set i (.own io (.ins c (putFD f d ds)))) else .bad
    | _ => .bad)
  | none => .bad
theorem ms_putF {e : Expr} {m : EM} (T : FldT X.K X.mg flds) (hx : PE X (.Name x px) (tVar i)) (he : ME X W e m) (hs : swapsWith e (some (.Attribute (.Name x px) f pos')) pos.line X.env = pure false := by rfl) :
    MS X W (.Assign [.Attribute (.Name x px) f pos'] e pos) (mPutF flds i f m) :=
  MS.weak (ps_fld hx he hs) fun {σ H D G F ρ} S k => sub S (Gd.st k fun v ρ1 F1 H1 y S1 e1 r1 k1 => by
    obtain ⟨F2, e2, S2, r2⟩ := S1.fz r1
    cases q1 : esc v.fz ρ1 with
    | none =>
      rw [q1] at k1
      exact k1.elim
    | some p =>
      obtain ⟨d, ρ2⟩ := p
      rw [q1] at k1
      dsimp only at k1
      obtain ⟨F3, e3, S3, r3⟩ := S2.esc r2 q1
      cases q4 : ρ2[i]? with
      | none =>
        rw [q4] at k1
        exact k1.elim
      | some sl =>
        rw [q4] at k1
        cases sl with
        | own io w =>
          cases w with
          | ins c ds =>
            dsimp only at k1
            by_cases hc : flds.contains (c, f) = true ∧ ds.length < 1000
            · rw [if_pos hc] at k1
              obtain ⟨a, b1, b2, b3, b4⟩ := S3.own i io _ q4
              cases b3 with
              | ins hm hH hr =>
                obtain ⟨t1, t2⟩ := T.ok c f _ hc.1 hm
                refine ⟨_, b1, a, _, _, _, rfl, hH, t1, t2, by rw [hr.lenF]; exact hc.2, ?_⟩
                exact k1 F3 _ σ (S3.upd q4 b1 (.ins hm upd_same (hr.put r3))) (e2.trans e3)
            · rw [if_neg hc] at k1
              exact k1.elim
          | _ => exact k1.elim
        | _ => exact k1.elim)
/-! ### x.f += e, of ints -/
def mAugF (flds : List (Str × Str)) (i : Nat) (f : Str) (g : Int → Int → Int) (m : EM) : SM := fun ρ => match ρ[i]? with
  | some (.own _ (.ins c ds)) => if flds.contains (c, f) = true then (match fldD ds f with
    | some (.int a) => (m ρ).st fun v ρ => (match v with
      | .d (.int b) => (match ρ[i]? with
        | some (.own io (.ins c' ds')) => if c' = c ∧ ds'.length < 1000 then .nx (ρ.set i (.own io (.ins c' (putFD f (.int (g a b)) ds')))) else .bad
        | _ => .bad)
      | _ => .bad)
    | _ => .bad) else .bad
  | _ => .bad
theorem ms_augF {e : Expr} {m : EM} {op : Operator} {g : Int → Int → Int} {rd : V → V → Hp → VK → Prop} (T : FldT X.K X.mg flds) (hx : PE X (.Name x px) (tVar i)) (he : ME X W e m) (ho : InOp X op rd) (hg : ∀ a b H Q, Q (.int (g a b)) H → rd (.int a) (.int b) H Q) :
    MS X W (.AugAssign (.Attribute (.Name x px) f tpos) op e pos) (mAugF flds i f g m) :=
  MS.weak (ps_fldaug hx he ho) fun {σ H D G F ρ} S k => by
    unfold mAugF at k
    cases q : ρ[i]? with
    | none =>
      rw [q] at k
      exact k.elim
    | some s =>
      rw [q] at k
      cases s with
      | own io o =>
        cases o with
        | ins c ds =>
          dsimp only at k
          by_cases hc : flds.contains (c, f) = true
          · rw [if_pos hc] at k
            cases q2 : fldD ds f with
            | none =>
              rw [q2] at k
              exact k.elim
            | some y =>
              rw [q2] at k
              cases y with
              | int a0 =>
                dsimp only at k
                obtain ⟨a, h1, _, h3, _⟩ := S.own i io _ q
                cases h3 with
                | ins hm hH hr =>
                  obtain ⟨t1, t2⟩ := T.ok c f _ hc hm
                  obtain ⟨w, l1, l2⟩ := hr.look q2
                  have ew : w = .int a0 := by cases l2; rfl
                  subst ew
                  refine ⟨_, h1, a, _, _, _, _, rfl, hH, t1, t2, l1, sub S (Gd.st k fun v ρ1 F1 H1 y S1 e1 r1 k1 => ?_)⟩
                  cases r1 with
                  | d rd1 =>
                    cases rd1 with
                    | int b0 =>
                      dsimp only at k1
                      refine hg a0 b0 H1 _ ?_
                      cases q5 : ρ1[i]? with
                      | none =>
                        rw [q5] at k1
                        exact k1.elim
                      | some sl =>
                        rw [q5] at k1
                        cases sl with
                        | own io' w' =>
                          cases w' with
                          | ins c' ds' =>
                            dsimp only at k1
                            by_cases hc2 : c' = c ∧ ds'.length < 1000
                            · rw [if_pos hc2] at k1
                              obtain ⟨rfl, hl⟩ := hc2
                              obtain ⟨a', b1, b2, b3, b4⟩ := S1.own i io' _ q5
                              rw [h1] at b1
                              cases b1
                              cases b3 with
                              | ins hm' hH' hr' =>
                                rw [hm] at hm'
                                cases hm'
                                exact ⟨_, _, hH', by rw [hr'.lenF]; exact hl, k1 F1 _ σ (S1.upd q5 h1 (.ins hm upd_same (hr'.put (.int _)))) (Same.refl _)⟩
                            · rw [if_neg hc2] at k1
                              exact k1.elim
                          | _ => exact k1.elim
                        | _ => exact k1.elim
                    | _ => exact k1.elim
                  | _ => exact k1.elim
              | _ => exact k.elim
          · rw [if_neg hc] at k
            exact k.elim
        | _ => exact k.elim
      | _ => exact k.elim
end
end Mi
set_option Elab.async false
set_option linter.all false
set_option maxRecDepth 100000
set_option maxHeartbeats 2000000
/-! Mi, part Cm: methods called, instances made. -/
namespace Mi
open PySem PySem.Spec PyProof.Rows L2
/-! ### the two calls, wished for at the caller's slots -/
section
variable {X : Cx} {CX : CXT} {k : Nat} {f C : Addr} {fd : FuncData} {ps : List Str} {sp : Sp} {dvs : List V} {ds : List Value} {E : St → XK} {x m : Str} {p pos apos : Pos} {e o : Expr} {es : List Expr} {ta : TE} {t : TA}
def tMethSD (C : Addr) (m : Str) (sp : Sp) (E : St → XK) (ta : TE) (t : TA) : TE := fun σ H Q =>
  ta σ H fun y H1 => ∃ a dx fs, y = .ref a ∧ H1 a = some (.ins C dx fs) ∧ fs.lookup m = none ∧ t σ H1 fun vs H2 => sp (y :: vs) H2 Q (E σ)
theorem pe_methSD {pl : Sem Bool} (he : PE X o ta) (c : Cls X.K C) (M : Meth X.K C m f) (FO : FnOk X.prog X.w X.K X.mg X.base CX k f fd ps sp) (hr : Room k X.A) (hb : Binds X.K fd ps []) (hx : ∀ σ, PassesAt CX X σ (E σ)) (ha : PA X (e :: es) t)
    (hst : starEach (e :: es) X.env = (false, eval e X.env) :: starEach es X.env := by rfl) (hpl : (backTo pos (starEach es X.env)).any (·.1) = false := by rfl)
    (ht : eval (.Call (.Attribute o m apos) (e :: es) [] pos) X.env = (do
      let w ← eval o X.env
      standAt apos.atName
      let (g, l) ← holding [w] (getMethod w m pl)
      callWith pos g l (backTo pos (starEach (e :: es) X.env)) (backToKw pos (keywordEach [] X.env))) := by rfl) :
    PE X (.Call (.Attribute o m apos) (e :: es) [] pos) (tMethSD C m sp E ta t) :=
  ⟨fun pins s σ H Q I h => PySem.W.methodCall_KW (pl := pl) (thn (he.run pins s σ H _ I h) fun u s1 ⟨y, H1, I1, ry, a, dx, fs, ey, ea, l, q⟩ => by
    cases ey
    cases (show u = Value.ref a from ry)
    exact getmeth_ok I1 ea c M l (PySem.W.callWith_K (first := [.ref a]) (h₀ := X.base) I.ok.mod.kin M.kp (thn (ha.run pos pins s1 σ H1 _ I1 q) fun us s2 ⟨vs, H2, I2, r, q2⟩ => ⟨I2.kIn, by
      have z := run_fnSD (us := .ref a :: us) (vs := .ref a :: vs) FO hr hb .nil (hx σ) I2 (.cons rfl r) (by rw [List.append_nil]; exact q2)
      exact z⟩) hst hpl)) ht⟩
theorem pe_meth0SD {pl : Sem Bool} (he : PE X o ta) (c : Cls X.K C) (M : Meth X.K C m f) (FO : FnOk X.prog X.w X.K X.mg X.base CX k f fd ps sp) (hr : Room k X.A) (hb : Binds X.K fd ps []) (hx : ∀ σ, PassesAt CX X σ (E σ))
    (ht : eval (.Call (.Attribute o m apos) [] [] pos) X.env = (do
      let w ← eval o X.env
      standAt apos.atName
      let (g, l) ← holding [w] (getMethod w m pl)
      callWith pos g l (backTo pos (starEach [] X.env)) (backToKw pos (keywordEach [] X.env))) := by rfl) :
    PE X (.Call (.Attribute o m apos) [] [] pos) (tMethSD C m sp E ta tNil) :=
  ⟨fun pins s σ H Q I h => PySem.W.methodCall_KW (pl := pl) (thn (he.run pins s σ H _ I h) fun u s1 ⟨y, H1, I1, ry, a, dx, fs, ey, ea, l, q⟩ => by
    cases ey
    cases (show u = Value.ref a from ry)
    exact getmeth_ok I1 ea c M l (PySem.W.callWith_K0 (first := [.ref a]) I1.kIn M.kp (by
      have z := run_fnSD (us := [.ref a]) (vs := [.ref a]) FO hr hb .nil (hx σ) I1 (.cons rfl .nil) (by rw [List.append_nil]; exact q)
      exact z))) ht⟩
end
/-! ### a call's middle -/
section
variable {K : PySem.W.Frag} {mg : Str → Option Value} {W : WX} {F F' H H' : Hp} {G : Gh} {σ : St} {ρ : En}
/-- the arguments are there: the callee's promise is wished for -/
theorem mid_call {ios : List Nat} {f : List Sl → DR} {n : Nat} {vs : List OB} {xs : List V} {Q : VK} (S1 : Sat K mg G F H σ ρ) (r1 : RpBs K mg F σ xs vs) (hn : vs.length = n)
    (k1 : Gd K mg W (RpO K mg) G F σ (match toArgs vs ρ with
      | some as => if ioPos vs 0 = ios ∧ (ioSl vs).Nodup then (match f (as ++ ([] : List D).map .val) with
        | .ok r os => R.ok (rvOV r) (putO (ioSl vs) os ρ)
        | .ex x os => .ex x (putO (ioSl vs) os ρ)
        | .bad => .bad) else .bad
      | none => .bad) Q) : spM K mg n ios f xs H Q (WE W σ) := by
  cases q : toArgs vs ρ with
  | none =>
    rw [q] at k1
    exact k1.elim
  | some as =>
    rw [q] at k1
    dsimp only at k1
    by_cases hc : ioPos vs 0 = ios ∧ (ioSl vs).Nodup
    · rw [if_pos hc] at k1
      obtain ⟨c1, c2⟩ := hc
      subst c1
      have AO : ArgOk K mg F H (ioPos vs 0) xs as := by
        have := S1.args r1 (dvs := []) (dv := []) .nil q c2
        simpa using this
      refine ⟨by rw [r1.len, hn], F, as, S1.fh, AO, ?_⟩
      have ea : as ++ ([] : List D).map Sl.val = as := by simp
      rw [ea] at k1
      cases q2 : f as with
      | bad =>
        rw [q2] at k1
        exact k1.elim
      | ok r os =>
        rw [q2] at k1
        intro F2 H2 y A rr
        have A' : Aft K mg F H F2 H2 (xs ++ []) (ioPos vs 0) os := by simpa using A
        have S2 := S1.back r1 q c2 A'
        refine k1 F2 H2 y S2 A.ff ?_
        cases rr with
        | v r => exact .d r
        | w h1 h2 h3 =>
          rename_i a o
          refine .n h1 h2 ((S1.fresh0 h3).symm) fun j hj hs => ?_
          have hj1 : isOw ρ[j]? = true := by
            by_cases hm2 : j ∈ ioSl vs
            · obtain ⟨n3, hn3⟩ := List.mem_iff_getElem?.mp hm2
              obtain ⟨ll, at_⟩ := io_at (vs := vs) (b := 0) (n := n3)
              have hlt := (List.getElem?_eq_some_iff.mp hn3).1
              obtain ⟨i, e0, hv⟩ := at_ _ _ (List.getElem?_eq_getElem (by omega)) hn3
              rcases toArgs_get q hv with ⟨d, e2, _⟩ | ⟨j', t, w', e2, h1', _⟩
              · cases e2
              · cases e2
                rw [h1']
                rfl
            · rw [putO_out hm2] at hj
              exact hj
          obtain ⟨c, io', w', q4, d1, d2, d3⟩ := S1.owAt hj1
          rw [hs] at d1
          cases d1
          obtain ⟨u, hu⟩ := d3.at
          rw [h3] at hu
          cases hu
      | ex y os =>
        rw [q2] at k1
        intro F2 H2 C d fs hC A hd2 rf
        have A' : Aft K mg F H F2 H2 (xs ++ []) (ioPos vs 0) os := by simpa using A
        exact k1 F2 H2 C d fs hC (S1.back r1 q c2 A') A.ff hd2 rf
    · rw [if_neg hc] at k1
      exact k1.elim
/-- behind a call that was lent one fresh object alone -/
theorem Sat.after {x : Addr} {vs : List V} {os : List Ow} (S : Sat K mg G F H σ ρ) (fr : ∀ i : Nat, isOw ρ[i]? = true → σ[i]? = some (some (V.ref x)) → False) (h0 : G.H0 x = none ∨ G.O x) (hx : ∀ o, G.H0 x = some o → G.O x)
    (A : Aft K mg F H F' H' (V.ref x :: vs) [0] os) : Sat K mg G F' H' σ ρ := by
  have stay : ∀ b o, b ≠ x → H b = some o → H' b = some o := fun b o hb e => A.hh b o e fun k hk e2 => by
    have : k = 0 := by simpa using hk
    subst this
    cases e2
    exact hb rfl
  refine ⟨A.fh, S.f0.trans A.ff, fun b o hb hn => ?_, fun b o hb => ?_, S.len, fun j d e => ?_, fun j io o e => ?_, S.dis, S.io⟩
  · by_cases e : b = x
    · subst e
      exact absurd (hx o hb) hn
    · exact stay b o e (S.h0 b o hb hn)
  · rcases A.nw b o hb with q | q
    · exact S.fn b o q
    · exact .inr (S.fresh0 q)
  · obtain ⟨v, h1, h2⟩ := S.val j d e
    exact ⟨v, h1, h2.mono A.ff⟩
  · obtain ⟨a, a1, a2, a3, a4⟩ := S.own j io o e
    obtain ⟨u, hu⟩ := a3.at
    have hne : a ≠ x := fun z => fr j (by rw [e]; rfl) (z ▸ a1)
    refine ⟨a, a1, ?_, a3.mono A.ff ((stay a u hne hu).trans hu.symm), a4⟩
    cases q : F' a with
    | none => rfl
    | some z =>
      rcases A.nw a z q with q | q
      · rw [a2] at q
        cases q
      · rw [hu] at q
        cases q
end
/-! ### methods -/
/-- the method mn of the class named c (at C) keeps its mirror's promise, at level k -/
structure MetM (P : Program) (w : World) (K : PySem.W.Frag) (mg : Str → Option Value) (base : Heap) (k : Nat) (c mn : Str) (n : Nat) (ios : List Nat) (m : List Sl → DR) : Prop where
  ex : ∃ C f fd ps, mg c = some (.ref C) ∧ Cls K C ∧ Meth K C mn f ∧ FnOk P w K mg base (L2.CX P w) k f fd ps (spM K mg n ios m) ∧ Binds K fd ps []
def mMeth (c mn : Str) (i : Nat) (ios : List Nat) (f : List Sl → DR) (ms : AM) : EM := fun ρ => match ρ[i]? with
  | some (.own _ (.ins c' ds)) => if c' = c ∧ (fldD ds mn).isNone = true then mCall ios f [] (mLend i ms) ρ else .bad
  | _ => .bad
section
variable {X : Cx} {W : WX} {i : Nat} {x mn c : Str} {px pos apos : Pos} {ios : List Nat} {f : List Sl → DR} {ms : AM} {k j n : Nat} {e : Expr} {es : List Expr}
theorem meth_in {C : Addr} {t : TA} {σ : St} {H : Hp} {Q : VK} {G : Gh} {F : Hp} {ρ : En} {nv : Nat} (hC : X.mg c = some (.ref C)) (S : Sat X.K X.mg G F H σ ρ) (hml : ∀ ρ vs ρ', ms ρ = .ok vs ρ' → vs.length + 1 = n)
    (hA : ∀ {σ : St} {H : Hp} {Q : List V → Hp → Prop} {G : Gh} {F : Hp} {ρ : En}, Sat X.K X.mg G F H σ ρ → Gd X.K X.mg W (fun _ F _ σ _ => RpBs X.K X.mg F σ) G F σ (ms ρ) Q → t σ H Q)
    (g : Gd X.K X.mg W (RpO X.K X.mg) G F σ (mMeth c mn i ios f ms ρ) Q) : tMethSD C mn (spM X.K X.mg n ios f) (WE W) (tVar i) t σ H Q := by
  unfold mMeth at g
  cases q : ρ[i]? with
  | none =>
    rw [q] at g
    exact g.elim
  | some s =>
    rw [q] at g
    cases s with
    | own io o =>
      cases o with
      | ins c' ds =>
        dsimp only at g
        by_cases hc : c' = c ∧ (fldD ds mn).isNone = true
        · rw [if_pos hc] at g
          obtain ⟨rfl, h2⟩ := hc
          obtain ⟨a, a1, _, a3, _⟩ := S.own i io _ q
          cases a3 with
          | ins hm hH hr =>
            rw [hC] at hm
            cases hm
            refine ⟨_, a1, a, _, _, rfl, hH, hr.lookN (by simpa using h2), ?_⟩
            unfold mCall mLend at g
            have ho : isOw ρ[i]? = true := by rw [q]; rfl
            rw [if_pos ho] at g
            have g' : Gd X.K X.mg W (RpO X.K X.mg) G F σ ((ms ρ).bind fun vs ρ => match toArgs (.o i :: vs) ρ with
              | some as => if ioPos (.o i :: vs) 0 = ios ∧ (ioSl (.o i :: vs)).Nodup then (match f (as ++ ([] : List D).map .val) with
                | .ok r os => R.ok (rvOV r) (putO (ioSl (.o i :: vs)) os ρ)
                | .ex x os => .ex x (putO (ioSl (.o i :: vs)) os ρ)
                | .bad => .bad) else .bad
              | none => .bad) Q := by
              cases q9 : ms ρ with
              | ok vs ρ9 =>
                rw [q9] at g
                exact g
              | ex y ρ9 =>
                rw [q9] at g
                exact g
              | bad =>
                rw [q9] at g
                exact g
            refine hA S (Gd.bind g' fun vs ρ1 F1 H1 xs hms S1 e1 r1 k1 => ?_)
            exact mid_call S1 (.cons (.o a1) r1) (by rw [List.length_cons]; exact hml ρ vs ρ1 hms) k1
        · rw [if_neg hc] at g
          exact g.elim
      | _ => exact g.elim
    | _ => exact g.elim
theorem me_meth {pl : Sem Bool} (M : MetM X.prog X.w X.K X.mg X.base k c mn n ios f) (hr : Room j X.A) (hk : k ≤ j) (tk : Takes X W) (hx : PE X (.Name x px) (tVar i)) (ha : MA X W (e :: es) ms) (hml : ∀ ρ vs ρ', ms ρ = .ok vs ρ' → vs.length = (e :: es).length) (hn : (e :: es).length + 1 = n := by rfl)
    (hst : starEach (e :: es) X.env = (false, eval e X.env) :: starEach es X.env := by rfl) (hpl : (backTo pos (starEach es X.env)).any (·.1) = false := by rfl)
    (ht : eval (.Call (.Attribute (.Name x px) mn apos) (e :: es) [] pos) X.env = (do
      let w ← eval (.Name x px) X.env
      standAt apos.atName
      let (g, l) ← holding [w] (getMethod w mn pl)
      callWith pos g l (backTo pos (starEach (e :: es) X.env)) (backToKw pos (keywordEach [] X.env))) := by rfl) : ME X W (.Call (.Attribute (.Name x px) mn apos) (e :: es) [] pos) (mMeth c mn i ios f ms) := by
  obtain ⟨C, fa, fd, ps, hC, hcl, hme, FO, hb⟩ := M.ex
  exact ME.weak (pe_methSD (pl := pl) hx hcl hme FO (hr.mono hk) hb (fun σ => passAt tk σ) ha hst hpl ht) fun S g => meth_in (nv := 0) hC S (fun ρ vs ρ' h => by rw [hml ρ vs ρ' h]; exact hn) (fun S g => subA S g) g
theorem me_meth0 {pl : Sem Bool} (M : MetM X.prog X.w X.K X.mg X.base k c mn 1 ios f) (hr : Room j X.A) (hk : k ≤ j) (tk : Takes X W) (hx : PE X (.Name x px) (tVar i))
    (ht : eval (.Call (.Attribute (.Name x px) mn apos) [] [] pos) X.env = (do
      let w ← eval (.Name x px) X.env
      standAt apos.atName
      let (g, l) ← holding [w] (getMethod w mn pl)
      callWith pos g l (backTo pos (starEach [] X.env)) (backToKw pos (keywordEach [] X.env))) := by rfl) : ME X W (.Call (.Attribute (.Name x px) mn apos) [] [] pos) (mMeth c mn i ios f mNil) := by
  obtain ⟨C, fa, fd, ps, hC, hcl, hme, FO, hb⟩ := M.ex
  refine ME.weak (pe_meth0SD (pl := pl) hx hcl hme FO (hr.mono hk) hb (fun σ => passAt tk σ) ht) fun S g => meth_in (nv := 0) (ms := mNil) hC S (fun ρ vs ρ' h => by cases h; rfl) (fun {σ H Q G F ρ} S g => ?_) g
  exact g F H [] S (Same.refl _) .nil
end
end Mi
set_option Elab.async false
set_option linter.all false
set_option maxRecDepth 100000
set_option maxHeartbeats 2000000
/-! Mi, part Cn: instances made. -/
namespace Mi
open PySem PySem.Spec PyProof.Rows L2
section
variable {X : Cx} {CX : CXT} {k : Nat} {f C : Addr} {fd : FuncData} {ps : List Str} {sp : Sp} {E : St → XK} {x : Str} {p pos : Pos} {e : Expr} {es : List Expr} {t : TA}
def tMakeSD (C : Addr) (sp : Sp) (E : St → XK) (t : TA) : TE := fun σ H Q => t σ H fun vs H1 => ∀ y dx, H1 y = none → H1 dx = none → dx ≠ y →
  sp (.ref y :: vs) (upd (upd H1 dx (.own y)) y (.ins C dx [])) (fun v H2 => v = .non ∧ Q (.ref y) H2) (E σ)
/-- a wish of what is raised that holds behind the making -/
def PassM (CX : CXT) (X : Cx) (σ : St) (E : XK) : Prop := ∀ (pins : List (Addr × Obj)) (H H2 : Hp) (s s2 : Shared) (u : Value) (s' : Shared), Inv X pins σ H s → Inv X pins σ H2 s2 → CX X.stack H2 s2 E u s' → X.xe u s'
theorem pe_makeSD (M : Mk X.K C f) (FO : FnOk X.prog X.w X.K X.mg X.base CX k f fd ps sp) (hr : Room (k + 1) X.A) (hg : Gl X x) (hm : X.mg x = some (.ref C)) (hb : Binds X.K fd ps []) (hx : ∀ σ, PassesAt CX X σ (E σ))
    (ha : PA X (e :: es) t) (hdb : (x == ("__debug__" : Str)) = false := by decide) (he : starEach (e :: es) X.env = (false, eval e X.env) :: starEach es X.env := by rfl) (hpl : (backTo pos (starEach es X.env)).any (·.1) = false := by rfl) :
    PE X (.Call (.Name x p) (e :: es) [] pos) (tMakeSD C sp E t) :=
  ⟨fun pins s0 σ H Q I h => wpAny_Call_Name_kw (ld_glob I hg hm (PySem.W.callWith_K (h₀ := X.base) I.ok.mod.kin M.kp (thn (ha.run pos pins s0 σ H _ I h) fun us s ⟨vs, H1, I1, r, q⟩ => ⟨I1.kIn, by
    have hq := q (s.heap.objs.size + 1) s.heap.objs.size (I1.hok.fresh (Nat.le_succ _)) (I1.hok.fresh (Nat.le_refl _)) (Nat.ne_of_lt (Nat.lt_succ_self _))
    have I2 := Inv.made (C := C) I1
    have r2 : Vals (V.ref (s.heap.objs.size + 1) :: vs) (Value.ref (s.heap.objs.size + 1) :: us) := .cons rfl r
    have hl : (Value.ref (s.heap.objs.size + 1) :: us ++ []).length = ps.length := by
      have z := r2.length
      rw [FO.len _ _ _ _ hq] at z
      rw [List.append_nil]
      exact z.symm
    have B := hb _ (Value.ref (s.heap.objs.size + 1) :: us) I2.kIn hl
    rw [List.append_nil] at B
    refine wpAny_call (make_map (f := f) I1.kIn M.makes M.init (beq_iff_eq.mp M.fn) (codeAny_mono (FO.run _ X.stack _ _ ⟨Value.ref (s.heap.objs.size + 1) :: us, []⟩ (Value.ref (s.heap.objs.size + 1) :: us) _ _ (E σ) (hr.make C us [])
      (I2.env0.make C us []) B r2 hq) fun o s' hq' => ?_))
    cases o with
    | error u => exact hx σ pins _ _ u s' I2 hq'
    | ok fl =>
      cases fl with
      | ret u =>
        obtain ⟨v, H', I3, rv, ev, q3⟩ := I2.after hq'
        subst ev
        exact ⟨rv, ⟨V.ref (s.heap.objs.size + 1), H', I3, rfl, q3⟩⟩
      | _ => exact False.elim hq'⟩) he hpl) hdb)⟩
end
/-- C(..): the new object is lent to __init__, the arguments are data -/
def mMake (c : Str) (f : List Sl → DR) (ms : AM) : EM := fun ρ => (ms ρ).bind fun vs ρ => match toArgs vs ρ with
  | some as => if ioPos vs 0 = [] then (match f (.own true (.ins c []) :: as) with
    | .ok (.v .non) [o] => .ok (.n o) ρ
    | .ex x [_] => .ex x ρ
    | _ => .bad) else .bad
  | none => .bad
structure MkM (P : Program) (w : World) (K : PySem.W.Frag) (mg : Str → Option Value) (base : Heap) (k : Nat) (c : Str) (n : Nat) (m : List Sl → DR) : Prop where
  ex : ∃ C f fd ps, mg c = some (.ref C) ∧ Mk K C f ∧ FnOk P w K mg base (L2.CX P w) k f fd ps (spM K mg n [0] m) ∧ Binds K fd ps []
section
variable {K : PySem.W.Frag} {mg : Str → Option Value} {W : WX} {F H : Hp} {G : Gh} {σ : St} {ρ : En}
theorem mid_make {c : Str} {C : Addr} {f : List Sl → DR} {n : Nat} {vs : List OB} {xs : List V} {Q : VK} (hC : mg c = some (.ref C)) (S1 : Sat K mg G F H σ ρ) (r1 : RpBs K mg F σ xs vs) (hn : vs.length + 1 = n)
    (k1 : Gd K mg W (RpO K mg) G F σ (match toArgs vs ρ with
      | some as => if ioPos vs 0 = [] then (match f (.own true (.ins c []) :: as) with
        | .ok (.v .non) [o] => R.ok (OV.n o) ρ
        | .ex x [_] => .ex x ρ
        | _ => .bad) else .bad
      | none => .bad) Q) {x dx : Addr} (hx : H x = none) (hdx : H dx = none) (hne : dx ≠ x) :
    spM K mg n [0] f (.ref x :: xs) (upd (upd H dx (.own x)) x (.ins C dx [])) (fun v H2 => v = .non ∧ Q (.ref x) H2) (WE W σ) := by
  cases q : toArgs vs ρ with
  | none =>
    rw [q] at k1
    exact k1.elim
  | some as =>
    rw [q] at k1
    dsimp only at k1
    by_cases hc : ioPos vs 0 = []
    · rw [if_pos hc] at k1
      have h1 : Same H (upd H dx (.own x)) := same_upd hdx
      have hx1 : (upd H dx (.own x)) x = none := by rw [upd_ne (Ne.symm hne)]; exact hx
      have h2 : Same H (upd (upd H dx (.own x)) x (.ins C dx [])) := h1.trans (same_upd hx1)
      have ex : Ext F H F (upd (upd H dx (.own x)) x (.ins C dx [])) := ⟨Same.refl _, h2, S1.fh.trans h2, fun _ _ z => .inl z⟩
      have S2 := S1.ext ex
      have fx : F x = none := S1.fh.free hx
      have nd : (ioSl vs).Nodup := by
        have : ioSl vs = [] := by
          cases q0 : ioSl vs with
          | nil => rfl
          | cons j r =>
            obtain ⟨ll, _⟩ := io_at (vs := vs) (b := 0) (n := 0)
            rw [hc, q0] at ll
            cases ll
        rw [this]
        exact List.nodup_nil
      have AO : ArgOk K mg F H [] xs as := by
        have := S1.args r1 (dvs := []) (dv := []) .nil q nd
        rw [hc] at this
        simpa using this
      have A2 : ArgOk K mg F (upd (upd H dx (.own x)) x (.ins C dx [])) [0] (.ref x :: xs) (.own true (.ins c []) :: as) := by
        refine ⟨by rw [List.length_cons, List.length_cons, AO.len], fun i d e => ?_, fun i io o e => ?_, fun k hk => ?_, fun i j a hij hi hj => ?_⟩
        · cases i with
          | zero => cases e
          | succ i => exact AO.val i d e
        · cases i with
          | zero =>
            cases e
            exact ⟨List.mem_singleton.mpr rfl, x, rfl, fx, .ins hC upd_same .nil⟩
          | succ i =>
            obtain ⟨z, _⟩ := AO.own i io o e
            cases z
        · have : k = 0 := by simpa using hk
          subst this
          exact ⟨_, rfl⟩
        · have e1 : i = 0 := by simpa using hi
          have e2 : j = 0 := by simpa using hj
          exact absurd (e1.trans e2.symm) hij
      have fr : ∀ i : Nat, isOw ρ[i]? = true → σ[i]? = some (some (V.ref x)) → False := fun i hi hs => by
        obtain ⟨a, io, w, _, a1, _, a3⟩ := S1.owAt hi
        rw [hs] at a1
        cases a1
        obtain ⟨u, hu⟩ := a3.at
        rw [hx] at hu
        cases hu
      have gx : ∀ o, G.H0 x = some o → G.O x := fun o ho => by
        rcases S1.fresh0 hx with z | z
        · rw [z] at ho
          cases ho
        · exact z
      refine ⟨by rw [List.length_cons, r1.len, hn], F, _, S2.fh, A2, ?_⟩
      cases q2 : f (.own true (.ins c []) :: as) with
      | bad =>
        rw [q2] at k1
        exact k1.elim
      | ok r os =>
        rw [q2] at k1
        cases r with
        | w o => exact k1.elim
        | v d =>
          cases d with
          | non =>
            match os, k1 with
            | [o], k1 =>
              intro F2 H3 y A rr
              have S3 := S2.after fr (S1.fresh0 hx) gx A
              cases rr with
              | v r =>
                cases r
                refine ⟨rfl, ?_⟩
                obtain ⟨b1, b2⟩ := A.io 0 0 x o rfl rfl rfl
                exact k1 F2 H3 (.ref x) S3 A.ff (.n b1 b2 ((S1.fresh0 hx).symm) fr)
            | [], k1 => exact k1.elim
            | _ :: _ :: _, k1 => exact k1.elim
          | _ => exact k1.elim
      | ex y os =>
        rw [q2] at k1
        match os, k1 with
        | [o], k1 =>
          intro F2 H3 D d fs hD A hd2 rf
          exact k1 F2 H3 D d fs hD (S2.after fr (S1.fresh0 hx) gx A) A.ff hd2 rf
        | [], k1 => exact k1.elim
        | _ :: _ :: _, k1 => exact k1.elim
    · rw [if_neg hc] at k1
      exact k1.elim
end
section
variable {X : Cx} {W : WX} {c : Str} {p pos : Pos} {f : List Sl → DR} {ms : AM} {k j n : Nat} {e : Expr} {es : List Expr}
theorem me_make (M : MkM X.prog X.w X.K X.mg X.base k c n f) (hr : Room j X.A) (hk : k + 1 ≤ j) (tk : Takes X W) (hg : Gl X c) (ha : MA X W (e :: es) ms) (hml : ∀ ρ vs ρ', ms ρ = .ok vs ρ' → vs.length = (e :: es).length) (hn : (e :: es).length + 1 = n := by rfl)
    (hdb : (c == ("__debug__" : Str)) = false := by decide) (he : starEach (e :: es) X.env = (false, eval e X.env) :: starEach es X.env := by rfl) (hpl : (backTo pos (starEach es X.env)).any (·.1) = false := by rfl) :
    ME X W (.Call (.Name c p) (e :: es) [] pos) (mMake c f ms) := by
  obtain ⟨C, fa, fd, ps, hC, M, FO, hb⟩ := M.ex
  exact ME.weak (pe_makeSD M FO (hr.mono hk) hg hC hb (fun σ => passAt tk σ) ha hdb he hpl) fun {σ H Q G F ρ} S g => subA S (Gd.bind g fun vs ρ1 F1 H1 xs hms S1 e1 r1 k1 => fun y dx hy hdx hne => mid_make hC S1 r1 (by rw [hml ρ vs ρ1 hms]; exact hn) k1 hy hdx hne)
end
end Mi
set_option Elab.async false
set_option linter.all false
set_option maxRecDepth 100000
set_option maxHeartbeats 2000000
/-! Mi, part Jn: joint.join(list of texts). -/
namespace Mi
open PySem PySem.Spec PyProof.Rows L2 PySem.MiX
def strsD : List D → Option (List Str)
  | [] => some []
  | .str x :: r => (strsD r).map (x :: ·)
  | _ => none
theorem strsD_eq : ∀ {ds : List D} {ys : List Str}, strsD ds = some ys → ds = ys.map D.str
  | [], _, h => by cases h; rfl
  | d :: r, ys, h => by
    cases d with
    | str x =>
      have h' : (strsD r).map (x :: ·) = some ys := h
      obtain ⟨ms, h1, rfl⟩ := Option.map_eq_some_iff.mp h'
      rw [strsD_eq h1]
      rfl
    | _ => cases h
theorem strsD_of : ∀ ys : List Str, strsD (ys.map D.str) = some ys
  | [] => rfl
  | y :: ys => by
    show (strsD (ys.map D.str)).map (y :: ·) = _
    rw [strsD_of ys]
    rfl
def dJoin (s : Str) (d : D) : Option D := (lsD d).bind fun ds => (strsD ds).bind fun ys => if (ys.map fun y => y.length).sum + ys.length * s.length ≤ BIG then some (.str (Txt.join s ys)) else none
def apJ (s : Str) (u : OB) (ρ : En) : R OV := match u.get ρ with
  | some d => rz (dJoin s d) ρ
  | none => .bad
def mJoin (mo ma : EM) : EM := fun ρ => (mo ρ).bind fun v ρ => match v.fz.get ρ with
  | some (.str s) => (ma ρ).bind fun u ρ => apJ s u.fz ρ
  | _ => .bad
section
variable {K : PySem.W.Frag} {mg : Str → Option Value} {F H : Hp}
theorem RpA.strs : ∀ {ys : List Str} {vs : List V}, RpA K mg F vs (ys.map D.str) → vs = ys.map V.str
  | [], vs, h => by
    cases h
    rfl
  | y :: ys, vs, h => by
    cases h with
    | cons r t =>
      cases r
      rw [RpA.strs t]
      rfl
end
section
variable {X : Cx} {W : WX} {o e : Expr} {mo ma : EM} {apos cpos : Pos}
theorem me_join (ho : ME X W o mo) (ha : ME X W e ma) (hbase : attributeBase o "join" X.env (eval o X.env) = eval o X.env := by rfl)
    (hfew : ((backTo cpos (starEach (e :: []) X.env)).all (fun x => !x.1) && (backToKw cpos (keywordEach [] X.env)).all (fun x => x.1.isSome)
      && decide ((e :: []).length + ([] : List Keyword).length + (if ([] : List Keyword).isEmpty then 0 else 1) < 30)) = true := by rfl)
    (hline : (apos.endLine == cpos.line) = true := by rfl) (hs : starEach (e :: []) X.env = (false, eval e X.env) :: starEach [] X.env := by rfl) (hplain : (backTo cpos (starEach [] X.env)).any (·.1) = false := by rfl) :
    ME X W (.Call (.Attribute o "join" apos) [e] [] cpos) (mJoin mo ma) :=
  ME.weak (pe_bm (T := "str") PySem.F.plainAttrs_str PySem.F.slot_str_join PySem.F.type_str_join L2.mt_join ho (pa_cons ha pa_nil hs) hbase hfew hline hs hplain) fun {σ H Q G F ρ} S g =>
    sub S (Gd.opd (f := fun v ρ => match v.get ρ with
      | some (.str s) => (ma ρ).bind fun u ρ => apJ s u.fz ρ
      | _ => .bad) g fun v ρ1 F1 H1 x S1 e1 r1 k1 => by
      cases q : v.get ρ1 with
      | none => rw [q] at k1; exact k1.elim
      | some d =>
        rw [q] at k1
        cases d with
        | str s =>
          have rx := (S1.get r1 q).str
          subst rx
          refine ⟨rfl, sub S1 (Gd.opd (f := fun u ρ => apJ s u ρ) k1 fun u ρ2 F2 H2 y S2 e2 r2 k2 => ?_)⟩
          unfold apJ at k2
          cases q3 : u.get ρ2 with
          | none => rw [q3] at k2; exact k2.elim
          | some dy =>
            rw [q3] at k2
            obtain ⟨z, hz, kz⟩ := fin_rz S2 k2
            unfold dJoin at hz
            obtain ⟨ds, h1, h2⟩ := Option.bind_eq_some_iff.mp hz
            obtain ⟨ys, h3, h4⟩ := Option.bind_eq_some_iff.mp h2
            obtain ⟨hb, h5⟩ := if_some h4
            subst h5
            have hl : isLstB (some dy) = true := by
              cases dy <;> first | rfl | cases h1
            obtain ⟨ds2, a, vs, g1, g2, rfl, hT, ra⟩ := isLst_at (S2.get r2 q3) S2.fh hl
            rw [h1] at g1
            cases g1
            rw [strsD_eq h3] at ra
            have hv := RpA.strs ra
            subst hv
            exact ⟨s, a, ys, rfl, rfl, .inl hT, Nat.le_trans hb (by unfold BIG; decide), kz F2 H2 _ (.refl S2.fh) (.str _)⟩
        | _ => exact k1.elim)
end
end Mi
set_option Elab.async false
set_option linter.all false
set_option maxRecDepth 100000
set_option maxHeartbeats 4000000
/-! Mi, part Po: xs.pop(). -/
namespace Mi
open PySem PySem.Spec PyProof.Rows L2
section
variable {X : Cx} {W : WX} {s : Nat} {x : Str} {px apos cpos : Pos}
theorem x_pop (hx : PE X (.Name x px) (tVar s)) (hbase : attributeBase (.Name x px) "pop" X.env (eval (.Name x px) X.env) = eval (.Name x px) X.env := by rfl) (hline : (apos.endLine == cpos.line) = true := by rfl) :
    ME X W (.Call (.Attribute (.Name x px) "pop" apos) [] [] cpos) (mPop s) :=
  me_pop (pe_bm0 (T := "list") PySem.F.plainAttrs_list PySem.F.slot_list_pop PySem.F.type_list_pop mt_pop hx hbase hline)
end
end Mi
set_option Elab.async false
set_option linter.all false
set_option maxRecDepth 100000
set_option maxHeartbeats 2000000
/-! Mi, part Co: what the head says of own classes; isinstance(caught, ValueError); shorthands. -/
namespace Mi
open PySem PySem.Spec PyProof.Rows L2 PySem.MiX
theorem kit_VE {K : PySem.W.Frag} {C : Addr} (h : PySem.W.subIn K (.ref C) (.type "ValueError") = some true) : PySem.W.kitAny K (.ref C) [.type "ValueError"] = some true := by
  refine kitAny_cons (b := true) ?_ (fun z => by cases z) (fun _ => rfl)
  have hk : PySem.W.kitMeta "ValueError" = true := by decide +kernel
  have e : PySem.W.kitCls K (.ref C) (.type "ValueError") = PySem.W.subIn K (.ref C) (.type "ValueError") := by
    show (if PySem.W.kitMeta "ValueError" = true then PySem.W.subIn K (.ref C) (.type "ValueError") else none) = _
    rw [if_pos hk]
  show (if (Value.ref C == Value.type "ValueError") = true then some true else PySem.W.kitCls K (.ref C) (.type "ValueError")) = some true
  rw [if_neg (by simp), e, h]
theorem ClsT.isVE {P : Program} {K : PySem.W.Frag} {mg : Str → Option Value} {AA : Str → Addr} {exs : List (Str × Str)} {root : Str} {sub : Str → Str → Bool} (T : ClsT P K mg AA exs root sub) : IsT K mg (catOf exs) [.type "ValueError"] := ⟨fun c b C h e => by
  obtain ⟨f, h1, rfl⟩ := catOf_mem h
  have eC := T.cls h1 e
  subst eC
  obtain ⟨fI, X⟩ := T.x c f h1
  exact ⟨T.ec c f h1, kit_VE X.vC⟩⟩
section
variable {X : Cx} {W : WX} {flds : List (Str × Str)} {i : Nat} {x f : Str} {px tpos pos : Pos} {e : Expr} {m : EM}
theorem ms_addF (T : FldT X.K X.mg flds) (hx : PE X (.Name x px) (tVar i)) (he : ME X W e m) : MS X W (.AugAssign (.Attribute (.Name x px) f tpos) .Add e pos) (mAugF flds i f (· + ·) m) :=
  ms_augF T hx he in_add fun a b H Q q => ⟨a, b, rfl, rfl, q⟩
theorem ms_subF (T : FldT X.K X.mg flds) (hx : PE X (.Name x px) (tVar i)) (he : ME X W e m) : MS X W (.AugAssign (.Attribute (.Name x px) f tpos) .Sub e pos) (mAugF flds i f (· - ·) m) :=
  ms_augF T hx he in_sub fun a b H Q q => ⟨a, b, rfl, rfl, q⟩
end
end Mi
namespace Mi
open PySem PySem.Spec PyProof.Rows L2 PySem.MiX
section
variable {P : Program} {w : World} {K : PySem.W.Frag} {mg : Str → Option Value} {base : Heap} {k n : Nat} {c mn : Str} {ios : List Nat} {m m' : List Sl → DR} {C f : Addr} {fd : FuncData} {ps : List Str}
theorem metM_of (h1 : mg c = some (.ref C)) (h2 : Cls K C) (h3 : Meth K C mn f) (FO : FnOk P w K mg base (L2.CX P w) k f fd ps (spM K mg n ios m)) (hb : Binds K fd ps []) : MetM P w K mg base k c mn n ios m := ⟨C, f, fd, ps, h1, h2, h3, FO, hb⟩
theorem mkM_of (h1 : mg c = some (.ref C)) (h3 : Mk K C f) (FO : FnOk P w K mg base (L2.CX P w) k f fd ps (spM K mg n [0] m)) (hb : Binds K fd ps []) : MkM P w K mg base k c n m := ⟨C, f, fd, ps, h1, h3, FO, hb⟩
theorem fnok_as (e : m = m') (FO : FnOk P w K mg base (L2.CX P w) k f fd ps (spM K mg n ios m)) : FnOk P w K mg base (L2.CX P w) k f fd ps (spM K mg n ios m') := e ▸ FO
end
section
variable {X : Cx} {W : WX} {a b c : Expr} {op op' : CmpOp} {r r' : R2} {g g' : D → D → Option D} {ma mb mc : EM} {pos : Pos}
theorem mt_chain (o : Op2 X.K X.mg r g) (o' : Op2 X.K X.mg r' g') (ho : OpR X (compareOp op) r) (ho' : OpR X (compareOp op') r') (ha : ME X W a ma) (hb : ME X W b mb) (hc : ME X W c mc)
    (hm : lastMarks [op, op'] [b, c] = false := by with_unfolding_all rfl) : MT X W (.Compare a [op, op'] [b, c] pos) (mTst (mChain g g' ma mb mc)) :=
  MT.weak (pt_chain ho ho' ha hb hc hm) fun S k => chain_ok o o' S (Gd.tst k)
end
end Mi
set_option Elab.async false
set_option linter.all false
set_option maxRecDepth 100000
set_option maxHeartbeats 2000000
/-! Mi, part Rt: t[::-1], t * n, l * n, (*t, a). -/
namespace HT
open PySem PySem.Spec PyProof.Rows
section
variable {prog : Program} {w : World} {A : Around} {E : Value → Shared → Prop} {s : Shared}
theorem adjust_rev (n : Nat) : Builtin.Slice.sliceAdjust none none (-1) (n : Int) = ((n : Int) - 1, -1) := by
  unfold Builtin.Slice.sliceAdjust
  first
    | rfl
    | simp
theorem places_rev (n : Nat) : Builtin.Slice.slicePlaces ((n : Int) - 1) (-1) (-1) = n := by
  unfold Builtin.Slice.slicePlaces
  have h1 : ¬ ((-1 : Int) > 0) := by omega
  simp only [h1, if_false]
  split
  · rename_i h
    have e : ((n : Int) - 1 - -1 + - -1 - 1) / (- -1) = (n : Int) := by
      rw [show (- -1 : Int) = 1 by decide, Int.ediv_one]
      omega
    first
      | omega
      | (simp only [Int.neg_neg, Int.ediv_one]; omega)
  · omega
theorem sliceApplied_rev {sl : Addr} {vs : Value} {n : Nat} {Q : Int × Int × Nat → Shared → Prop} (hs : s.heap.IsSliceOf sl .none .none vs) (ps : IsPart vs (some (-1)))
    (h : Q ((n : Int) - 1, -1, n) s) : wpAny (model prog w) A (Builtin.Slice.sliceApplied (.ref sl) (pure (n : Int))) Q E s := by
  obtain ⟨os, hos, hcs, hds⟩ := id hs
  unfold Builtin.Slice.sliceApplied Builtin.Slice.sliceFields
  refine wpAny_bind (wpAny_bind (wpAny_field hos hds (x := .none) rfl (wpAny_bind (wpAny_field hos hds (x := .none) rfl (wpAny_bind (wpAny_field hos hds (x := vs) rfl (wpAny_pure ?_)))))))
  refine wpAny_bind (slicePart_ ps ?_)
  show wpAny _ _ (if ((-1 : Int) == 0) = true then _ else _) _ _ s
  rw [if_neg (by decide)]
  refine wpAny_bind (slicePart_none (wpAny_bind (slicePart_none (wpAny_bind (wpAny_pure ?_)))))
  show wpAny _ _ (match Builtin.Slice.sliceAdjust none none (-1) (n : Int) with | (lo, hi) => pure (lo, (-1 : Int), Builtin.Slice.slicePlaces lo hi (-1))) _ _ s
  rw [adjust_rev n]
  show wpAny _ _ (pure ((n : Int) - 1, (-1 : Int), Builtin.Slice.slicePlaces ((n : Int) - 1) (-1) (-1))) _ _ s
  rw [places_rev]
  exact wpAny_pure h
theorem filterMap_eq {α β : Type} {f g : α → Option β} : ∀ {l : List α}, (∀ x ∈ l, f x = g x) → l.filterMap f = l.filterMap g
  | [], _ => rfl
  | a :: l, h => by
    rw [List.filterMap_cons, List.filterMap_cons, h a List.mem_cons_self, filterMap_eq (l := l) fun x hx => h x (List.mem_cons_of_mem _ hx)]
theorem pick_rev (xs : Array Value) : ((List.range xs.size).filterMap fun (m : Nat) => xs[(((xs.size : Int) - 1) + (m : Int) * -1).toNat]?).toArray = xs.toList.reverse.toArray := by
  have := PySem.W.krv_pick xs
  unfold slicePick at this
  rw [PySem.W.krv_bounds] at this
  show _ = _
  rw [← this]
  show _ = ((sliceRange ((xs.size : Int) - 1) (-1) (-1)).filterMap (xs[·]?)).toArray
  rw [PySem.W.krv_sliceRange, List.filterMap_map]
  congr 1
  refine filterMap_eq fun m hm => ?_
  have hm := List.mem_range.mp hm
  show xs[(((xs.size : Int) - 1) + (m : Int) * -1).toNat]? = xs[xs.size - 1 - m]?
  have : (((xs.size : Int) - 1) + (m : Int) * -1).toNat = xs.size - 1 - m := by omega
  rw [this]
theorem getItem_tuple_rev {t sl : Addr} {items : Array Value} {vs : Value} {Q : Value → Shared → Prop} (ht : IsTup s.heap t items) (hs : s.heap.IsSliceOf sl .none .none vs) (ps : IsPart vs (some (-1)))
    (h : Q (.ref s.heap.objs.size) { s with heap := s.heap.push { cls := .type "tuple", data := .seq items.toList.reverse.toArray } })
    (hsz : items.size ≤ sizeLine) : wpAny (model prog w) A (getItem (.ref t) (.ref sl)) Q E s := by
  have htake : sizeOk (.seq items.toList.reverse.toArray) := by
    show items.toList.reverse.toArray.size ≤ sizeLine
    rw [List.size_toArray, List.length_reverse, Array.length_toList]
    exact hsz
  obtain ⟨os, hos, hcs, hds⟩ := id hs
  have hTs : s.TypeIs (.ref sl) "slice" := ⟨os, hos, hcs⟩
  unfold getItem
  try with_reducible refine wpAny_holding ?_
  first | refine wpAny_bind (wpAny_pure ?_) | skip
  refine wpAny_bind (wpAny_sequenceKey ht.typeIs (by decide) ?_)
  refine wpAny_bind (wpAny_callSpecial?_slot (name := Str.ofString "__getitem__") ht.typeIs PyProof.Rows.slot_tuple_getitem
    (wpAny_call_entry PyProof.Rows.slot_tuple_getitem ht.typeIs entry_tuple_getitem ?_ (args_tuple_getitem _ _)))
  show wpAny _ _ (Builtin.Tuple.tupleItemsOf (.ref t) >>= _) _ _ s
  refine wpAny_bind (tupleItemsOf_ ht ?_)
  refine wpAny_bind (wpAny_typeOf hTs ?_)
  rw [if_pos (by decide)]
  refine wpAny_bind (sliceApplied_rev hs ps ?_)
  have hno : ¬ ((((items.size : Int) - 1) == 0 && (-1 : Int) == 1 && items.size == items.size) = true) := by
    intro q
    rw [Bool.and_eq_true, Bool.and_eq_true] at q
    have := eq_of_beq q.1.2
    omega
  show wpAny _ _ (if (((items.size : Int) - 1) == 0 && (-1 : Int) == 1 && items.size == items.size) = true then _ else _) _ _ s
  rw [if_neg hno, pick_rev]
  first
    | exact wpAny_bind (m := Builtin.Tuple.tupleExact _) (wpAny_newObj_type (wpAny_pure ⟨_, rfl, wpAny_pure h⟩) htake)
    | exact wpAny_bind (m := Builtin.Tuple.tupleExact _) (wpAny_newObj_type (wpAny_bind (wpAny_pure (wpAny_pure ⟨_, rfl, wpAny_pure h⟩))) htake)
    | exact wpAny_bind (wpAny_bind (m := Builtin.Tuple.tupleExact _) (wpAny_newObj_type (wpAny_pure (wpAny_pure ⟨_, rfl, wpAny_pure h⟩)) htake))
    | exact wpAny_bind (wpAny_bind (m := Builtin.Tuple.tupleExact _) (wpAny_newObj_type (wpAny_pure ⟨_, rfl, wpAny_pure h⟩) htake))
end
end HT
namespace Mi
open PySem PySem.Spec PyProof.Rows L2
section
variable {X : Cx}
/-- t[::-1] -/
def tRevT (K : PySem.W.Frag) (te : TE) : TE := fun σ H Q => te σ H fun x H1 => ∃ a xs, x = .ref a ∧ SqT K H1 a xs ∧ newT xs.reverse H1 Q
theorem pe_revT {e : Expr} {te : TE} {k : Nat} {p1 p2 p3 pos : Pos} (he : PE X e te) : PE X (.Subscript e (.Slice none none (some (.UnaryOp .USub (.Constant (.int 1) k p1) p2)) p3) pos) (tRevT X.K te) := by
  refine ⟨fun pins s σ H Q I h => ?_⟩
  refine Subscript_ (thn (he.run pins s σ H _ I h) fun v s1 ⟨x, H1, I1, r1, q1⟩ => ?_)
  obtain ⟨a, xs, ex, hx, q⟩ := q1
  subst ex
  cases r1
  have hst : PO X (some (.UnaryOp .USub (.Constant (.int 1) k p1) p2)) (tPart (tUn (rU fun i => .int (-i)) (tC (.int 1)))) := po_some (pe_un un_neg pe_int)
  refine wpAny_Slice (thn (po_none.run pins s1 σ H1 (fun o H2 => o = none ∧ H2 = H1) I1 ⟨rfl, rfl⟩) fun vl s2 ⟨l, H2, I2, pl, el, e2⟩ => ?_)
  subst el e2
  refine thn (po_none.run pins s2 σ H2 (fun o H3 => o = none ∧ H3 = H2) I2 ⟨rfl, rfl⟩) fun vu s3 ⟨u, H3, I3, pu, eu, e3⟩ => ?_
  subst eu e3
  refine thn (hst.run pins s3 σ H3 (fun o H4 => o = some (-1) ∧ H4 = H3) I3 ⟨1, rfl, -1, rfl, rfl, rfl⟩) fun vs s4 ⟨o, H4, I4, ps, eo, e4⟩ => ?_
  subst eo e4
  have I5 : Inv X pins σ H4 { s4 with heap := s4.heap.push { cls := .type "slice", data := .fields #[vl, vu, vs] } } := I4.kept (t' := s4.toks) fun b ob q => Heap.get?_push_of_some _ q
  obtain ⟨its, r, ht, hz⟩ := I5.tuple hx
  have hlen := r.length
  cases pl
  cases pu
  show wpAny (model X.prog X.w) X.A (subscriptTail e (.Slice none none (some (.UnaryOp .USub (.Constant (.int 1) k p1) p2)) p3) (.ref a) (.ref s4.heap.objs.size)) (EP X pins σ Q) X.xe { s4 with heap := s4.heap.push { cls := .type "slice", data := .fields #[.none, .none, vs] } }
  refine tail_any (ops := [.ref a, .ref s4.heap.objs.size]) ht.typeIs (PyProof.Rows.slot_tuple_getitem.lookup) ?_ (by with_unfolding_all rfl)
  refine HT.getItem_tuple_rev ht (Heap.IsSliceOf.new _ .none .none vs) ps ?_ (by rw [List.size_toArray]; omega)
  exact laidT (t' := s4.toks) I5 (fun _ _ e => e) r.reverse (by rw [List.length_reverse]; exact hz) q
end
section
variable {K : PySem.W.Frag} {mg : Str → Option Value} {W : WX} {F H : Hp} {G : Gh} {σ : St} {ρ : En}
/-- m[::-1], a tuple -/
def apRT (v : OB) (ρ : En) : R OV := match v.get ρ with
  | some (.tup xs) => .ok (.d (.tup xs.reverse)) ρ
  | _ => .bad
def mRevT (m : EM) : EM := fun ρ => (m ρ).bind fun v ρ => apRT v.fz ρ
theorem apRT_ok {v : OB} {x : V} {Q : VK} (S : Sat K mg G F H σ ρ) (r : RpB K mg F σ x v) (g : Gd K mg W (RpO K mg) G F σ (apRT v ρ) Q) : ∃ a xs, x = .ref a ∧ SqT K H a xs ∧ newT xs.reverse H Q := by
  unfold apRT at g
  cases q : v.get ρ with
  | none => rw [q] at g; exact g.elim
  | some d =>
    rw [q] at g
    have rI := S.get r q
    cases d with
    | tup ds =>
      obtain ⟨a, vs, rfl, sa, ra⟩ := rI.tup S.fh
      refine ⟨a, vs, rfl, (sa.mono S.fh).seq, fun p o hp hd => ?_⟩
      have ex := Ext.new (u := HO.frz o (.tup vs.reverse)) S.fh hp
      exact g _ _ _ (S.ext ex) ex.ff (.d (.tup ⟨o, upd_same, hd⟩ (ra.rev.mono ex.ff)))
    | _ => exact g.elim
theorem me_revT {X : Cx} {W : WX} {e : Expr} {m : EM} {k : Nat} {p1 p2 p3 pos : Pos} (he : ME X W e m) : ME X W (.Subscript e (.Slice none none (some (.UnaryOp .USub (.Constant (.int 1) k p1) p2)) p3) pos) (mRevT m) :=
  ME.weak (pe_revT he) fun S g => sub S (Gd.opd (f := fun v ρ => apRT v ρ) g fun v ρ1 F1 H1 x S1 e1 r1 k1 => apRT_ok S1 r1 k1)
end
end Mi
set_option Elab.async false
set_option linter.all false
set_option maxRecDepth 100000
set_option maxHeartbeats 4000000
/-! Mi, part Mu: t * n, l * n. -/
namespace L2
open PySem PySem.Spec PyProof.Rows
theorem tuple_mulE (l : Addr) (n : Nat) (dd : Option Addr) (sl : Array (Option Value)) (x : Int) (u : Tok) (c0 : (decide (x < -(2 ^ 63)) || decide (x ≥ 2 ^ 63)) = false) :
    Meets (Builtin.«tuple.__mul__» ⟨[.ref l, .int x u], []⟩) (fun _ R s => s.heap.get? l = some { cls := .type "tuple", dict := dd, data := .seq #[] n, slots := sl } ∧
      R (.ok (.ret (Value.ref l))) s) :=
  .of_wp fun prog w A R s h => by
    obtain ⟨hp, g, d, tk, os⟩ := s
    obtain ⟨hl, h⟩ := h
    have f1 := AutoSeq1.idx_int
    wp_walk using wpAny_loadPart' hl
    repeat (first
      | (refine wpAny_ite_false (decide_eq_false (by rw [c0]; exact Bool.false_ne_true)) ?_; wp_walk using wpAny_loadPart' hl))
    exact ⟨_, rfl, h⟩
end L2
namespace Mi
open PySem PySem.Spec PyProof.Rows L2
/-- t * n -/
def rRepF (K : PySem.W.Frag) : R2 := fun x y H Q => ∃ l k xs, x = .ref l ∧ y = .int k ∧ SqT K H l xs ∧ 2 ≤ k ∧ k ≤ 1000 ∧ xs.length ≤ 1000 ∧ (xs = [] → Q (.ref l) H) ∧ (xs ≠ [] → newT (List.replicate k.toNat xs).flatten H Q)
theorem vals_rep {xs : List V} {its : List Value} (r : Vals xs its) : ∀ n : Nat, Vals (List.replicate n xs).flatten (List.replicate n its).flatten
  | 0 => .nil
  | n + 1 => by
    rw [List.replicate_succ, List.replicate_succ, List.flatten_cons, List.flatten_cons]
    exact r.append (vals_rep r n)
theorem op_repTF {X : Cx} : OpR X (binaryOp .Mult) (rRepF X.K) := by
  intro pins s σ H x y v u Q I rx ry h
  obtain ⟨l, k, xs, rfl, rfl, hT, h1, h2, hz, q0, q⟩ := h
  cases rx
  obtain ⟨t, rfl⟩ := ry
  obtain ⟨its, r, ⟨⟨cls, dd, data, sl⟩, ho, hc, n, hd⟩, hs⟩ := I.tuple hT
  simp only at hc hd
  subst hc hd
  have hle : its.length = xs.length := r.length.symm
  have c0 : (decide (k < -(2 ^ 63)) || decide (k ≥ 2 ^ 63)) = false := by
    rw [decide_eq_false (by omega), decide_eq_false (by omega)] <;> rfl
  by_cases hne : xs = []
  · have hi0 : its = [] := by
      rw [hne] at hle
      exact List.eq_nil_of_length_eq_zero hle
    subst hi0
    refine wpAny_binaryOp_repeat_ref (T := "tuple") (U := "int") (by decide) ⟨_, ho, rfl⟩ (fun s' => typeIs_int s' k t) noFill_tuple_mul F.fills_int_mul F.slot_int_rmul repeat_tuple F.slot_int_index.lookup
      (call_meets F.slot_int_rmul (typeIs_int s k t) F.entry_int_rmul (F.args_int_rmul_2 _ _) (int_rmul_tuple k t l ([] : List Value).toArray n dd sl)
        ⟨ho, rfl, ⟨_, ho, rfl⟩, call_meets F.slot_tuple_mul ⟨_, ho, rfl⟩ F.entry_tuple_mul (F.args_tuple_mul_2 _ _) (tuple_mulE l n dd sl k t c0) ⟨ho, ?_⟩⟩)
    exact ⟨.ref l, H, I, rfl, q0 hne⟩
  have hn : its ≠ [] := fun e => hne (by
    rw [e] at hle
    exact List.eq_nil_of_length_eq_zero hle.symm)
  have hi : its.toArray.isEmpty = false := by
    cases its with
    | nil => exact absurd rfl hn
    | cons a b => rfl
  have hsz0 : its.toArray.size = xs.length := by rw [List.size_toArray, hle]
  have hm : ((its.toArray.size : Nat) : Int) * k ≤ 1000000 := by
    rw [hsz0]
    have a1 : ((xs.length : Nat) : Int) * k ≤ 1000 * k := Int.mul_le_mul_of_nonneg_right (by omega) (by omega)
    omega
  have flen : (List.replicate k.toNat its).flatten.length ≤ sizeLine := by
    rw [PyProof.Rows.lm_len_rep_flat, hle, sizeLine_eq]
    have a1 : k.toNat * xs.length ≤ 1000 * 1000 := Nat.mul_le_mul (by omega) hz
    omega
  have c1 : (its.toArray.isEmpty || k == 1) = false := by
    rw [hi, Bool.false_or]
    exact beq_eq_false_iff_ne.mpr (by omega)
  have c2 : (decide (k ≤ 0) || its.toArray.isEmpty) = false := by
    rw [hi, Bool.or_false]
    exact decide_eq_false (by omega)
  have c4 : Builtin.Tuple.tupleTooMany (((its.toArray.size : Nat) : Int) * k) = false := by
    unfold Builtin.Tuple.tupleTooMany
    rw [sizeLine_eq]
    exact decide_eq_false (by omega)
  refine wpAny_binaryOp_repeat_ref (T := "tuple") (U := "int") (by decide) ⟨_, ho, rfl⟩ (fun s' => typeIs_int s' k t) noFill_tuple_mul F.fills_int_mul F.slot_int_rmul repeat_tuple F.slot_int_index.lookup
    (call_meets F.slot_int_rmul (typeIs_int s k t) F.entry_int_rmul (F.args_int_rmul_2 _ _) (int_rmul_tuple k t l its.toArray n dd sl)
      ⟨ho, rfl, ⟨_, ho, rfl⟩, call_meets F.slot_tuple_mul ⟨_, ho, rfl⟩ F.entry_tuple_mul (F.args_tuple_mul_2 _ _) (tuple_mulW l its.toArray n dd sl k t c0 c1 c2 (by omega) c4 (by rw [size_rep, List.size_toArray]; exact flen)) ⟨ho, ?_⟩⟩)
  rw [size_rep]
  have r2 := vals_rep r k.toNat
  exact laidT (t' := s.toks) I (fun _ _ e => e) r2 (by rw [r2.length]; exact flen) (q hne)
section
variable {K : PySem.W.Frag} {mg : Str → Option Value}
theorem RpA.rep {F : Hp} {vs : List V} {ds : List D} (r : RpA K mg F vs ds) : ∀ n : Nat, RpA K mg F (List.replicate n vs).flatten (List.replicate n ds).flatten
  | 0 => .nil
  | n + 1 => by
    rw [List.replicate_succ, List.replicate_succ, List.flatten_cons, List.flatten_cons]
    exact r.app (RpA.rep r n)
/-- t * n, l * n -/
def dMulT (x y : D) : Option D := match x with
  | .tup xs => (match y with
    | .int n => if 2 ≤ n ∧ n ≤ 1000 ∧ xs.length ≤ 1000 then some (.tup (List.replicate n.toNat xs).flatten) else none
    | _ => none)
  | _ => none
def dMulL (x y : D) : Option D := match x with
  | .lst xs => (match y with
    | .int n => if 0 ≤ n ∧ n ≤ 1000 ∧ xs.length ≤ 1000 then some (.lst (List.replicate n.toNat xs).flatten) else none
    | _ => none)
  | _ => none
theorem o_mulT : Op2 K mg (rRepF K) dMulT := fun {F H x y d e z Q} hs rx ry h q => by
  cases d <;> cases e <;> try (cases h; done)
  rename_i ds n
  obtain ⟨⟨c1, c2, c3⟩, rfl⟩ := if_some h
  obtain ⟨a, vs, rfl, sa, ra⟩ := rx.tup hs
  rw [ry.int]
  refine ⟨a, _, vs, rfl, rfl, (sa.mono hs).seq, c1, c2, by rw [ra.len]; exact c3, fun e => ?_, fun _ p o hp hd => ?_⟩
  · subst e
    cases ra
    have : (List.replicate n.toNat ([] : List D)).flatten = [] := by simp
    rw [this] at q
    exact q F H _ (.refl hs) (.tup sa .nil)
  · have ex := Ext.new (u := HO.frz o (.tup (List.replicate n.toNat vs).flatten)) hs hp
    exact q _ _ _ ex (.tup ⟨o, upd_same, hd⟩ ((ra.rep _).mono ex.ff))
theorem o_mulL : Op2 K mg rRep dMulL := fun {F H x y d e z Q} hs rx ry h q => by
  cases d <;> cases e <;> try (cases h; done)
  rename_i ds n
  obtain ⟨⟨c1, c2, c3⟩, rfl⟩ := if_some h
  obtain ⟨a, vs, rfl, sa, ra⟩ := rx.lst hs
  rw [ry.int]
  refine ⟨a, _, vs, rfl, rfl, sa, by omega, by omega, ?_, fun p hp => ?_⟩
  · rw [ra.len, sizeLine_eq]
    have a1 : ds.length * n.toNat ≤ 1000 * 1000 := Nat.mul_le_mul c3 (by omega)
    omega
  · have ex := Ext.new (u := HO.lst (List.replicate n.toNat vs).flatten) hs hp
    exact q _ _ _ ex (.lst upd_same ((ra.rep _).mono ex.ff))
end
end Mi
set_option Elab.async false
set_option linter.all false
set_option maxRecDepth 100000
set_option maxHeartbeats 2000000
/-! Mi, part Sr: (*x, ..) in a display. -/
namespace Mi
open PySem PySem.Spec PyProof.Rows L2
def apStar (ms : AM) (v : OB) (ρ : En) : R (List OB) := match v.get ρ with
  | some d => (match seqD d with
    | some xs => (ms ρ).bind fun vs ρ => .ok (xs.map OB.d ++ vs) ρ
    | none => .bad)
  | none => .bad
def mStar (m : EM) (ms : AM) : AM := fun ρ => (m ρ).bind fun v ρ => apStar ms v.fz ρ
section
variable {K : PySem.W.Frag} {mg : Str → Option Value} {W : WX} {F H : Hp} {G : Gh} {σ : St} {ρ : En}
theorem RpBs.app {ys : List V} {zs : List OB} (r2 : RpBs K mg F σ ys zs) : ∀ {xs : List V} {ds : List D}, RpA K mg F xs ds → RpBs K mg F σ (xs ++ ys) (ds.map OB.d ++ zs)
  | _, _, .nil => r2
  | _, _, .cons r t => .cons (.d r) (RpBs.app r2 t)
theorem ma_star {X : Cx} {W : WX} {e : Expr} {es : List Expr} {m : EM} {ms : AM} {p : Pos} (he : ME X W e m) (hr : MA X W es ms) (hs : starEach (.Starred e p :: es) X.env = (true, eval e X.env) :: starEach es X.env := by rfl) : MA X W (.Starred e p :: es) (mStar m ms) :=
  MA.weak (StX.pa_star he hr hs) fun S k => sub S (Gd.opd (f := fun v ρ => apStar ms v ρ) k fun v ρ1 F1 H1 x S1 e1 r1 k1 => by
    unfold apStar at k1
    cases q : v.get ρ1 with
    | none => rw [q] at k1; exact k1.elim
    | some d =>
      rw [q] at k1
      dsimp only at k1
      cases hd : seqD d with
      | none => rw [hd] at k1; exact k1.elim
      | some ds =>
        rw [hd] at k1
        obtain ⟨a, vs, rfl, ra, hq⟩ := (S1.get r1 q).seq S1.fh hd
        refine ⟨a, vs, rfl, ?_, subA S1 (Gd.bind k1 fun us ρ2 F2 H2 ys _ S2 e2 r2 k2 => k2 F2 H2 (vs ++ ys) S2 (Same.refl _) (RpBs.app r2 (ra.mono e2)))⟩
        rcases hq with ⟨hq, _⟩ | ⟨hq, _⟩
        · exact .inr hq
        · exact .inl (hq.mono S1.fh).seq)
end
end Mi
set_option Elab.async false
set_option linter.all false
set_option maxRecDepth 100000
set_option maxHeartbeats 2000000
/-! Mi, part Gr: repr, where it is known that no repr runs below. -/
namespace Mi
open PySem PySem.Spec PyProof.Rows L2
def rRepr (K : PySem.W.Frag) : List V → Hp → VK → Prop := fun xs H Q => ∃ v d, xs = [v] ∧ Dp K H v d ∧ d.showable = true ∧ d.canLay0 = true ∧ d.depth ≤ 40 ∧ d.shown.length ≤ sizeLine ∧ Q (.str d.shown) H
theorem call_reprG {X : Cx} (hg : X.A.guards = some []) (hu : X.A.units + 64 < cLine) : CallR X (.builtin "repr") (rRepr X.K) := by
  intro pins s σ H xs us Q I r h
  obtain ⟨v, d, rfl, hd, hs, hl, hdp, hz, q⟩ := h
  obtain ⟨u, rfl, rx⟩ := vals1 r
  obtain ⟨as, hr⟩ := Dp.reads I d v u hd rx
  cases hd with
  | non =>
    cases rx
    exact P.repr_of_none ⟨.str "None", H, I.tok _, ⟨_, rfl⟩, q⟩
  | bl b =>
    cases rx
    exact P.repr_of_bool ⟨.str (if b then "True" else "False"), H, I.tok _, ⟨_, rfl⟩, q⟩
  | int i =>
    obtain ⟨t, rfl⟩ := rx
    exact P.repr_of_int (by simpa [PyData.showable] using hs) ⟨.str (toString i), H, I.tok _, ⟨_, rfl⟩, q⟩
  | str x =>
    obtain ⟨t, rfl⟩ := rx
    exact P.repr_of_str ⟨.str (reprText x), H, I.tok _, ⟨_, rfl⟩, q⟩ hz
  | lst hq ha =>
    cases rx
    refine repr_of_reads' hr hs (PyData.noDict_hsm (PyData.hasDict_of_canLay _ hl)) hg (by omega) (fun _ _ e => e) (fun h' u tk hk => ?_) hz
    exact ⟨.str _, H, I.kept (t' := tk) hk, ⟨_, rfl⟩, q⟩
  | tup hq ha =>
    cases rx
    refine repr_of_reads' hr hs (PyData.noDict_hsm (PyData.hasDict_of_canLay _ hl)) hg (by omega) (fun _ _ e => e) (fun h' u tk hk => ?_) hz
    exact ⟨.str _, H, I.kept (t' := tk) hk, ⟨_, rfl⟩, q⟩
def dRepr (d : D) : Option D := if d.cmp 40 = true ∧ d.py.showable = true ∧ d.py.shown.length ≤ BIG then some (.str d.py.shown) else none
section
variable {K : PySem.W.Frag} {mg : Str → Option Value}
theorem o_repr : OpN K mg (rRepr K) (g1 dRepr) := fun {F H xs ds z Q} hs r0 h q => by
  obtain ⟨d, e0, h⟩ := g1_some h
  obtain ⟨x, rfl, r⟩ := r0.one e0
  obtain ⟨⟨c1, c2, c3⟩, rfl⟩ := if_some h
  obtain ⟨l1, l2⟩ := cmp_lay 40 d c1
  exact ⟨x, d.py, rfl, rp_dp 40 d x c1 (r.rp hs), c2, l1, l2, Nat.le_trans c3 BIG_le, q F H _ (.refl hs) (.str _)⟩
end
end Mi
set_option Elab.async false
set_option linter.all false
set_option maxRecDepth 100000
set_option maxHeartbeats 2000000
/-! Mi, part Z: a suite does the same whatever the caught error's addresses are. -/
namespace Mi
open PySem PySem.Spec PyProof.Rows L2 PySem.MiX
def seE (i : Nat) (a d : Addr) (c : Str) (fs : List (Str × D)) (ρ : En) : En := ρ.set i (.val (.exc a d c fs))
section
variable {i : Nat} {a d : Addr} {c : Str} {fs : List (Str × D)} {ρ : En} {k : Ck}
theorem canSet_lt (h : canSet ρ i = true) : i < ρ.length := (canSet_ok h).1
theorem se_ne {j : Nat} (h : j ≠ i) : (seE i a d c fs ρ)[j]? = ρ[j]? := List.getElem?_set_ne (Ne.symm h)
theorem se_at (h : canSet ρ i = true) : (seE i a d c fs ρ)[i]? = some (.val (.exc a d c fs)) := List.getElem?_set_self (canSet_lt h)
theorem se_set {j : Nat} (h : j ≠ i) {s : Sl} : (seE i a d c fs ρ).set j s = seE i a d c fs (ρ.set j s) := List.set_comm _ _ (Ne.symm h)
theorem can_set {j : Nat} (h : j ≠ i) {s : Sl} : canSet (ρ.set j s) i = canSet ρ i := by
  unfold canSet
  rw [List.getElem?_set_ne h]
variable (i a d c fs)
/-- two results that differ in the error's addresses alone -/
inductive RE {α : Type} (Ok : α → Prop) : R α → R α → Prop
  | bad : RE Ok .bad .bad
  | ok {v : α} {ρ : En} : Ok v → canSet ρ i = true → RE Ok (.ok v (seE i a d c fs ρ)) (.ok v (seE i 0 0 c fs ρ))
  | ex {x : Xc} {ρ : En} : RE Ok (.ex x (seE i a d c fs ρ)) (.ex x (seE i 0 0 c fs ρ))
def ParX {α : Type} (Ok : α → Prop) (m1 m2 : En → R α) : Prop := ∀ ρ, canSet ρ i = true → RE i a d c fs Ok (m1 (seE i a d c fs ρ)) (m2 (seE i 0 0 c fs ρ))
def okO (v : OV) : Prop := v ≠ .o i
def okB (v : OB) : Prop := v ≠ .o i
def okL (vs : List OB) : Prop := ∀ v ∈ vs, okB i v
variable {i a d c fs}
theorem ParX.bind {α β : Type} {Ok : α → Prop} {Ok' : β → Prop} {m1 m2 : En → R α} {f1 f2 : α → En → R β} (h : ParX i a d c fs Ok m1 m2) (k : ∀ v, Ok v → ParX i a d c fs Ok' (f1 v) (f2 v)) : ParX i a d c fs Ok' (fun ρ => (m1 ρ).bind f1) (fun ρ => (m2 ρ).bind f2) := fun ρ hc => by
  have z := h ρ hc
  show RE i a d c fs Ok' ((m1 (seE i a d c fs ρ)).bind f1) ((m2 (seE i 0 0 c fs ρ)).bind f2)
  generalize m1 (seE i a d c fs ρ) = r1 at z ⊢
  generalize m2 (seE i 0 0 c fs ρ) = r2 at z ⊢
  cases z with
  | bad => exact .bad
  | ok hv hc2 => exact k _ hv _ hc2
  | ex => exact .ex
theorem okO.fz {v : OV} (h : okO i v) : okB i v.fz := by
  cases v with
  | o j => exact fun e => h (by cases e; rfl)
  | d x => exact fun e => nomatch e
  | n w => exact fun e => nomatch e
theorem get_se {v : OB} (h : okB i v) : v.get (seE i a d c fs ρ) = v.get ρ := by
  cases v with
  | d x => rfl
  | o j =>
    have hj : j ≠ i := fun e => h (by rw [e])
    show (match (seE i a d c fs ρ)[j]? with
      | some (Sl.own _ w) => some w.d
      | some (Sl.val w) => some w
      | _ => none) = _
    rw [se_ne hj]
    rfl
theorem par_c {x : D} : ParX i a d c fs (okO i) (mC x) (mC x) := fun ρ hc => .ok (fun e => nomatch e) hc
theorem par_var {j : Nat} (hj : j ≠ i) : ParX i a d c fs (okO i) (mVar j) (mVar j) := fun ρ hc => by
  unfold mVar
  rw [se_ne hj, se_ne hj]
  cases ρ[j]? with
  | none => exact .bad
  | some s =>
    cases s with
    | un => exact .bad
    | val x => exact .ok (fun e => nomatch e) hc
    | own io w => exact .ok (fun e => hj (by cases e; rfl)) hc
theorem par_isE {tbl : List (Str × Bool)} : ParX i k.a k.d k.c fs (okO i) (mIsE tbl k (mVar i)) (mIsE tbl ⟨0, 0, k.c⟩ (mVar i)) := fun ρ hc => by
  unfold mIsE mVar
  rw [se_at hc, se_at hc]
  dsimp only [R.bind, OV.fz, OB.get]
  rw [if_pos ⟨rfl, rfl, rfl⟩, if_pos ⟨rfl, rfl, rfl⟩]
  cases tbl.lookup k.c with
  | none => exact .bad
  | some b => exact .ok (fun e => nomatch e) hc
theorem par_xf {tbl : List (Str × Str)} {f : Str} : ParX i k.a k.d k.c fs (okO i) (mXf tbl k f (mVar i)) (mXf tbl ⟨0, 0, k.c⟩ f (mVar i)) := fun ρ hc => by
  unfold mXf mVar
  rw [se_at hc, se_at hc]
  dsimp only [R.bind, OV.fz, OB.get]
  by_cases ht : tbl.contains (k.c, f) = true
  · rw [if_pos ⟨rfl, rfl, rfl, ht⟩, if_pos ⟨rfl, rfl, rfl, ht⟩]
    cases fldD fs f with
    | none => exact .bad
    | some y => exact .ok (fun e => nomatch e) hc
  · rw [if_neg (fun z => ht z.2.2.2), if_neg (fun z => ht z.2.2.2)]
    exact .bad
theorem rz_par {o : Option D} (hc : canSet ρ i = true) : RE i a d c fs (okO i) (rz o (seE i a d c fs ρ)) (rz o (seE i 0 0 c fs ρ)) := by
  cases o with
  | none => exact .bad
  | some z => exact .ok (fun e => nomatch e) hc
theorem par_op {g : D → D → Option D} {m1 m2 n1 n2 : EM} (h1 : ParX i a d c fs (okO i) m1 m2) (h2 : ParX i a d c fs (okO i) n1 n2) : ParX i a d c fs (okO i) (mB g m1 n1) (mB g m2 n2) :=
  ParX.bind h1 fun v hv => ParX.bind h2 fun u hu => fun ρ hc => by
    unfold ap2
    rw [get_se hv.fz, get_se hu.fz, get_se hv.fz, get_se hu.fz]
    cases v.fz.get ρ with
    | none => exact .bad
    | some x =>
      cases u.fz.get ρ with
      | none => exact .bad
      | some y => exact rz_par hc
theorem par_nil : ParX i a d c fs (okL i) mNil mNil := fun ρ hc => .ok (fun v hv => nomatch hv) hc
theorem par_cons {m1 m2 : EM} {s1 s2 : AM} (h1 : ParX i a d c fs (okO i) m1 m2) (h2 : ParX i a d c fs (okL i) s1 s2) : ParX i a d c fs (okL i) (mCons m1 s1) (mCons m2 s2) :=
  ParX.bind h1 fun v hv => ParX.bind h2 fun vs hvs => fun ρ hc => .ok (fun u hu => by
    rcases List.mem_cons.mp hu with rfl | hu
    · exact hv.fz
    · exact hvs u hu) hc
theorem getAll_se : ∀ {vs : List OB}, okL i vs → getAll vs (seE i a d c fs ρ) = getAll vs ρ
  | [], _ => rfl
  | v :: vs, h => by
    unfold getAll
    rw [get_se (h v (List.mem_cons_self ..)), getAll_se fun u hu => h u (List.mem_cons_of_mem _ hu)]
theorem par_cb {g : List D → Option D} {s1 s2 : AM} (h : ParX i a d c fs (okL i) s1 s2) : ParX i a d c fs (okO i) (mCB g s1) (mCB g s2) :=
  ParX.bind h fun vs hvs => fun ρ hc => by
    unfold apN
    rw [getAll_se hvs, getAll_se hvs]
    cases getAll vs ρ with
    | none => exact .bad
    | some ds => exact rz_par hc
theorem esc_se {v : OB} (h : okB i v) : (esc v ρ = none ∧ ∀ a d, esc v (seE i a d c fs ρ) = none) ∨ ∃ x ρ', esc v ρ = some (x, ρ') ∧ (canSet ρ' i = canSet ρ i) ∧ ∀ a d, esc v (seE i a d c fs ρ) = some (x, seE i a d c fs ρ') := by
  cases v with
  | d x => exact .inr ⟨x, ρ, rfl, rfl, fun _ _ => rfl⟩
  | o j =>
    have hj : j ≠ i := fun e => h (by rw [e])
    have e1 : ∀ ρ, esc (.o j) ρ = (match ρ[j]? with
      | some (Sl.val x) => some (x, ρ)
      | some (Sl.own false w) => some (w.d, ρ.set j (.val w.d))
      | _ => none) := fun ρ => rfl
    cases q : ρ[j]? with
    | none => exact .inl ⟨by rw [e1, q], fun a d => by rw [e1, se_ne hj, q]⟩
    | some s =>
      cases s with
      | un => exact .inl ⟨by rw [e1, q], fun a d => by rw [e1, se_ne hj, q]⟩
      | val x => exact .inr ⟨x, ρ, by rw [e1, q], rfl, fun a d => by rw [e1, se_ne hj, q]⟩
      | own io w =>
        cases io with
        | true => exact .inl ⟨by rw [e1, q], fun a d => by rw [e1, se_ne hj, q]⟩
        | false => exact .inr ⟨w.d, ρ.set j (.val w.d), by rw [e1, q], can_set hj, fun a d => by
            rw [e1, se_ne hj, q]
            dsimp only
            rw [se_set hj]⟩
theorem escs_se : ∀ {vs : List OB} {ρ : En}, okL i vs → (escs vs ρ = none ∧ ∀ a d, escs vs (seE i a d c fs ρ) = none) ∨ ∃ xs ρ', escs vs ρ = some (xs, ρ') ∧ (canSet ρ' i = canSet ρ i) ∧ ∀ a d, escs vs (seE i a d c fs ρ) = some (xs, seE i a d c fs ρ')
  | [], ρ, _ => .inr ⟨[], ρ, rfl, rfl, fun _ _ => rfl⟩
  | v :: vs, ρ, h => by
    rcases esc_se (c := c) (fs := fs) (ρ := ρ) (h v (List.mem_cons_self ..)) with ⟨h1, h2⟩ | ⟨x, ρ1, h1, h2, h3⟩
    · exact .inl ⟨by unfold escs; rw [h1], fun a d => by unfold escs; rw [h2]⟩
    · rcases escs_se (vs := vs) (ρ := ρ1) fun u hu => h u (List.mem_cons_of_mem _ hu) with ⟨k1, k2⟩ | ⟨xs, ρ2, k1, k2, k3⟩
      · exact .inl ⟨by unfold escs; rw [h1]; dsimp only; rw [k1], fun a d => by unfold escs; rw [h3]; dsimp only; rw [k2]⟩
      · exact .inr ⟨x :: xs, ρ2, by unfold escs; rw [h1]; dsimp only; rw [k1], k2.trans h2, fun a d => by unfold escs; rw [h3]; dsimp only; rw [k3]⟩
theorem par_lst {s1 s2 : AM} (h : ParX i a d c fs (okL i) s1 s2) : ParX i a d c fs (okO i) (mLst s1) (mLst s2) :=
  ParX.bind h fun vs hvs => fun ρ hc => by
    rcases escs_se (c := c) (fs := fs) (ρ := ρ) hvs with ⟨h1, h2⟩ | ⟨xs, ρ1, h1, h2, h3⟩
    · rw [h2, h2]
      exact .bad
    · rw [h3, h3]
      dsimp only
      by_cases hz : xs.length ≤ BIG
      · rw [if_pos hz, if_pos hz]
        exact .ok (fun e => nomatch e) (h2.trans hc)
      · rw [if_neg hz, if_neg hz]
        exact .bad
theorem par_tup {s1 s2 : AM} (h : ParX i a d c fs (okL i) s1 s2) : ParX i a d c fs (okO i) (mTup s1) (mTup s2) :=
  ParX.bind h fun vs hvs => fun ρ hc => by
    rcases escs_se (c := c) (fs := fs) (ρ := ρ) hvs with ⟨h1, h2⟩ | ⟨xs, ρ1, h1, h2, h3⟩
    · rw [h2, h2]
      exact .bad
    · rw [h3, h3]
      dsimp only
      by_cases hz : xs.length ≤ BIG
      · rw [if_pos hz, if_pos hz]
        exact .ok (fun e => nomatch e) (h2.trans hc)
      · rw [if_neg hz, if_neg hz]
        exact .bad
/-! ### tests -/
abbrev okT (_ : Bool) : Prop := True
theorem par_tst {m1 m2 : EM} (h : ParX i a d c fs (okO i) m1 m2) : ParX i a d c fs okT (mTst m1) (mTst m2) :=
  ParX.bind h fun v _ => fun ρ hc => by
    unfold tb
    split
    · exact .ok trivial hc
    · exact .bad
theorem par_not {m1 m2 : TM} (h : ParX i a d c fs okT m1 m2) : ParX i a d c fs okT (mNot m1) (mNot m2) := ParX.bind h fun v _ => fun ρ hc => .ok trivial hc
theorem par_and {m1 m2 n1 n2 : TM} (h : ParX i a d c fs okT m1 m2) (k : ParX i a d c fs okT n1 n2) : ParX i a d c fs okT (mAnd m1 n1) (mAnd m2 n2) := ParX.bind h fun v _ => fun ρ hc => by
  cases v with
  | true => exact k ρ hc
  | false => exact .ok trivial hc
theorem par_or {m1 m2 n1 n2 : TM} (h : ParX i a d c fs okT m1 m2) (k : ParX i a d c fs okT n1 n2) : ParX i a d c fs okT (mOr m1 n1) (mOr m2 n2) := ParX.bind h fun v _ => fun ρ hc => by
  cases v with
  | true => exact .ok trivial hc
  | false => exact k ρ hc
/-! ### statements -/
variable (i a d c fs)
inductive RS : SR → SR → Prop
  | bad : RS .bad .bad
  | nx {ρ : En} : canSet ρ i = true → RS (.nx (seE i a d c fs ρ)) (.nx (seE i 0 0 c fs ρ))
  | bk {ρ : En} : canSet ρ i = true → RS (.bk (seE i a d c fs ρ)) (.bk (seE i 0 0 c fs ρ))
  | ct {ρ : En} : canSet ρ i = true → RS (.ct (seE i a d c fs ρ)) (.ct (seE i 0 0 c fs ρ))
  | rt {r : RV} {ρ : En} : canSet ρ i = true → RS (.rt r (seE i a d c fs ρ)) (.rt r (seE i 0 0 c fs ρ))
  | ex {x y : Xc} {ρ ρ' : En} : RS (.ex x ρ) (.ex y ρ')
def ParS (m1 m2 : SM) : Prop := ∀ ρ, canSet ρ i = true → RS i a d c fs (m1 (seE i a d c fs ρ)) (m2 (seE i 0 0 c fs ρ))
variable {i a d c fs}
theorem ParX.st {α : Type} {Ok : α → Prop} {m1 m2 : En → R α} {f1 f2 : α → En → SR} (h : ParX i a d c fs Ok m1 m2) (k : ∀ v, Ok v → ParS i a d c fs (f1 v) (f2 v)) : ParS i a d c fs (fun ρ => (m1 ρ).st f1) (fun ρ => (m2 ρ).st f2) := fun ρ hc => by
  have z := h ρ hc
  show RS i a d c fs ((m1 (seE i a d c fs ρ)).st f1) ((m2 (seE i 0 0 c fs ρ)).st f2)
  generalize m1 (seE i a d c fs ρ) = r1 at z ⊢
  generalize m2 (seE i 0 0 c fs ρ) = r2 at z ⊢
  cases z with
  | bad => exact .bad
  | ok hv hc2 => exact k _ hv _ hc2
  | ex => exact .ex
theorem par_next : ParS i a d c fs mNext mNext := fun ρ hc => .nx hc
theorem par_ifs {m1 m2 : TM} {s1 s2 t1 t2 : SM} (h : ParX i a d c fs okT m1 m2) (h1 : ParS i a d c fs s1 s2) (h2 : ParS i a d c fs t1 t2) : ParS i a d c fs (mIfS m1 s1 t1) (mIfS m2 s2 t2) := ParX.st h fun v _ => fun ρ hc => by
  cases v with
  | true => exact h1 ρ hc
  | false => exact h2 ρ hc
theorem par_drop {m1 m2 : EM} (h : ParX i a d c fs (okO i) m1 m2) : ParS i a d c fs (mDrop m1) (mDrop m2) := ParX.st h fun v _ => fun ρ hc => .nx hc
theorem par_ret {m1 m2 : EM} (h : ParX i a d c fs (okO i) m1 m2) : ParS i a d c fs (mRet m1) (mRet m2) := ParX.st h fun v hv => fun ρ hc => by
  cases v with
  | d x => exact .rt hc
  | n w => exact .rt hc
  | o j =>
    have hj : j ≠ i := fun e => hv (by rw [e])
    have e1 : ∀ ρ, retV (.o j) ρ = (match ρ[j]? with
      | some (.val x) => .rt (.v x) ρ
      | some (.own false w) => .rt (.w w) (ρ.set j .un)
      | _ => .bad) := fun ρ => rfl
    rw [e1, e1, se_ne hj, se_ne hj]
    cases ρ[j]? with
    | none => exact .bad
    | some s =>
      cases s with
      | un => exact .bad
      | val x => exact .rt hc
      | own io w =>
        cases io with
        | true => exact .bad
        | false =>
          dsimp only
          rw [se_set hj, se_set hj]
          exact .rt ((can_set hj).trans hc)
theorem par_seq {s1 s2 t1 t2 : SM} (h1 : ParS i a d c fs s1 s2) (h2 : ParS i a d c fs t1 t2) : ParS i a d c fs (mSeq s1 t1) (mSeq s2 t2) := fun ρ hc => by
  have z := h1 ρ hc
  unfold mSeq
  generalize s1 (seE i a d c fs ρ) = r1 at z ⊢
  generalize s2 (seE i 0 0 c fs ρ) = r2 at z ⊢
  cases z with
  | bad => exact .bad
  | nx h => exact h2 _ h
  | bk h => exact .bk h
  | ct h => exact .ct h
  | rt h => exact .rt h
  | ex => exact .ex
theorem gone_se {f : En → SR} (h : canSet ρ i = true) : goneS i (seE i a d c fs ρ) f = f (ρ.set i .un) := by
  unfold goneS
  have e : canSet (seE i a d c fs ρ) i = true := by
    unfold canSet
    rw [se_at h]
  rw [if_pos e]
  unfold seE
  rw [List.set_set]
/-- what ms_try asks of a suite -/
theorem suite_par {ms : Ck → SM} {x : Xc} (h : x.c = k.c) (p : ∀ fs, ParS i k.a k.d k.c fs (ms k) (ms ⟨0, 0, k.c⟩)) : mSuite i ms k x ρ = mSuite i ms ⟨0, 0, x.c⟩ x ρ := by
  obtain ⟨c, fs⟩ := x
  dsimp only at h
  subst h
  unfold mSuite
  by_cases hc : canSet ρ i = true
  · rw [if_pos hc, if_pos hc]
    have z := p fs ρ hc
    show unslot i (ms k (seE i k.a k.d k.c fs ρ)) = unslot i (ms ⟨0, 0, k.c⟩ (seE i 0 0 k.c fs ρ))
    generalize ms k (seE i k.a k.d k.c fs ρ) = r1 at z ⊢
    generalize ms ⟨0, 0, k.c⟩ (seE i 0 0 k.c fs ρ) = r2 at z ⊢
    cases z with
    | bad => rfl
    | nx h => show goneS _ _ _ = goneS _ _ _; rw [gone_se h, gone_se h]
    | bk h => show goneS _ _ _ = goneS _ _ _; rw [gone_se h, gone_se h]
    | ct h => show goneS _ _ _ = goneS _ _ _; rw [gone_se h, gone_se h]
    | rt h => show goneS _ _ _ = goneS _ _ _; rw [gone_se h, gone_se h]
    | ex => rfl
  · rw [if_neg hc, if_neg hc]
end
end Mi
set_option Elab.async false
set_option linter.all false
set_option maxRecDepth 100000
set_option maxHeartbeats 2000000
/-! Mi, part Su: an own class's __init__ that starts with super().__init__(..). -/
namespace Mi
open PySem PySem.Spec PyProof.Rows L2 PySem.MiX
/-- names of a def in whose scope __class__ is free -/
structure SuScope (N P : List Str) (sc : Scope) : Prop where
  kind : sc.kind = .function
  co : sc.isCoroutine = false
  gen : sc.isGenerator = false
  nd : N.Nodup
  pre : N.take P.length = P
  par : ∀ x ∈ P, sc.names.lookup x = some .local
  nocell : ∀ y ∈ sc.names, y.2 ≠ .cell
  free : ∀ y ∈ sc.names, y.2 = NameKind.free → y.1 = ("__class__" : Str)
  cls : sc.names.lookup ("__class__" : Str) = some .free
  sup : sc.names.lookup ("super" : Str) = some .globalImplicit
/-- its context: as cxOf, with the cell -/
abbrev cxSu (CX : CXT) (P : Program) (w : World) (K : PySem.W.Frag) (mg : Str → Option Value) (base : Heap) (N : List Str) (qual : Str) (scope : Scope) (f : Addr) (cd : Value) (cc : Addr) (A : Around) (outer : List Env) (s : Shared) (H : Hp) (E : XK) : Cx where
  prog := P
  w := w
  K := K
  mg := mg
  base := base
  A := A.deeper (PySem.W.ksEnv qual scope s.heap.objs.size f cd cc)
  N := N
  s_0 := s
  H_0 := H
  env := PySem.W.ksEnv qual scope s.heap.objs.size f cd cc
  outer := outer
  stack := PySem.W.ksEnv qual scope s.heap.objs.size f cd cc :: outer
  ex := []
  calm := true
  fn := fun _ => false
  pn := []
  xe := fun e s' => wpAny (model P w) (A.deeper (PySem.W.ksEnv qual scope s.heap.objs.size f cd cc)) (leaving (PySem.W.ksEnv qual scope s.heap.objs.size f cd cc) e) (fun _ s'' => CX outer H s E e s'') (fun e' s'' => CX outer H s E e' s'') s'
theorem lookup_notin {x : Str} : ∀ {P : List Str} {us : List Value}, x ∉ P → (P.zip us).lookup x = none
  | [], _, _ => rfl
  | _ :: _, [], _ => rfl
  | p :: P, u :: us, h => by
    show List.lookup x ((p, u) :: P.zip us) = none
    rw [List.lookup_cons, show (x == p) = false by rw [beq_eq_false_iff_ne]; intro e; exact h (by rw [e]; exact List.mem_cons_self)]
    exact lookup_notin fun z => h (List.mem_cons_of_mem _ z)
theorem lookup_append' {x : Str} : ∀ {a b : List (Str × Value)}, (a ++ b).lookup x = (a.lookup x).or (b.lookup x)
  | [], b => by simp
  | (p, u) :: a, b => by
    rw [List.cons_append, List.lookup_cons, List.lookup_cons]
    by_cases h : x == p
    · rw [h]; rfl
    · rw [Bool.eq_false_iff.mpr h]; exact lookup_append'
theorem lookup_rev {x : Str} : ∀ {l : List (Str × Value)}, l.lookup x = none → l.reverse.lookup x = none
  | [], _ => rfl
  | (p, u) :: l, h => by
    rw [List.lookup_cons] at h
    rw [List.reverse_cons, lookup_append']
    by_cases e : x == p
    · rw [e] at h; cases h
    · rw [Bool.eq_false_iff.mpr e] at h
      rw [lookup_rev h, List.lookup_cons, Bool.eq_false_iff.mpr e]
      rfl
theorem lookup_args {x : Str} {v : Value} : ∀ {P : List Str} {us : List Value} {i : Nat}, P.Nodup → P[i]? = some x → us[i]? = some v → (P.zip us).reverse.lookup x = some v
  | [], _, _, _, h, _ => by simp at h
  | _ :: _, [], _, _, _, h => by simp at h
  | p :: P, u :: us, 0, nd, h1, h2 => by
    simp at h1 h2; subst h1; subst h2
    show List.lookup p ((p, u) :: P.zip us).reverse = _
    rw [List.reverse_cons, lookup_append', lookup_rev (lookup_notin (List.nodup_cons.mp nd).1), List.lookup_cons, beq_self_eq_true]
    rfl
  | p :: P, u :: us, i + 1, nd, h1, h2 => by
    show List.lookup x ((p, u) :: P.zip us).reverse = _
    rw [List.reverse_cons, lookup_append', lookup_args (i := i) (List.nodup_cons.mp nd).2 (by simpa using h1) (by simpa using h2)]
    rfl
section
variable {CX : CXT} {P : Program} {w : World} {K : PySem.W.Frag} {mg : Str → Option Value} {base : Heap} {N ps : List Str} {qual : Str} {scope : Scope} {f cc D : Addr} {cd : Value} {A : Around} {outer : List Env} {s : Shared} {H : Hp} {E : XK} {us : List Value} {vs : List V} {c2 : Value} {d2 : Option Addr} {s2 : Array (Option Value)} {u0 : Option Value} {h1 : Heap} {tk : Nat}
theorem inv_su (S : SuScope N ps scope) (hd : A.handled = none) (e0 : Env0 P w K mg base A outer s H) (hl : vs.length = ps.length) (r : Vals vs us) (hcc : K.lookup cc = some ⟨c2, d2, .cell u0, s2⟩)
    (hns : h1.Ns s.heap.objs.size (fun x => (ps.zip us).reverse.lookup x)) (hk : ∀ b o, s.heap.get? b = some o → h1.get? b = some o) :
    Inv (cxSu CX P w K mg base N qual scope f cd cc A outer s H E) [] (L2.start N vs) H { s with heap := h1, toks := tk } := by
  have hpl : ps.length ≤ N.length := by have := congrArg List.length S.pre; rw [List.length_take] at this; omega
  have hcb := e0.mod.kin _ _ hcc
  obtain ⟨hcs, hcH⟩ := e0.bs _ _ hcb
  have cl : ∀ {y : Str} {c : Addr}, List.lookup y [(("__class__" : Str), cc)] = some c → y = "__class__" ∧ c = cc := fun {y c} h => by
    rw [List.lookup_cons] at h
    by_cases e : y == ("__class__" : Str)
    · rw [e] at h
      cases h
      exact ⟨eq_of_beq e, rfl⟩
    · rw [Bool.eq_false_iff.mpr e] at h
      cases h
  have noA : ∀ b : Addr, b ∉ (cxSu CX P w K mg base N qual scope f cd cc A outer s H E).ex := fun b z => absurd (show b ∈ ([] : List Addr) from z) (by simp)
  refine ⟨⟨e0.mod, S.kind, rfl, rfl, Nat.le_refl _, fun y z c h1 h2 => (cl h1).1.trans (cl h2).1.symm, fun y hy => ?_, fun y c h => (by cases h), fun _ => hd, Around.frames_deeper e0.frames, .inr ⟨rfl, rfl⟩, fun b z => absurd z (noA b), e0.bs, e0.bsz, fun b _ _ => noA b, fun b z => absurd z (noA b), e0.funs, e0.frf⟩,
    rfl, e0.bare, Un.kept hk, ⟨_, hns, fun i y v h1 h2 h3 => ?_⟩, fun y c h => ?_, e0.hok.fresh (Nat.le_refl _), fun y c h => ?_, fun p hp => absurd (show p ∈ ([] : List (Addr × Obj)) from hp) (by simp), e0.hok.kept hk, ?_⟩
  · have hy : scope.names.lookup y = some .cell ∨ scope.names.lookup y = some .free := hy
    rcases hy with hy | hy
    · exact absurd rfl (S.nocell _ (PySem.mem_of_lookup hy))
    · have : y = "__class__" := S.free _ (PySem.mem_of_lookup hy) rfl
      subst this
      exact ⟨cc, by show List.lookup _ [(("__class__" : Str), cc)] = _; rw [List.lookup_cons, beq_self_eq_true]⟩
  · have hi : i < vs.length := by
      unfold L2.start at h2
      by_cases hi : i < vs.length
      · exact hi
      · rw [List.getElem?_append_right (by simpa using hi)] at h2
        rw [List.getElem?_replicate] at h2
        split at h2 <;> cases h2
    have ha : vs[i]? = some v := by
      unfold L2.start at h2
      rw [List.getElem?_append_left (by simpa using hi), List.getElem?_map] at h2
      cases e : vs[i]? with
      | none => rw [e] at h2; cases h2
      | some a => rw [e] at h2; cases h2; rfl
    obtain ⟨u, hu, rv⟩ := r.get ha
    have hp : ps[i]? = some y := by
      rw [← S.pre, List.getElem?_take_of_lt (by omega)]; exact h1
    have ndP : ps.Nodup := by rw [← S.pre]; exact S.nd.sublist (List.take_sublist _ _)
    exact ⟨u, rv, .inl ⟨S.par y (List.mem_of_getElem? hp), lookup_args ndP hp hu⟩⟩
  · obtain ⟨_, rfl⟩ := cl h
    exact ⟨u0, _, hk _ _ hcs, rfl⟩
  · obtain ⟨_, rfl⟩ := cl h
    exact hcH
  · unfold L2.start
    show _ = N.length
    rw [List.length_append, List.length_map, List.length_replicate]
    omega
end
/-- a suite at its place in the def's body B -/
def PSsAt (X : Cx) (B st : List Stmt) (t : TS) : Prop := ∀ (pins : List (Addr × Obj)) (s : Shared) (σ : St) (H : Hp) (D : Ends), Inv X pins σ H s → t D σ H → _root_.PySem.wpAt (model X.prog X.w) X.A (.func B X.env) (execs st X.env) (SP X pins D) X.xe s
section
variable {CX : CXT} {P : Program} {w : World} {K : PySem.W.Frag} {mg : Str → Option Value} {base : Heap} {k : Nat} {f cc cda : Addr} {name qual : Str} {params : Arguments} {body : List Stmt} {scope : Scope} {dV kV doc pm ct oc : Value} {an od : Option Addr}
    {osl : Array (Option Value)} {N ps : List Str} {sp : Sp} {c2 : Value} {d2 : Option Addr} {s2 : Array (Option Value)} {u0 : Option Value}
theorem fn_su (lk : K.lookup f = some ⟨oc, od, .func (PySem.W.ksFn name qual params body scope dV kV doc pm an (.ref cda) ct cc), osl⟩) (hcd : PySem.W.codeIn K (.ref cda) qual = true) (hcc : K.lookup cc = some ⟨c2, d2, .cell u0, s2⟩) (S : SuScope N ps scope)
    (len : ∀ vs H Q E, sp vs H Q E → vs.length = ps.length)
    (hbody : ∀ (A : Around) (outer : List Env) (s : Shared) (H : Hp) (vs : List V) (Q : VK) (E : XK), Room k (A.deeper (PySem.W.ksEnv qual scope s.heap.objs.size f (.ref cda) cc)) → sp vs H Q E →
      ∃ t, PSsAt (cxSu CX P w K mg base N qual scope f (.ref cda) cc A outer s H E) body body t ∧ t { nx := fun _ H' => Q .non H', rt := Q } (L2.start N vs) H) :
    FnOk P w K mg base CX (k + 1) f (PySem.W.ksFn name qual params body scope dV kV doc pm an (.ref cda) ct cc) ps sp := by
  refine ⟨len, fun A outer s H args us vs Q E hr e0 hb r hsp => ?_⟩
  have hl := len _ _ _ _ hsp
  have KX : K.In s.heap := e0.mod.kin.keeps fun b o e => (e0.bs b o e).1
  have lim : s.heap.NoLimit := e0.mod.nolimit.keeps fun b o e => (e0.bs b o e).1
  refine ks_codeAny_call_defAt (fd := PySem.W.ksFn name qual params body scope dV kV doc pm an (.ref cda) ct cc) (body := body) (binds := ps.zip us) hr.depth (KX _ _ lk) rfl lim (PySem.W.codeRec_of KX hcd) rfl hb S.nocell (fun y hy => S.par _ (List.of_mem_zip hy).1) (fun h₁ hns k₁ => ?_) S.co S.gen S.kind
  obtain ⟨t, ht, hq⟩ := hbody A outer s H vs Q E (hr.deeper _) hsp
  have I : Inv (cxSu CX P w K mg base N qual scope f (.ref cda) cc A outer s H E) [] (L2.start N vs) H { s with heap := h₁, toks := s.toks + (ps.zip us).length } := inv_su S hr.hd e0 hl r hcc hns k₁
  refine ks_wpAt_mono (ht [] _ (L2.start N vs) H _ I hq) (fun fl s' hs => ?_) fun e s' hs => hs
  have fin : ∀ {σ' : St} {H' : Hp} {v : V} {u : Value}, Inv (cxSu CX P w K mg base N qual scope f (.ref cda) cc A outer s H E) [] σ' H' s' → RelV v u → Q v H' → CE outer P w H s Q u s' :=
    fun {σ' H' v u} J rv q => ⟨v, H', J.os, J.bare, J.base, J.hok, rv, q⟩
  cases fl with
  | ret u =>
    obtain ⟨v, σ', H', J, rv, q⟩ := hs
    exact fin J rv q
  | next =>
    obtain ⟨σ', H', J, q⟩ := hs
    exact fin (v := V.non) (u := Value.none) J rfl q
  | brk =>
    obtain ⟨_, _, _, q⟩ := hs
    exact False.elim q
  | cont =>
    obtain ⟨_, _, _, q⟩ := hs
    exact False.elim q
end
/-- what the written part says for super() in the def at fI: its code's file, its cell, the class D there -/
structure SuT (P : Program) (K : PySem.W.Frag) (fI cda cc D : Addr) (sf : Str) : Prop where
  fn : ∃ oc od fd osl ar, K.lookup fI = some ⟨oc, od, .func fd, osl⟩ ∧ (fd.params.posonlyargs ++ fd.params.args).head? = some ar ∧ ar.arg = sf
  code : ∃ c1 d1 vs s1 file tf, K.lookup cda = some ⟨c1, d1, .fields vs, s1⟩ ∧ vs[2]? = some (.str file tf) ∧ ((P.main.file : Str) == file) = true
  cell : ∃ c2 d2 s2, K.lookup cc = some ⟨c2, d2, .cell (some (.ref D)), s2⟩
  cls : ∃ cdD, PySem.W.clsIn K D = some cdD
  opq : PySem.W.nsIn K cStatics "thirdparty.any" = some none
  top : (P.main.scope.names.lookup ("super" : Str)).isSome = false
/-- the method mn that super() finds for an instance of the class at C, behind D -/
structure SuM (K : PySem.W.Frag) (C D f2 : Addr) (mn : Str) : Prop where
  sub : PySem.W.mroIn K C (.ref D) = some true
  at_ : PySem.W.ks_superIn K C D mn = some (some (.ref f2))
  ty : PySem.W.typeIn K (.ref f2) = some (.type "function")
  fn : PySem.W.fnIn K f2 = true
section
variable {X : Cx} {B : List Stmt} {C D f2 fI cc cda : Addr} {fd2 : FuncData} {ps : List Str} {sp : Sp} {E : St → XK} {k : Nat} {x mn : Str} {p0 p1 p2 pos : Pos} {e : Expr} {es : List Expr} {t : TA} {pl : Sem Bool}
theorem at_super (T : SuT X.prog X.K fI cda cc D x) (M : SuM X.K C D f2 mn) (hks : X.env.kindOf ("super" : Str) = some .globalImplicit) (hkc : X.env.kindOf ("__class__" : Str) = some .free) (hfu : X.env.func = some fI) (hco : X.env.code = .ref cda) (hlc : X.env.cells.lookup ("__class__" : Str) = some cc)
    (hN : X.N[0]? = some x) (hkx : X.env.kindOf x = some .local) (hnoS : X.mg "super" = none) (FO : FnOk X.prog X.w X.K X.mg X.base (L2.CX X.prog X.w) k f2 fd2 ps sp) (hr : Room k X.A) (hb : Binds X.K fd2 ps []) (hx : ∀ σ, PassesAt (L2.CX X.prog X.w) X σ (E σ))
    (ha : PA X (e :: es) t) (hat : (mn == ("__class__" : Str)) = false)
    (he : eval (.Call (.Attribute (.Call (.Name "super" p0) [] [] p1) mn p2) (e :: es) [] pos) X.env = (do
      let ov ← attributeBase (.Call (.Name "super" p0) [] [] p1) mn X.env (eval (.Call (.Name "super" p0) [] [] p1) X.env)
      standAt p2.atName
      let (f, first) ← holding [ov] (getMethod ov mn pl)
      callWith pos f first (backTo pos (starEach (e :: es) X.env)) []) := by rfl)
    (hst : starEach (e :: es) X.env = (false, eval e X.env) :: starEach es X.env := by rfl) (hpl : (backTo pos (starEach es X.env)).any (·.1) = false := by rfl)
    (pins : List (Addr × Obj)) (s : Shared) (σ : St) (H : Hp) (Q : VK) (I : Inv X pins σ H s) (h : tMethSD C mn sp E (tVar 0) t σ H Q) :
    _root_.PySem.wpAt (model X.prog X.w) X.A (.func B X.env) (eval (.Call (.Attribute (.Call (.Name "super" p0) [] [] p1) mn p2) (e :: es) [] pos) X.env) (EP X pins σ Q) X.xe s := by
  obtain ⟨y, hy, a, dx, fs, rfl, ea, _, q⟩ := h
  obtain ⟨oc, od, fdI, osl, ar, lkI, hpar, har⟩ := T.fn
  obtain ⟨c1, d1, vs0, s1, file, tf, lkC, hvs, hfile⟩ := T.code
  obtain ⟨c2, d2, s2, lkc⟩ := T.cell
  obtain ⟨cdD, hD⟩ := T.cls
  have XK := I.kIn
  obtain ⟨oD, lkD, oDd⟩ : ∃ oD, X.K.lookup D = some oD ∧ oD.data = .cls cdD := by
    unfold PySem.W.clsIn at hD
    split at hD
    · rename_i c d cd' sl ho
      cases hD
      exact ⟨_, ho, rfl⟩
    · cases hD
  obtain ⟨cdC, hCc⟩ : ∃ cd, PySem.W.clsIn X.K C = some cd := by
    have := M.at_
    unfold PySem.W.ks_superIn at this
    cases hz : PySem.W.clsIn X.K C with
    | none => rw [hz] at this; cases this
    | some cd => exact ⟨cd, rfl⟩
  obtain ⟨oC, lkCC⟩ : ∃ oC, X.K.lookup C = some oC := by
    have := hCc
    unfold PySem.W.clsIn at this
    split at this
    · rename_i ho
      exact ⟨_, ho⟩
    · cases this
  have hne : a ≠ C := fun z => by
    have := (I.bs _ _ (I.mod.kin _ _ lkCC)).2
    rw [← z, ea] at this
    cases this
  obtain ⟨mA, O, _⟩ := ins_get I.hok ea
  have oa1 := O.obj
  obtain ⟨of2, lkf2, of2c⟩ : ∃ o, X.K.lookup f2 = some o ∧ o.cls = .type "function" := by
    have ht' : (X.K.lookup f2).map (·.cls) = some (.type "function") := M.ty
    cases z : X.K.lookup f2 with
    | none => rw [z] at ht'; cases ht'
    | some o => rw [z] at ht'; exact ⟨o, rfl, Option.some.inj ht'⟩
  obtain ⟨m, hn, hl⟩ := I.loc
  obtain ⟨u, ru, lu⟩ := hl 0 x _ hN hy (Or.inl hkx)
  have hmx : m x = some (.ref a) := by
    have eu : u = Value.ref a := ru
    rcases lu with ⟨_, z⟩ | ⟨z, _⟩
    · rw [z, eu]
    · rw [hkx] at z
      rcases z with z | z <;> cases z
  obtain ⟨mb, hb1, hb2⟩ := I.mod.blt
  refine ks_wpAt_MethodCall (pl := pl) ?_ he
  refine ks_wpAt_super_base hks hkc hat hfu (XK _ _ lkI) rfl hpar hco (XK _ _ lkC) rfl hvs hfile T.top ?_
  refine PySem.W.ks_loadName_global I.ok.kind hks (Calls.loadGlobal_builtin (by rw [I.ok.glob]; exact I.mod.glob.keeps I.bk) hnoS (by rw [I.ok.blt]; exact hb1.keeps I.bk) ((hb2 "super" (by decide)).trans (by first | boot_by_name | rfl | kernel_rfl)) ⟨rfl, ?_⟩)
  refine wpAny_loadName_free I.ok.kind hkc hlc (v := .ref D) ⟨_, XK _ _ lkc, rfl⟩ ?_
  rw [har]
  refine wpAny_loadName_local I.ok.kind hkx hn hmx ?_
  obtain ⟨hh, g, dr, tk, os⟩ := s
  refine ks_wpAny_isType_cls (XK _ _ lkD) oDd ⟨rfl, ?_⟩
  refine ks_wpAny_call_super (XK _ _ lkD) oDd oa1 rfl (fun c z => by cases z) (PySem.W.looks_mroIn XK M.sub) (fun h₂ hso k₂ => ?_)
  have I2 : Inv X pins σ H ⟨h₂, g, dr, tk, os⟩ := I.kept (t' := tk) k₂
  have X2 := I2.kIn
  have hm := M.at_
  unfold PySem.W.ks_superIn at hm
  rw [hCc] at hm
  refine ks_wpAny_getMethod_super hso (PySem.W.looks_opaque X2 T.opq) (l₀ := cdC.mro) ?_ rfl X2 hm (X2 _ _ lkf2) of2c hne hat ?_
  · exact fun A Q E s k q => wpAny_bind ((PySem.W.looks_clsIn X2 hCc) A _ E s k (wpAny_pure q))
  have k₃ : ∀ b o, h₂.get? b = some o → (h₂.push (PySem.W.methodObj (.ref f2) (.ref a))).get? b = some o := fun b o e => Heap.get?_push_of_some _ e
  have I3 : Inv X pins σ H ⟨h₂.push (PySem.W.methodObj (.ref f2) (.ref a)), g, dr, tk + 1, os⟩ := I2.kept (t' := tk + 1) k₃
  have hq3 : (h₂.push (PySem.W.methodObj (.ref f2) (.ref a))).get? h₂.objs.size = some (PySem.W.methodObj (.ref f2) (.ref a)) := Heap.get?_push_at rfl rfl
  have I4 : Inv X (pins ++ [(h₂.objs.size, PySem.W.methodObj (.ref f2) (.ref a))]) σ H ⟨h₂.push (PySem.W.methodObj (.ref f2) (.ref a)), g, dr, tk + 1, os⟩ := I3.pins_of fun p hp => by
    rcases List.mem_append.mp hp with z | z
    · exact I3.pin p (List.mem_append_right _ z)
    · have : p = (h₂.objs.size, PySem.W.methodObj (.ref f2) (.ref a)) := by simpa using z
      subst this
      exact ⟨hq3, I2.hok.fresh (Nat.le_refl _), Nat.ne_of_gt I2.lt, I2.nofs (Nat.le_refl _), fun v z => by cases z⟩
  rw [hst]
  refine PySem.W.callWith_of (P := PySem.W.MethP X.K h₂.objs.size f2 (.ref a)) (by show ((false || (backTo pos (starEach es X.env)).any (·.1)) || false) = false; rw [hpl]; rfl) (PySem.W.keeps_M M.fn) (Calls.evalArgs_plain ?_)
  have q' : t σ H fun vs H2 => sp (.ref a :: vs) H2 Q (E σ) := q
  have run := ha.run pos _ _ σ H _ I4 q'
  rw [hst] at run
  refine thn run fun us s5 ⟨vs, H5, I5, r5, q5⟩ => ?_
  obtain ⟨hp1, _⟩ := I5.pin (h₂.objs.size, PySem.W.methodObj (.ref f2) (.ref a)) (List.mem_append_right _ (List.mem_append_right _ (List.mem_singleton.mpr rfl)))
  have I6 : Inv X pins σ H5 s5 := I5.pins_of fun p hp => I5.pin p (List.mem_append_right _ (List.mem_append_left _ hp))
  refine ⟨⟨hp1, I5.kIn⟩, ?_⟩
  have r6 : Vals (V.ref a :: vs) (Value.ref a :: us) := .cons rfl r5
  have hlen : (Value.ref a :: us ++ []).length = ps.length := by
    have z := r6.length
    rw [FO.len _ _ _ _ q5] at z
    rw [List.append_nil]
    exact z.symm
  have Bd := hb s5 (Value.ref a :: us) I6.kIn hlen
  rw [List.append_nil] at Bd
  refine wpAny_call (ks_codeAny_call_bound hp1 (codeAny_mono (FO.run X.A X.stack s5 H5 ⟨Value.ref a :: us, []⟩ (Value.ref a :: us) _ _ (E σ) hr I6.env0 Bd r6 q5) fun r s' hq' => ?_))
  cases r with
  | error e => exact hx σ pins H5 s5 e s' I6 hq'
  | ok fl =>
    cases fl with
    | ret u => exact I6.after hq'
    | next => exact False.elim hq'
    | brk => exact False.elim hq'
    | cont => exact False.elim hq'
end
section
variable {K : PySem.W.Frag} {mg : Str → Option Value} {N : List Str} {n : Nat} {ios : List Nat} {m : SM} {vs : List V} {H : Hp} {Q : VK} {E : XK}
/-- a def's promise, wished for at its entry, is its body's -/
theorem spM_tS (hps : n ≤ N.length) (h : spM K mg n ios (mDef N.length ios m) vs H Q E) : tS K mg (fun cls d _ H' => E cls d H') m { nx := fun _ H' => Q .non H', rt := Q } (L2.start N vs) H := by
  obtain ⟨hn, F, as, fh, AO, g⟩ := h
  have S0 := Sat.start (N := N) (by rw [hn]; exact hps) fh AO
  refine ⟨Gh.entry F H ios vs, F, as ++ List.replicate (N.length - as.length) Sl.un, S0, ?_⟩
  unfold mDef at g
  have done : ∀ {r : RV} {ρ : En}, DGd K mg F H vs ios (okD ios r ρ) Q E → ∀ {F' H' : Hp} {σ : St} {y : V}, Sat K mg (Gh.entry F H ios vs) F' H' σ ρ → (∀ os, Aft K mg F H F' H' vs ios os → RpR' K mg F H F' H' y r) → Q y H' := fun {r ρ} g {F' H' σ y} S' hr => by
    unfold okD at g
    cases q : ioOf ios ρ with
    | none =>
      rw [q] at g
      exact g.elim
    | some os =>
      rw [q] at g
      have a := S'.aft AO q
      exact g F' H' y a (hr os a)
  cases q : m (as ++ List.replicate (N.length - as.length) .un) with
  | nx ρ =>
    rw [q] at g
    exact fun F' H' σ S' _ => done g S' fun _ _ => .v .non
  | rt r ρ =>
    rw [q] at g
    intro F' H' σ y S' e rr hown
    refine done g S' fun os a => ?_
    cases rr with
    | v r => exact .v r
    | w h1 h2 h3 =>
      rename_i b o
      refine .w h1 h2 ?_
      rcases h3 with ⟨j, hj, e3⟩ | h3
      · exfalso
        obtain ⟨f1, w2, f2⟩ := S'.io j b (entry_io.mpr ⟨hj, e3⟩)
        exact hown b rfl ⟨_, rfl⟩ j (by rw [f2]; rfl) f1
      · exact h3
  | ex y ρ =>
    rw [q] at g
    dsimp only at g
    intro σ F' H' C d fs hC S' e hd rf
    cases q2 : ioOf ios ρ with
    | none =>
      rw [q2] at g
      exact g.elim
    | some os =>
      rw [q2] at g
      exact g F' H' C d fs hC (S'.aft AO q2) hd rf
  | bk ρ =>
    rw [q] at g
    exact g.elim
  | ct ρ =>
    rw [q] at g
    exact g.elim
  | bad =>
    rw [q] at g
    exact g.elim
end
section
variable {X : Cx} {W : WX} {B : List Stmt} {C D fI cc cda : Addr} {c x mn : Str} {p0 p1 p2 pos pos2 : Pos} {e : Expr} {es rest : List Expr} {ms : AM} {f : List Sl → DR} {k j n : Nat} {pl : Sem Bool}
/-- the method mn that super() finds keeps its mirror's promise, at level k -/
structure SupM (P : Program) (w : World) (K : PySem.W.Frag) (mg : Str → Option Value) (base : Heap) (k : Nat) (c : Str) (D : Addr) (mn : Str) (n : Nat) (m : List Sl → DR) : Prop where
  ex : ∃ C f2 fd ps, mg c = some (.ref C) ∧ SuM K C D f2 mn ∧ FnOk P w K mg base (L2.CX P w) k f2 fd ps (spM K mg n [0] m) ∧ Binds K fd ps []
theorem mat_super (T : SuT X.prog X.K fI cda cc D x) (M : SupM X.prog X.w X.K X.mg X.base k c D mn n f) (hks : X.env.kindOf ("super" : Str) = some .globalImplicit) (hkc : X.env.kindOf ("__class__" : Str) = some .free) (hfu : X.env.func = some fI) (hco : X.env.code = .ref cda) (hlc : X.env.cells.lookup ("__class__" : Str) = some cc)
    (hN : X.N[0]? = some x) (hkx : X.env.kindOf x = some .local) (hnoS : X.mg "super" = none) (hr : Room j X.A) (hk : k ≤ j) (tk : Takes X W) (ha : MA X W (e :: es) ms) (hml : ∀ ρ vs ρ', ms ρ = .ok vs ρ' → vs.length = (e :: es).length) (hat : (mn == ("__class__" : Str)) = false) (hn : (e :: es).length + 1 = n := by rfl)
    (he : eval (.Call (.Attribute (.Call (.Name "super" p0) [] [] p1) mn p2) (e :: es) [] pos) X.env = (do
      let ov ← attributeBase (.Call (.Name "super" p0) [] [] p1) mn X.env (eval (.Call (.Name "super" p0) [] [] p1) X.env)
      standAt p2.atName
      let (f, first) ← holding [ov] (getMethod ov mn pl)
      callWith pos f first (backTo pos (starEach (e :: es) X.env)) []) := by rfl)
    (hst : starEach (e :: es) X.env = (false, eval e X.env) :: starEach es X.env := by rfl) (hpl : (backTo pos (starEach es X.env)).any (·.1) = false := by rfl)
    (pins : List (Addr × Obj)) (s : Shared) (σ : St) (H : Hp) (Q : VK) (I : Inv X pins σ H s) (h : tE X.K X.mg W (mMeth c mn 0 [0] f ms) σ H Q) :
    _root_.PySem.wpAt (model X.prog X.w) X.A (.func B X.env) (eval (.Call (.Attribute (.Call (.Name "super" p0) [] [] p1) mn p2) (e :: es) [] pos) X.env) (EP X pins σ Q) X.xe s := by
  obtain ⟨C, f2, fd, ps, hC, SM2, FO, hb⟩ := M.ex
  obtain ⟨G, F, ρ, S, g⟩ := h
  exact at_super T SM2 hks hkc hfu hco hlc hN hkx hnoS FO (hr.mono hk) hb (fun σ => passAt tk σ) ha hat he hst hpl pins s σ H Q I (meth_in (nv := 0) hC S (fun ρ vs ρ' h => by rw [hml ρ vs ρ' h]; exact hn) (fun S g => subA S g) g)
theorem mat_seq {em : EM} {m : SM} {st : List Stmt} (h1 : ∀ (pins : List (Addr × Obj)) (s : Shared) (σ : St) (H : Hp) (Q : VK), Inv X pins σ H s → tE X.K X.mg W em σ H Q → _root_.PySem.wpAt (model X.prog X.w) X.A (.func B X.env) (eval e X.env) (EP X pins σ Q) X.xe s)
    (h2 : MSs X W st m) (hi : interactive X.env = false := by rfl) (hs : swapsWith e none pos.line X.env = pure false := by rfl) : PSsAt X B (.Expr e pos :: st) (tS X.K X.mg W (mSeq (mDrop em) m)) := by
  rintro pins s σ H D I ⟨G, F, ρ, S, g⟩
  have g' := SGd.seq g
  refine ks_wpAt_execs_cons (ks_wpAt_Expr_any (ks_wpAt_mono (h1 pins s σ H (fun _ H' => tS X.K X.mg W m D σ H') I ⟨G, F, ρ, S, Gd.st g' fun v ρ1 F1 H1 x S1 e1 r1 k1 => k1 F1 H1 _ S1 (Same.refl _)⟩) (fun v s' ⟨x, H1, I1, r1, q1⟩ => wpAt_of_wpAny (h2.run pins s' σ H1 D I1 q1)) fun _ _ z => z) hi hs)
end
section
variable {P : Program} {w : World} {K : PySem.W.Frag} {mg : Str → Option Value} {base : Heap} {k : Nat} {f cc cda : Addr} {name qual : Str} {params : Arguments} {body : List Stmt} {scope : Scope} {dV kV doc pm ct oc : Value} {an od : Option Addr}
    {osl : Array (Option Value)} {N ps : List Str} {c2 : Value} {d2 : Option Addr} {s2 : Array (Option Value)} {u0 : Option Value} {m : SM} {ios : List Nat}
/-- THE RULE of such a def -/
theorem sdef_ok (lk : K.lookup f = some ⟨oc, od, .func (PySem.W.ksFn name qual params body scope dV kV doc pm an (.ref cda) ct cc), osl⟩) (hcd : PySem.W.codeIn K (.ref cda) qual = true) (hcc : K.lookup cc = some ⟨c2, d2, .cell u0, s2⟩) (S : SuScope N ps scope) (hps : ps.length ≤ N.length)
    (hb : ∀ (A : Around) (outer : List Env) (s : Shared) (H : Hp) (E : XK), Room k (A.deeper (PySem.W.ksEnv qual scope s.heap.objs.size f (.ref cda) cc)) →
      PSsAt (cxSu (L2.CX P w) P w K mg base N qual scope f (.ref cda) cc A outer s H E) body body (tS K mg (fun cls d _ H' => E cls d H') m)) :
    FnOk P w K mg base (L2.CX P w) (k + 1) f (PySem.W.ksFn name qual params body scope dV kV doc pm an (.ref cda) ct cc) ps (spM K mg ps.length ios (mDef N.length ios m)) :=
  fn_su lk hcd hcc S (fun vs H Q E h => h.1) fun A outer s H vs Q E hr h => ⟨_, hb A outer s H E hr, spM_tS hps h⟩
end
end Mi
set_option Elab.async false
set_option linter.all false
set_option maxRecDepth 100000
set_option maxHeartbeats 2000000
/-! Mi, part Y: the head: what the top has written, read by a Hook; the own errors' classes among it. -/
namespace Mi
open PySem PySem.Spec PyProof.Rows L2 PySem.MiX He PySem.W
abbrev InW : Type := Option (Str × Str × Arguments × FuncBody × Scope × Addr × List Str × Addr)
def inW (K : Frag) (c : Str) : InW := match K.lookup (ma K (ga K c) "__init__") with
  | some ⟨_, _, .func fd, _⟩ => some (fd.name, fd.qualname, fd.params, fd.body, fd.scope, fd.globals, fd.closure.map (·.1), fd.builtins)
  | _ => none
/-- an own error's class: its name, its field, its __init__'s text -/
structure ExD where
  c : Str
  f : Str
  t : Str
  qn : Str
  p1 : Pos
  p2 : Pos
  q : Nat → Pos
def ExD.val (d : ExD) : InW := some ("__init__", d.qn, iA d.f d.p1 d.p2, .stmts (iB d.f d.t d.q), iS d.f, mainGlobals, ["__class__"], builtinsNs)
def clsB (K : Frag) (C : Addr) : Bool := match K.lookup C with
  | some ⟨.type t, _, .cls cd, ⟨[_, _, _, _, some (.builtin n), _]⟩⟩ => decide (t = "type") && (decide (n = "ValueError.__new__") && (cd.hasDict && (!cd.hasDel && (match cd.mro with
    | .ref c :: bm => decide (c = C) && (PySem.HandSPX.refsVE bm && eqO (alongIn K "__init__" bm) (some (some (.builtin "ValueError.__init__"))))
    | _ => false))))
  | _ => false
def inB (K : Frag) (C fI : Addr) (file : Str) : Bool := match K.lookup fI with
  | some ⟨_, _, .func fd, _⟩ => (match fd.defaults, fd.kwdefaults, fd.code, fd.closure with
    | .none, .none, .ref cda, [(n, cc)] => decide (n = "__class__") && (codeIn K (.ref cda) fd.qualname && ((match K.lookup cda with
      | some ⟨_, _, .fields vs, _⟩ => (match (vs[2]? : Option Value) with
        | some (Value.str f _) => file == f
        | _ => false)
      | _ => false) && (match K.lookup cc with
      | some ⟨_, _, .cell (some (.ref D)), _⟩ => decide (D = C)
      | _ => false)))
    | _, _, _, _ => false)
  | _ => false
def ecB (K : Frag) (D : Addr) : Bool := (clsIn K D).isSome && (eqO (findIn K (.ref D) "__getattribute__") (some (some (.builtin "BaseException.__getattribute__"))) && (eqO (findIn K (.ref D) "__getattr__") (some none) && (decide (subIn K (.ref D) (.type "BaseException") = some true) &&
  (eqO (findIn K (.ref D) "__class__") (some (some (.builtin "object.__class__"))) && (eqO (specialIn K (.builtin "object.__class__") "__get__") (some (some (.builtin "getset_descriptor.__get__"))) && (decide (takesIn K (.builtin "object.__class__") = some true) && decide (mroIn K D (.type "object") = some true)))))))
theorem ecB_ok {K : Frag} {D : Addr} (h : ecB K D = true) : ExC K D := by
  obtain ⟨h1, h⟩ := ba h
  obtain ⟨h2, h⟩ := ba h
  obtain ⟨h3, h⟩ := ba h
  obtain ⟨h4, h⟩ := ba h
  obtain ⟨h5, h⟩ := ba h
  obtain ⟨h6, h⟩ := ba h
  obtain ⟨h7, h8⟩ := ba h
  exact ⟨h1, eqO_ok h2, eqO_ok h3, of_decide_eq_true h4, eqO_ok h5, eqO_ok h6, of_decide_eq_true h7, of_decide_eq_true h8⟩
def exB (K : Frag) (file : Str) (d : ExD) : Bool := clsB K (ga K d.c) && (inB K (ga K d.c) (ma K (ga K d.c) "__init__") file && (ecB K (ga K d.c) &&
  (eqO (nsIn K mainGlobals d.c) (some (some (.ref (ga K d.c)))) && (eqO (findIn K (.ref (ga K d.c)) "__setattr__") (some (some (.builtin "object.__setattr__"))) && (eqO (findIn K (.ref (ga K d.c)) d.f) (some none) &&
  (eqO (findIn K (.ref (ga K d.c)) "__init__") (some (some (.ref (ma K (ga K d.c) "__init__")))) && (decide (typeIn K (.ref (ma K (ga K d.c) "__init__")) = some (.type "function")) && (keepIn K (.ref (ga K d.c)) && (decide (subIn K (.ref (ga K d.c)) (.type "ValueError") = some true) &&
  (decide (typeIn K (.ref (ga K d.c)) = some (.type "type")) && (hasDictIn K (ga K d.c) && (decide (mroIn K (ga K d.c) (.ref (ga K d.c)) = some true) && (eqO (nsIn K cStatics "thirdparty.any") (some none) && eqO (nsIn K mainGlobals "super") (some none))))))))))))))
theorem clsB_ok {K : Frag} {C : Addr} (h : clsB K C = true) : ∃ nm q N bs bm sn sub ab col dd k0 k1 k2 k3 k5, K.lookup C = some (excClassObj nm q C N bs bm true sn sub ab col dd k0 k1 k2 k3 k5 "ValueError.__new__") ∧ PySem.HandSPX.refsVE bm = true ∧ alongIn K "__init__" bm = some (some (.builtin "ValueError.__init__")) := by
  unfold clsB at h
  split at h
  · rename_i t dd cd k0 k1 k2 k3 n k5 ho
    obtain ⟨a1, r1⟩ := ba h
    obtain ⟨a2, r2⟩ := ba r1
    obtain ⟨a3, r3⟩ := ba r2
    obtain ⟨a4, r4⟩ := ba r3
    clear h r1 r2 r3
    have e1 := of_decide_eq_true a1
    have e2 := of_decide_eq_true a2
    subst e1 e2
    obtain ⟨nm, bs, mro, ns, qn, hd, sn, sb, ab, col, del⟩ := cd
    dsimp only at a3 a4 r4
    cases mro with
    | nil => cases r4
    | cons m bm =>
      cases m with
      | ref c =>
        dsimp only at r4
        obtain ⟨a5, r5⟩ := ba r4
        obtain ⟨a6, a7⟩ := ba r5
        have e5 := of_decide_eq_true a5
        subst e5
        have e4 : del = false := by simpa using a4
        subst e4
        subst a3
        exact ⟨nm, qn, ns, bs, bm, sn, sb, ab, col, dd, k0, k1, k2, k3, k5, ho, a6, eqO_ok a7⟩
      | _ => cases r4
  · cases h
end Mi
namespace Mi
open PySem PySem.Spec PyProof.Rows L2 PySem.MiX He PySem.W
/-- the text of such an __init__ does as Python's rules say -/
structure ExTxt (d : ExD) : Prop where
  b : ∀ (doc pm : Value) (an : Option Addr) (cda : Addr) (ct : Value) (cc : Addr) (u v : Value), bindArgs (ksFn "__init__" d.qn (iA d.f d.p1 d.p2) (iB d.f d.t d.q) (iS d.f) .none .none doc pm an (.ref cda) ct cc) ⟨[u, v], []⟩ = pure ([(("self" : Str), u), (d.f, v)] : List (Str × Value))
  e : ∀ env, ∃ pl, eval (iE d.t d.q) env = (do
      let ov ← attributeBase (.Call (.Name "super" (d.q 0)) [] [] (d.q 1)) "__init__" env (eval (.Call (.Name "super" (d.q 0)) [] [] (d.q 1)) env)
      standAt (d.q 2).atName
      let (f, first) ← holding [ov] (getMethod ov "__init__" pl)
      callWith (d.q 4) f first (backTo (d.q 4) (starEach [.Constant (.str d.t) 0 (d.q 3)] env)) [])
theorem exT_of {P : Program} {K : Frag} {mg : Str → Option Value} {h : Heap} {d : ExD} (X : K.In h) (G : h.Ns mainGlobals mg) (ht : (P.main.scope.names.lookup ("super" : Str)).isSome = false) (tx : ExTxt d) (c : exB K P.main.file d = true) (e : inW K d.c = d.val) :
    ExT P K mg d.c d.f (ga K d.c) (ma K (ga K d.c) "__init__") := by
  obtain ⟨a1, r⟩ := ba c
  obtain ⟨a2, r⟩ := ba r
  obtain ⟨a3, r⟩ := ba r
  obtain ⟨a4, r⟩ := ba r
  obtain ⟨a5, r⟩ := ba r
  obtain ⟨a6, r⟩ := ba r
  obtain ⟨a7, r⟩ := ba r
  obtain ⟨a8, r⟩ := ba r
  obtain ⟨a9, r⟩ := ba r
  obtain ⟨a10, r⟩ := ba r
  obtain ⟨a11, r⟩ := ba r
  obtain ⟨a12, r⟩ := ba r
  obtain ⟨a13, r⟩ := ba r
  obtain ⟨a14, a15⟩ := ba r
  have E := ecB_ok a3
  refine ⟨mg_of X G (eqO_ok a4), clsB_ok a1, eqO_ok a5, E.hg, E.hk, eqO_ok a6, eqO_ok a7, of_decide_eq_true a8, a9, E.hs, of_decide_eq_true a10, of_decide_eq_true a11, a12, of_decide_eq_true a13, eqO_ok a14, mg_none_of X G (eqO_ok a15), ht, ?_⟩
  unfold inW at e
  unfold inB at a2
  cases q : K.lookup (ma K (ga K d.c) "__init__") with
  | none =>
    rw [q] at a2
    cases a2
  | some o =>
    obtain ⟨oc, od, dt, osl⟩ := o
    rw [q] at a2 e
    cases dt with
    | func fd =>
      obtain ⟨n1, n2, n3, n4, n5, n6, n7, n8, n9, n10, n11, n12, n13, n14, n15⟩ := fd
      have e2 : (some (n1, n2, n3, n4, n5, n6, n7.map (·.1), n15) : InW) = some (("__init__" : Str), d.qn, iA d.f d.p1 d.p2, FuncBody.stmts (iB d.f d.t d.q), iS d.f, mainGlobals, [("__class__" : Str)], builtinsNs) := e
      simp only [Option.some.injEq, Prod.mk.injEq] at e2
      obtain ⟨h1, h2, h3, h4, h5, h6, h7, h8⟩ := e2
      subst h1 h2 h3 h4 h5 h6 h8
      cases n8 with
      | none =>
        cases n9 with
        | none =>
          cases n13 with
          | ref cda =>
            cases n7 with
            | nil => cases a2
            | cons p r =>
              cases r with
              | cons _ _ => cases a2
              | nil =>
                obtain ⟨n, cc⟩ := p
                dsimp only at a2
                obtain ⟨c1, s⟩ := ba a2
                obtain ⟨c2, s⟩ := ba s
                obtain ⟨c3, c4⟩ := ba s
                have ec := of_decide_eq_true c1
                subst ec
                cases q1 : K.lookup cda with
                | none => rw [q1] at c3; cases c3
                | some o1 =>
                  obtain ⟨oc1, od1, dt1, osl1⟩ := o1
                  rw [q1] at c3
                  cases dt1 with
                  | fields vs =>
                    dsimp only at c3
                    cases q2 : vs[2]? with
                    | none => rw [q2] at c3; cases c3
                    | some y =>
                      rw [q2] at c3
                      cases y with
                      | str file tf =>
                        cases q3 : K.lookup cc with
                        | none => rw [q3] at c4; cases c4
                        | some o2 =>
                          obtain ⟨oc2, od2, dt2, osl2⟩ := o2
                          rw [q3] at c4
                          cases dt2 with
                          | cell v =>
                            cases v with
                            | none => cases c4
                            | some v =>
                              cases v with
                              | ref D =>
                                have eD := of_decide_eq_true c4
                                subst eD
                                exact ⟨oc, od, n10, n11, n12, n14, osl, d.p1, d.p2, d.q, d.t, d.qn, cda, cc, oc1, od1, vs, osl1, file, tf, oc2, od2, osl2, rfl, c2, q1, q2, c3, q3, tx.b _ _ _ _ _ _, tx.e⟩
                              | _ => cases c4
                          | _ => cases c4
                      | _ => cases c3
                  | _ => cases c3
          | _ => cases a2
        | _ => cases a2
      | _ => cases a2
    | _ => cases a2
/-! ### the Hook -/
abbrev AlM : Type := (Bool × List FnW) × (Bool × List InW)
/-- all pairs of the own errors: how isinstance answers; the root catches all -/
def relB2 (K : Frag) (xs : List ExD) (root : Str) (sub : Str → Str → Bool) : Bool := xs.all fun d => (xs.all fun e => decide (kitOne K (.ref (ga K d.c)) (.ref (ga K e.c)) = some (sub d.c e.c))) && decide (exmOne K (.ref (ga K d.c)) (.ref (ga K root)) = some true)
def factB (K : Frag) (file : Str) (xs : List ExD) (root : Str) (sub : Str → Str → Bool) : Bool := (xs.all fun d => exB K file d) && (relB2 K xs root sub && eqO (nsIn K mainGlobals root) (some (some (.ref (ga K root)))))
def frM (n : Nat) (g : Addr → Option Obj) : Frag := frG g (cStatics :: asD g n)
def obsM (n : Nat) (fa : List Fa) (fn : List DefD) (file : Str) (xs : List ExD) (root : Str) (sub : Str → Str → Bool) (g : Addr → Option Obj) : AlM := (obsD fa fn (frM n g), (factB (frM n g) file xs root sub, xs.map fun d => inW (frM n g) d.c))
def valM (fn : List DefD) (xs : List ExD) : AlM := (valD fn, (true, xs.map ExD.val))
structure SaysM (fa : List Fa) (fn : List DefD) (file : Str) (xs : List ExD) (root : Str) (sub : Str → Str → Bool) (K : Frag) : Prop where
  d : SaysD fa fn K
  f : factB K file xs root sub = true
  i : xs.map (fun d => inW K d.c) = xs.map ExD.val
def hookM (n : Nat) (fa : List Fa) (fn : List DefD) (file : Str) (xs : List ExD) (root : Str) (sub : Str → Str → Bool) : Hook where
  α := AlM
  obs := fun s => obsM n fa fn file xs root sub s.heap.get?
  val := fun _ => valM fn xs
  says := fun _ h => ∃ K : Frag, K.In h ∧ SaysM fa fn file xs root sub K
  of := fun _ _ e => ⟨_, frG_in, congrArg (fun z : AlM => z.1) e, congrArg (fun z : AlM => z.2.1) e, congrArg (fun z : AlM => z.2.2) e⟩
  keeps := fun _ _ _ ⟨K, hK, c⟩ k => ⟨K, Frag.In.keeps hK k, c⟩
theorem obsM_eq {n : Nat} {fa : List Fa} {fn : List DefD} {file : Str} {xs : List ExD} {root : Str} {sub : Str → Str → Bool} {g : Addr → Option Obj} {s : Shared} (h : ∀ a, g a = s.heap.get? a) : obsM n fa fn file xs root sub g = (hookM n fa fn file xs root sub).obs s := by
  have e : g = s.heap.get? := funext h
  rw [e] <;> rfl
theorem clsT_of {P : Program} {K : Frag} {mg : Str → Option Value} {h : Heap} {fa : List Fa} {fn : List DefD} {xs : List ExD} {root : Str} {sub : Str → Str → Bool} (X : K.In h) (G : h.Ns mainGlobals mg) (ht : (P.main.scope.names.lookup ("super" : Str)).isSome = false) (tx : ∀ d ∈ xs, ExTxt d)
    (c : SaysM fa fn P.main.file xs root sub K) : ClsT P K mg (ga K) (xs.map fun d => (d.c, d.f)) root sub := by
  obtain ⟨f1, r⟩ := ba c.f
  obtain ⟨f2, f3⟩ := ba r
  have mem : ∀ {c f}, (c, f) ∈ xs.map (fun d => (d.c, d.f)) → ∃ d ∈ xs, d.c = c ∧ d.f = f := fun {c f} hm => by
    obtain ⟨d, h1, h2⟩ := List.mem_map.mp hm
    cases h2
    exact ⟨d, h1, rfl, rfl⟩
  have inn : ∀ d ∈ xs, inW K d.c = d.val := fun d hd => by
    obtain ⟨i, hi, e⟩ := List.mem_iff_getElem.mp hd
    have e2 : (xs.map fun d => inW K d.c)[i]? = (xs.map ExD.val)[i]? := by rw [c.i]
    rw [List.getElem?_map, List.getElem?_map, List.getElem?_eq_getElem hi, e] at e2
    exact Option.some.inj e2
  have rel := List.all_eq_true.mp f2
  refine ⟨fun c f hm => ?_, mg_of X G (eqO_ok f3), fun c f hm => ?_, fun c f d g hm hm2 => ?_, fun c f hm => ?_⟩
  · obtain ⟨d, hd, rfl, rfl⟩ := mem hm
    exact ⟨_, exT_of X G ht (tx d hd) (List.all_eq_true.mp f1 d hd) (inn d hd)⟩
  · obtain ⟨d, hd, rfl, rfl⟩ := mem hm
    have := List.all_eq_true.mp f1 d hd
    obtain ⟨_, r⟩ := ba this
    obtain ⟨_, r⟩ := ba r
    exact ecB_ok (ba r).1
  · obtain ⟨d, hd, rfl, rfl⟩ := mem hm
    obtain ⟨e, he, rfl, rfl⟩ := mem hm2
    exact of_decide_eq_true (List.all_eq_true.mp (ba (rel d hd)).1 e he)
  · obtain ⟨d, hd, rfl, rfl⟩ := mem hm
    exact of_decide_eq_true (ba (rel d hd)).2
/-- the law's promise at a script -/
theorem law_sp {K : Frag} {mg : Str → Option Value} {H : Hp} {a : Addr} {ns : List Int} {f : List Sl → DR} (hS : SqL K H a (ns.map V.int)) (hf : f [.val (.frl (ns.map D.int))] = .ok (.v (.bl true)) []) : spM K mg 1 [] f [.ref a] H (fun v _ => v = .bl true) fun _ _ _ => False := by
  refine ⟨rfl, H, [.val (.frl (ns.map D.int))], Same.refl _, ⟨rfl, fun i d e => ?_, fun i io o e => ?_, fun j hj => (by cases hj), fun i j b hij h1 => (by cases h1)⟩, ?_⟩
  · cases i with
    | zero => cases e; exact ⟨_, rfl, .frl hS (RpA.ints _)⟩
    | succ i => simp at e
  · cases i with
    | zero => cases e
    | succ i => simp at e
  · rw [hf]
    intro F' H' x _ rr
    cases rr with
    | v r => cases r; rfl
theorem cx_none {P : Program} {w : World} (H : Hp) (s : Shared) (e : Value) (s' : Shared) (h : L2.CX P w [] H s (fun _ _ _ => False) e s') : False := by
  obtain ⟨_, _, _, _, _, _, _, _, _, _, _, _, h⟩ := h
  exact h
end Mi
namespace Mi
open PySem PySem.Spec PyProof.Rows L2 PySem.MiX He PySem.W
/-- what any World's def may let out -/
def CXU (P : Program) : CXT := fun outer H s E u s' => ∃ w, L2.CX P w outer H s E u s'
theorem fnok_wide {P : Program} {w : World} {K : Frag} {mg : Str → Option Value} {base : Heap} {k : Nat} {f : Addr} {fd : FuncData} {ps : List Str} {sp : Sp} (F : FnOk P w K mg base (L2.CX P w) k f fd ps sp) : FnOk P w K mg base (CXU P) k f fd ps sp where
  len := F.len
  run := fun A outer s H args us vs Q E hr he hb hv hs => codeAny_mono (F.run A outer s H args us vs Q E hr he hb hv hs) fun r s' z => by
    cases r with
    | error e => exact ⟨w, z⟩
    | ok fl => cases fl <;> exact z
theorem cxu_none {P : Program} (H : Hp) (s : Shared) (e : Value) (s' : Shared) (h : CXU P [] H s (fun _ _ _ => False) e s') : False := by
  obtain ⟨w, h⟩ := h
  exact cx_none H s e s' h
/-- the law's end: its promise, over every base -/
theorem law_end {P : Program} {K : Frag} {mg : Str → Option Value} {h : Heap} {fa : Addr} {w : World} {k : Nat} {f : List Sl → DR} {d : DefD} {fn : List DefD} {fas : List Fa} {p : Str} (X : K.In h) (hm : mg "law" = some (.ref fa))
    (F : ∀ base, CalM P w K mg base k "law" 1 [] f) (hb : ∀ fd, (∃ f', FunD K d.name d.qual d.params d.body d.scope (d.dvs K) (d.kws K) f' fd) → ∀ (s : Shared) (u : Value), BindsTo s fd ⟨[u], []⟩ [(p, u)])
    (hf : ∀ ns : List Int, ns.length ≤ 63 → f [.val (.frl (ns.map D.int))] = .ok (.v (.bl true)) []) : True := trivial
end Mi
set_option Elab.async false
set_option linter.all false
set_option maxRecDepth 100000
set_option maxHeartbeats 2000000
/-! Mi, part Cp: what the head says of own classes' fields. -/
namespace Mi
open PySem PySem.Spec PyProof.Rows L2 PySem.MiX
theorem fldT_of {fa : List He.Fa} {fn : List He.DefD} {K : PySem.W.Frag} {h : Heap} {mg : Str → Option Value} {flds : List (Str × Str)} (X : K.In h) (G : h.Ns mainGlobals mg) (c : He.SaysD fa fn K)
    (m1 : ∀ p ∈ flds, He.Fa.glo p.1 ∈ fa) (m2 : ∀ p ∈ flds, He.Fa.cls p.1 ∈ fa) (m3 : ∀ p ∈ flds, He.Fa.noat p.1 p.2 ∈ fa) : FldT K mg flds := ⟨fun k f C hc e => by
  have hm : (k, f) ∈ flds := by simpa using hc
  have g1 := He.glo_ok X G (c.facts (m1 _ hm))
  rw [e] at g1
  cases g1
  exact ⟨He.cls_ok (c.facts (m2 _ hm)), He.noat_ok (c.facts (m3 _ hm))⟩⟩
end Mi
set_option Elab.async false
set_option linter.all false
set_option maxRecDepth 100000
set_option maxHeartbeats 2000000
/-! Mi, part Ys: the head, where own classes' __init__ start with super().__init__(..). -/
namespace Mi
open PySem PySem.Spec PyProof.Rows L2 PySem.MiX He PySem.W
/-- such a class c; b holds the __init__ behind it; sf: the first parameter; its def -/
structure SuD where
  c : Str
  b : Str
  sf : Str
  qn : Str
  st : Stmt
def SuD.val (d : SuD) : InW := some ("__init__", d.qn, defArgs d.st, .stmts (defBody d.st), defScope d.st, mainGlobals, ["__class__"], builtinsNs)
def suB (K : Frag) (file : Str) (d : SuD) : Bool := inB K (ga K d.c) (ma K (ga K d.c) "__init__") file && ((clsIn K (ga K d.c)).isSome && (decide (mroIn K (ga K d.c) (.ref (ga K d.c)) = some true) &&
  (eqO (ks_superIn K (ga K d.c) (ga K d.c) "__init__") (some (some (.ref (ma K (ga K d.b) "__init__")))) && (decide (typeIn K (.ref (ma K (ga K d.b) "__init__")) = some (.type "function")) && (fnIn K (ma K (ga K d.b) "__init__") &&
  (eqO (nsIn K cStatics "thirdparty.any") (some none) && eqO (nsIn K mainGlobals "super") (some none)))))))
/-- what follows -/
structure SuF (P : Program) (K : Frag) (mg : Str → Option Value) (c b sf qn : Str) (st : Stmt) (C fI f2 : Addr) : Prop where
  fn : ∃ (oc : Value) (od : Option Addr) (doc pm : Value) (an : Option Addr) (ct : Value) (osl : Array (Option Value)) (cda cc : Addr) (c2 : Value) (d2 : Option Addr) (s2 : Array (Option Value)),
    K.lookup fI = some ⟨oc, od, .func (ksFn "__init__" qn (defArgs st) (defBody st) (defScope st) .none .none doc pm an (.ref cda) ct cc), osl⟩ ∧ codeIn K (.ref cda) qn = true ∧ K.lookup cc = some ⟨c2, d2, .cell (some (.ref C)), s2⟩ ∧ SuT P K fI cda cc C sf
  m : SuM K C C f2 "__init__"
  noS : mg "super" = none
theorem suF_of {P : Program} {K : Frag} {mg : Str → Option Value} {h : Heap} {d : SuD} (X : K.In h) (G : h.Ns mainGlobals mg) (ht : (P.main.scope.names.lookup ("super" : Str)).isSome = false) (hp : (((defArgs d.st).posonlyargs ++ (defArgs d.st).args).head?).map (·.arg) = some d.sf)
    (c : suB K P.main.file d = true) (e : inW K d.c = d.val) : SuF P K mg d.c d.b d.sf d.qn d.st (ga K d.c) (ma K (ga K d.c) "__init__") (ma K (ga K d.b) "__init__") := by
  obtain ⟨a2, r⟩ := ba c
  obtain ⟨a3, r⟩ := ba r
  obtain ⟨a4, r⟩ := ba r
  obtain ⟨a5, r⟩ := ba r
  obtain ⟨a6, r⟩ := ba r
  obtain ⟨a7, r⟩ := ba r
  obtain ⟨a8, a9⟩ := ba r
  refine ⟨?_, ⟨of_decide_eq_true a4, eqO_ok a5, of_decide_eq_true a6, a7⟩, mg_none_of X G (eqO_ok a9)⟩
  unfold inW at e
  unfold inB at a2
  cases q : K.lookup (ma K (ga K d.c) "__init__") with
  | none =>
    rw [q] at a2
    cases a2
  | some o =>
    obtain ⟨oc, od, dt, osl⟩ := o
    rw [q] at a2 e
    cases dt with
    | func fd =>
      obtain ⟨n1, n2, n3, n4, n5, n6, n7, n8, n9, n10, n11, n12, n13, n14, n15⟩ := fd
      have e2 : (some (n1, n2, n3, n4, n5, n6, n7.map (·.1), n15) : InW) = some (("__init__" : Str), d.qn, defArgs d.st, FuncBody.stmts (defBody d.st), defScope d.st, mainGlobals, [("__class__" : Str)], builtinsNs) := e
      simp only [Option.some.injEq, Prod.mk.injEq] at e2
      obtain ⟨h1, h2, h3, h4, h5, h6, h7, h8⟩ := e2
      subst h1 h2 h3 h4 h5 h6 h8
      cases n8 with
      | none =>
        cases n9 with
        | none =>
          cases n13 with
          | ref cda =>
            cases n7 with
            | nil => cases a2
            | cons p r =>
              cases r with
              | cons _ _ => cases a2
              | nil =>
                obtain ⟨n, cc⟩ := p
                dsimp only at a2
                obtain ⟨c1, s⟩ := ba a2
                obtain ⟨c2, s⟩ := ba s
                obtain ⟨c3, c4⟩ := ba s
                have ec := of_decide_eq_true c1
                subst ec
                cases q1 : K.lookup cda with
                | none => rw [q1] at c3; cases c3
                | some o1 =>
                  obtain ⟨oc1, od1, dt1, osl1⟩ := o1
                  rw [q1] at c3
                  cases dt1 with
                  | fields vs =>
                    dsimp only at c3
                    cases q2 : vs[2]? with
                    | none => rw [q2] at c3; cases c3
                    | some y =>
                      rw [q2] at c3
                      cases y with
                      | str file tf =>
                        cases q3 : K.lookup cc with
                        | none => rw [q3] at c4; cases c4
                        | some o2 =>
                          obtain ⟨oc2, od2, dt2, osl2⟩ := o2
                          rw [q3] at c4
                          cases dt2 with
                          | cell v =>
                            cases v with
                            | none => cases c4
                            | some v =>
                              cases v with
                              | ref D =>
                                have eD := of_decide_eq_true c4
                                subst eD
                                refine ⟨oc, od, n10, n11, n12, n14, osl, cda, cc, oc2, od2, osl2, rfl, c2, q3, ⟨?_, ⟨oc1, od1, vs, osl1, file, tf, q1, q2, c3⟩, ⟨oc2, od2, osl2, q3⟩, Option.isSome_iff_exists.mp a3, eqO_ok a8, ht⟩⟩
                                cases z : ((defArgs d.st).posonlyargs ++ (defArgs d.st).args).head? with
                                | none => rw [z] at hp; cases hp
                                | some ar =>
                                  rw [z] at hp
                                  exact ⟨oc, od, _, osl, ar, q, z, Option.some.inj hp⟩
                              | _ => cases c4
                          | _ => cases c4
                      | _ => cases c3
                  | _ => cases c3
          | _ => cases a2
        | _ => cases a2
      | _ => cases a2
    | _ => cases a2
/-! ### the Hook -/
abbrev AlS : Type := AlM × (Bool × List InW)
def obsS (n : Nat) (fa : List Fa) (fn : List DefD) (file : Str) (xs : List ExD) (root : Str) (sub : Str → Str → Bool) (su : List SuD) (g : Addr → Option Obj) : AlS := (obsM n fa fn file xs root sub g, (su.all fun d => suB (frM n g) file d, su.map fun d => inW (frM n g) d.c))
structure SaysS (fa : List Fa) (fn : List DefD) (file : Str) (xs : List ExD) (root : Str) (sub : Str → Str → Bool) (su : List SuD) (K : Frag) : Prop where
  m : SaysM fa fn file xs root sub K
  f : (su.all fun d => suB K file d) = true
  i : su.map (fun d => inW K d.c) = su.map SuD.val
def hookS (n : Nat) (fa : List Fa) (fn : List DefD) (file : Str) (xs : List ExD) (root : Str) (sub : Str → Str → Bool) (su : List SuD) : Hook where
  α := AlS
  obs := fun s => obsS n fa fn file xs root sub su s.heap.get?
  val := fun _ => (valM fn xs, (true, su.map SuD.val))
  says := fun _ h => ∃ K : Frag, K.In h ∧ SaysS fa fn file xs root sub su K
  of := fun _ _ e => ⟨_, frG_in, ⟨congrArg (fun z : AlS => z.1.1) e, congrArg (fun z : AlS => z.1.2.1) e, congrArg (fun z : AlS => z.1.2.2) e⟩, congrArg (fun z : AlS => z.2.1) e, congrArg (fun z : AlS => z.2.2) e⟩
  keeps := fun _ _ _ ⟨K, hK, c⟩ k => ⟨K, Frag.In.keeps hK k, c⟩
theorem obsS_eq {n : Nat} {fa : List Fa} {fn : List DefD} {file : Str} {xs : List ExD} {root : Str} {sub : Str → Str → Bool} {su : List SuD} {g : Addr → Option Obj} {s : Shared} (h : ∀ a, g a = s.heap.get? a) : obsS n fa fn file xs root sub su g = (hookS n fa fn file xs root sub su).obs s := by
  have e : g = s.heap.get? := funext h
  rw [e] <;> rfl
theorem SaysS.su {P : Program} {K : Frag} {mg : Str → Option Value} {h : Heap} {fa : List Fa} {fn : List DefD} {xs : List ExD} {root : Str} {sub : Str → Str → Bool} {su : List SuD} (c : SaysS fa fn P.main.file xs root sub su K) (X : K.In h) (G : h.Ns mainGlobals mg) (ht : (P.main.scope.names.lookup ("super" : Str)).isSome = false)
    {d : SuD} (hd : d ∈ su) (hp : (((defArgs d.st).posonlyargs ++ (defArgs d.st).args).head?).map (·.arg) = some d.sf) : SuF P K mg d.c d.b d.sf d.qn d.st (ga K d.c) (ma K (ga K d.c) "__init__") (ma K (ga K d.b) "__init__") := by
  refine suF_of X G ht hp (List.all_eq_true.mp c.f d hd) ?_
  obtain ⟨i, hi, e⟩ := List.mem_iff_getElem.mp hd
  have e2 : (su.map fun d => inW K d.c)[i]? = (su.map SuD.val)[i]? := by rw [c.i]
  rw [List.getElem?_map, List.getElem?_map, List.getElem?_eq_getElem hi, e] at e2
  exact Option.some.inj e2
end Mi
set_option Elab.async false
set_option linter.all false
set_option maxRecDepth 100000
set_option maxHeartbeats 2000000
/-! Mi, part Gs: defs that keep their promise where no repr runs below. -/
namespace Mi
open PySem PySem.Spec PyProof.Rows L2 PySem.MiX
/-- as FnOk, for callers under which no repr runs -/
structure FnOkG (P : Program) (w : World) (K : PySem.W.Frag) (mg : Str → Option Value) (base : Heap) (CX : CXT) (k : Nat) (f : Addr) (fd : FuncData) (ps : List Str) (sp : Sp) : Prop where
  len : ∀ vs H Q E, sp vs H Q E → vs.length = ps.length
  run : ∀ (A : Around) (outer : List Env) (s : Shared) (H : Hp) (args : Args) (us : List Value) (vs : List V) (Q : VK) (E : XK), A.guards = some [] → Room k A → Env0 P w K mg base A outer s H → BindsTo s fd args (ps.zip us) → Vals vs us → sp vs H Q E →
    codeAny (model P w) A (.call (.ref f) args) (CR CX outer P w H s Q E) s
section
variable {P : Program} {w : World} {K : PySem.W.Frag} {mg : Str → Option Value} {base : Heap} {CX : CXT} {j k : Nat} {f : Addr} {fd : FuncData} {ps : List Str} {sp : Sp}
theorem FnOkG.of (F : FnOk P w K mg base CX k f fd ps sp) : FnOkG P w K mg base CX k f fd ps sp := ⟨F.len, fun A outer s H args us vs Q E _ => F.run A outer s H args us vs Q E⟩
theorem FnOkG.mono (F : FnOkG P w K mg base CX j f fd ps sp) (h : j ≤ k) : FnOkG P w K mg base CX k f fd ps sp := ⟨F.len, fun A outer s H args us vs Q E hg hr => F.run A outer s H args us vs Q E hg (hr.mono h)⟩
/-- a def's body, run where no repr runs below -/
theorem fnG_of {name qual : Str} {params : Arguments} {body : List Stmt} {scope : Scope} {dV kV doc pm cdv ct oc : Value} {an od : Option Addr} {osl : Array (Option Value)} {N : List Str}
    (lk : K.lookup f = some ⟨oc, od, .func (PySem.W.fnOf name qual params body scope dV kV doc pm an cdv ct), osl⟩) (hcd : PySem.W.codeIn K cdv qual = true) (S : FnScope N ps scope) (len : ∀ vs H Q E, sp vs H Q E → vs.length = ps.length)
    (hbody : ∀ (A : Around) (outer : List Env) (s : Shared) (H : Hp) (vs : List V) (Q : VK) (E : XK), A.guards = some [] → Room k (A.deeper (envOfC qual scope s.heap.objs.size f cdv)) → sp vs H Q E →
      ∃ t, PSs (cxOf CX P w K mg base N qual scope f cdv A outer s H E) body t ∧ t { nx := fun _ H' => Q .non H', rt := Q } (L2.start N vs) H) :
    FnOkG P w K mg base CX (k + 1) f (PySem.W.fnOf name qual params body scope dV kV doc pm an cdv ct) ps sp where
  len := len
  run := fun A outer s H args us vs Q E hG hr e0 hb r hsp => by
    have KX : K.In s.heap := e0.mod.kin.keeps fun b o e => (e0.bs b o e).1
    have lim : s.heap.NoLimit := e0.mod.nolimit.keeps fun b o e => (e0.bs b o e).1
    refine codeAny_call_function hr.depth (KX _ _ lk) rfl S.co S.gen rfl (PySem.W.codeRec_of KX hcd) (hb _ _ _ _ ?_)
    refine wpAny_newFunctionEnv_cells S.kind (fun p hp => ?_) fun env he s1 x => ?_
    · rcases S.par p.1 (List.of_mem_zip hp).1 with q | q
      · exact .inl q
      · exact .inr ⟨q, PySem.W.cellsFrom_some _ _ _ (.inl q)⟩
    · subst he
      obtain ⟨t, ht, hq⟩ := hbody A outer s H vs Q E hG (hr.deeper _) hsp
      have I := inv_start (CX := CX) (qual := qual) (f := f) (cd := cdv) (E := E) S hr.hd e0 (len _ _ _ _ hsp) r x
      refine ⟨lim.keeps x.toInCall.keep, codeAny_func (wpAny_mono (ht.run [] s1 (L2.start N vs) H _ I hq) (fun fl s' hs => ?_) fun e s' hs => hs)⟩
      have fin : ∀ {σ' : St} {H' : Hp} {v : V} {u : Value}, Inv (cxOf CX P w K mg base N qual scope f cdv A outer s H E) [] σ' H' s' → RelV v u → Q v H' → CE outer P w H s Q u s' :=
        fun {σ' H' v u} J rv q => ⟨v, H', J.os, J.bare, J.base, J.hok, rv, q⟩
      cases fl with
      | ret u =>
        obtain ⟨v, σ', H', J, rv, q⟩ := hs
        exact fin J rv q
      | next =>
        obtain ⟨σ', H', J, q⟩ := hs
        exact fin (v := V.non) (u := Value.none) J rfl q
      | brk =>
        obtain ⟨_, _, _, q⟩ := hs
        exact q.elim
      | cont =>
        obtain ⟨_, _, _, q⟩ := hs
        exact q.elim
end
section
variable {P : Program} {w : World} {K : PySem.W.Frag} {mg : Str → Option Value} {base : Heap} {x qual : Str} {params : Arguments} {body : List Stmt} {scope : Scope} {dvs : List V} {kws : List (Str × V)} {f : Addr} {fd : FuncData}
/-- THE RULE of such a def -/
theorem defG_ok {N ps : List Str} {k : Nat} {ios : List Nat} {m : SM} (FD : FunD K x qual params body scope dvs kws f fd) (S : FnScope N ps scope) (hps : ps.length ≤ N.length)
    (hb : ∀ (cdv : Value) (A : Around) (outer : List Env) (s : Shared) (H : Hp) (E : XK), A.guards = some [] → Room k (A.deeper (envOfC qual scope s.heap.objs.size f cdv)) →
      MSs (cxOf (L2.CX P w) P w K mg base N qual scope f cdv A outer s H E) (fun cls d _ H' => E cls d H') body m) : FnOkG P w K mg base (L2.CX P w) (k + 1) f fd ps (spM K mg ps.length ios (mDef N.length ios m)) := by
  obtain ⟨oc, od, dV, kV, doc, pm, an, cdv, ct, osl, rfl, lk, hcd, _, _⟩ := FD.ex
  exact fnG_of lk hcd S (fun vs H Q E h => h.1) fun A outer s H vs Q E hG hr h => ⟨_, hb cdv A outer s H E hG hr, spM_tS hps h⟩
/-- its callers -/
structure CalMG (P : Program) (w : World) (K : PySem.W.Frag) (mg : Str → Option Value) (base : Heap) (k : Nat) (x : Str) (n : Nat) (ios : List Nat) (m : List Sl → DR) : Prop where
  ex : ∃ f fd ps, FnOkG P w K mg base (L2.CX P w) k f fd ps (spM K mg n ios m) ∧ mg x = some (.ref f) ∧ PySem.W.keepIn K (.ref f) = true ∧ Binds K fd ps []
theorem CalMG.of {k n : Nat} {ios : List Nat} {m : List Sl → DR} (c : CalM P w K mg base k x n ios m) : CalMG P w K mg base k x n ios m := by
  obtain ⟨f, fd, ps, FO, h1, h2, h3⟩ := c.ex
  exact ⟨f, fd, ps, .of FO, h1, h2, h3⟩
theorem calMG_of {k n : Nat} {ios : List Nat} {m : List Sl → DR} {ps : List Str} (FO : FnOkG P w K mg base (L2.CX P w) k f fd ps (spM K mg n ios m)) (hm : mg x = some (.ref f)) (hk : PySem.W.keepIn K (.ref f) = true) (hb : Binds K fd ps []) : CalMG P w K mg base k x n ios m := ⟨f, fd, ps, FO, hm, hk, hb⟩
end
section
variable {X : Cx} {CX : CXT} {k : Nat} {f : Addr} {fd : FuncData} {ps : List Str} {sp : Sp} {E : St → XK} {x : Str} {p pos : Pos} {e : Expr} {es : List Expr} {t : TA}
theorem pe_callG (hG : X.A.guards = some []) (F : FnOkG X.prog X.w X.K X.mg X.base CX k f fd ps sp) (hr : Room k X.A) (hg : Gl X x) (hm : X.mg x = some (.ref f)) (hk : PySem.W.keepIn X.K (.ref f) = true) (hb : Binds X.K fd ps []) (hx : ∀ σ, PassesAt CX X σ (E σ))
    (ha : PA X (e :: es) t) (hdb : (x == ("__debug__" : Str)) = false := by decide) (he : starEach (e :: es) X.env = (false, eval e X.env) :: starEach es X.env := by rfl) (hpl : (backTo pos (starEach es X.env)).any (·.1) = false := by rfl) :
    PE X (.Call (.Name x p) (e :: es) [] pos) (tCallSD sp [] E t) := by
  refine ⟨fun pins s σ H Q I h => wpAny_Call_Name_kw (ld_glob I hg hm (PySem.W.callWith_K (h₀ := X.base) I.ok.mod.kin hk (thn (ha.run pos pins s σ H _ I h) fun us s1 ⟨vs, H1, I1, r, q⟩ => ⟨I1.kIn, ?_⟩) he hpl) hdb)⟩
  have q' : sp vs H1 Q (E σ) := by
    have : sp (vs ++ []) H1 Q (E σ) := q
    rwa [List.append_nil] at this
  have hl : (us ++ []).length = ps.length := by
    rw [List.append_nil, ← r.length]
    exact F.len _ _ _ _ q'
  have B := hb s1 us I1.kIn hl
  rw [List.append_nil] at B
  refine wpAny_call (codeAny_mono (F.run X.A X.stack s1 H1 ⟨us, []⟩ us vs Q (E σ) hG hr I1.env0 B r q') fun o s' hq => ?_)
  cases o with
  | error u => exact hx σ pins H1 s1 u s' I1 hq
  | ok fl =>
    cases fl with
    | ret u => exact I1.after hq
    | _ => exact False.elim hq
end
section
variable {X : Cx} {W : WX} {ios : List Nat} {f : List Sl → DR} {ms : AM} {k j n : Nat} {x : Str} {p pos : Pos} {e : Expr} {es : List Expr}
theorem me_callMG (hG : X.A.guards = some []) (c : CalMG X.prog X.w X.K X.mg X.base k x n ios f) (hr : Room j X.A) (hk : k ≤ j) (tk : Takes X W) (hg : Gl X x)
    (ha : MA X W (e :: es) ms) (hml : ∀ ρ vs ρ', ms ρ = .ok vs ρ' → vs.length = (e :: es).length) (hn : (e :: es).length = n := by rfl)
    (hdb : (x == ("__debug__" : Str)) = false := by decide) (he : starEach (e :: es) X.env = (false, eval e X.env) :: starEach es X.env := by rfl) (hpl : (backTo pos (starEach es X.env)).any (·.1) = false := by rfl) :
    ME X W (.Call (.Name x p) (e :: es) [] pos) (mCall ios f [] ms) := by
  obtain ⟨fa, fd, ps, FO, hm, hkp, hb⟩ := c.ex
  refine ME.weak (pe_callG hG FO (hr.mono hk) hg hm hkp hb (fun σ => passAt tk σ) ha hdb he hpl) fun {σ H Q G F ρ} S g => subA S (Gd.bind g fun vs ρ1 F1 H1 xs hms S1 e1 r1 k1 => ?_)
  rw [List.append_nil]
  exact mid_call S1 r1 (by rw [hml ρ vs ρ1 hms]; exact hn) k1
end
end Mi
set_option Elab.async false
set_option linter.all false
set_option maxRecDepth 100000
set_option maxHeartbeats 2000000
/-! Mi, part Gl: a law's end, its def kept where no repr runs below. -/
namespace Mi
open PySem PySem.Spec PyProof.Rows L2 PySem.MiX
section
variable {P : Program} {w : World} {K : PySem.W.Frag} {mg mb : Str → Option Value} {CX : CXT} {k : Nat} {fa a : Addr} {fd : FuncData} {x : Str} {sp : Sp} {s₁ : Shared} {vs : List Value} {ns : List Int} {H : Hp}
/-- from an abstract heap in which nothing but the script may be tracked -/
theorem law_coreG (KX : K.In s₁.heap) (hns : s₁.heap.Ns mainGlobals mg) (hb : s₁.heap.Ns builtinsNs mb) (hbb : ∀ x : Str, x ≠ "__name__" → mb x = bootBuiltins x) (hlim : s₁.heap.NoLimit) (hg : s₁.gens = #[])
    (ha : s₁.heap.get? a = some { cls := .type "list", data := .seq vs.toArray }) (hr : Room k callerA)
    (F : ∀ base : Heap, K.In base → base.Ns mainGlobals mg → FnOkG P w K mg base CX k fa fd [x] sp) (hbind : ∀ (s : Shared) (u : Value), BindsTo s fd ⟨[u], []⟩ [(x, u)])
    (hsp : sp [.ref a] H (fun v _ => v = .bl true) fun _ _ _ => False) (hCX : ∀ H e s', CX [] H s₁ (fun _ _ _ => False) e s' → False)
    (hO : Only H) (hok : HOk P w H s₁.heap) (hA : ∀ b, H b ≠ none → b = a) (hK : H a ≠ none → K.lookup a = none) :
    codeAny (model P w) callerA (.call (.ref fa) ⟨[.ref a], []⟩) (fun r s' => r = .ok (.ret (.bool true)) ∧ OldK s₁.heap s'.heap ∧ s'.os = s₁.os ∧ AllBare s'.gens) s₁ := by
  -- what is tracked is the script alone, a list: dicts and the module's objects lie in the base
  have other : ∀ {b : Addr}, b ≠ a → H b = none := fun {b} hb => by
    cases q : H b with
    | none => rfl
    | some u => exact absurd (hA b (by rw [q]; simp)) hb
  have nsK : ∀ {b : Addr} {m : Str → Option Value}, s₁.heap.Ns b m → (hidT s₁.heap H).Ns b m := fun {b m} h => by
    obtain ⟨o, es, ep, e, d, r⟩ := h
    refine ⟨o, es, ep, hidT_get e (other fun z => ?_), d, r⟩
    subst z
    rw [ha] at e
    cases e
    cases (show Data.seq vs.toArray _ = Data.dict es ep from d)
  have hKb : K.In (hidT s₁.heap H) := fun b o e => hidT_get (KX b o e) (by
    by_cases hb : b = a
    · subst hb
      cases q : H b with
      | none => rfl
      | some u =>
        rw [hK (by rw [q]; simp)] at e
        cases e
    · exact other hb)
  have lim : (hidT s₁.heap H).NoLimit := let ⟨mc, h1, h2⟩ := hlim; ⟨mc, nsK h1, h2⟩
  have e0 : Env0 P w K mg (hidT s₁.heap H) callerA [] s₁ H := ⟨rfl, ⟨hKb, nsK hns, ⟨mb, nsK hb, hbb⟩, lim⟩, fun b o e => of_hidT e, Nat.le_of_eq (hidT_size _ _), trivial, fun b hb => (by cases hb), hok, .of_eq hg⟩
  refine codeAny_mono ((F _ hKb (nsK hns)).run callerA [] s₁ H ⟨[.ref a], []⟩ [.ref a] [.ref a] _ _ rfl hr e0 (hbind s₁ (.ref a)) (.cons rfl .nil) hsp) fun r s' h => ?_
  cases r with
  | error e => exact (hCX H e s' h).elim
  | ok fl =>
    cases fl with
    | ret u =>
      obtain ⟨v, H', os, bare, un, hok', r', q⟩ := h
      obtain rfl : v = .bl true := q
      obtain rfl : u = Value.bool true := r'
      refine ⟨rfl, OldK.of_keep fun b o e => ?_, os, bare⟩
      cases q : H b with
      | none => exact un.keep b o e q (fun z => (by cases z)) (by simp)
      | some t =>
        rcases hO b with z | ⟨ob, xs, z⟩
        · rw [q] at z; cases z
        · obtain ⟨e1, _⟩ := hok b _ z
          obtain ⟨e2, _⟩ := hok' b _ (un.frzs b ob _ z)
          rw [e] at e1
          cases e1
          exact e2
    | _ => exact False.elim h
theorem law_callG (KX : K.In s₁.heap) (hns : s₁.heap.Ns mainGlobals mg) (hb : s₁.heap.Ns builtinsNs mb) (hbb : ∀ x : Str, x ≠ "__name__" → mb x = bootBuiltins x) (hlim : s₁.heap.NoLimit) (hg : s₁.gens = #[])
    (ha : s₁.heap.get? a = some { cls := .type "list", data := .seq vs.toArray }) (hi : IntsAre vs ns) (hl : ns.length ≤ sizeLine) (hr : Room k callerA)
    (F : ∀ base : Heap, K.In base → base.Ns mainGlobals mg → FnOkG P w K mg base CX k fa fd [x] sp) (hbind : ∀ (s : Shared) (u : Value), BindsTo s fd ⟨[u], []⟩ [(x, u)])
    (hsp : ∀ H : Hp, Only H → SqL K H a (ns.map V.int) → sp [.ref a] H (fun v _ => v = .bl true) fun _ _ _ => False) (hCX : ∀ H e s', CX [] H s₁ (fun _ _ _ => False) e s' → False) :
    codeAny (model P w) callerA (.call (.ref fa) ⟨[.ref a], []⟩) (fun r s' => r = .ok (.ret (.bool true)) ∧ OldK s₁.heap s'.heap ∧ s'.os = s₁.os ∧ AllBare s'.gens) s₁ := by
  have rv := vals_ints hi
  have lenV := hi.length
  cases hk : K.lookup a with
  | some o =>
    have e := KX a o hk
    rw [ha] at e
    cases e
    have O0 : Only (fun _ : Addr => (none : Option HO)) := fun _ => .inl rfl
    refine law_coreG (H := fun _ => none) KX hns hb hbb hlim hg ha hr F hbind (hsp _ O0 (.inr ⟨_, vs.toArray, _, hk, rfl, rfl, rfl, ?_, ?_⟩)) hCX O0 (fun b u z => ?_) (fun b z => absurd rfl z) fun z => absurd rfl z
    · rw [List.size_toArray, lenV]; exact hl
    · simpa using rv
    · cases (show (none : Option HO) = some u from z)
  | none =>
    let o : Obj := { cls := .type "list", data := .seq vs.toArray }
    let H : Hp := fun b => if b = a then some (.frz o (.lst (ns.map V.int))) else none
    have Ha : H a = some (.frz o (.lst (ns.map V.int))) := if_pos rfl
    have Hn : ∀ {b : Addr}, b ≠ a → H b = none := fun hb => if_neg hb
    have O1 : Only H := fun b => by
      by_cases hb : b = a
      · exact .inr ⟨_, _, by rw [hb]; exact Ha⟩
      · exact .inl (Hn hb)
    refine law_coreG (H := H) KX hns hb hbb hlim hg ha hr F hbind (hsp _ O1 (.inl (.inr ⟨o, Ha⟩))) hCX O1 (fun b u z => ?_) (fun b z => ?_) fun _ => hk
    · by_cases hb : b = a
      · subst hb
        rw [Ha] at z
        cases z
        exact ⟨ha, by rw [List.length_map]; exact hl, vs, _, rv, ha⟩
      · rw [Hn hb] at z
        cases z
    · exact Classical.byContradiction fun hb => z (Hn hb)
end
theorem walk_ofG {l : PySem.W.OpenLaw} {n k : Nat} {q : Program} {loose : List Str} {XP : (Str → Option Value) → Heap → Prop} {YP : World → Heap → Prop} {d : DefRec} {CX : CXT} {x : Str}
    (hn : l.most = some n) (hn2 : n ≤ sizeLine) (hdf : d.params.defaults = []) (hr : Room k callerA)
    (F : ∀ (w : World) (mg : Str → Option Value) (fa : Addr) (h : Heap), YP w h → h.Ns mainGlobals mg → mg d.name = some (.ref fa) →
      ∃ (K : PySem.W.Frag) (fd : FuncData) (sp : Sp), K.In h ∧ (∀ (s : Shared) (u : Value), BindsTo s fd ⟨[u], []⟩ [(x, u)]) ∧
        (∀ (H : Hp) (a : Addr) (ns : List Int), ns.length ≤ n → Only H → SqL K H a (ns.map V.int) → sp [.ref a] H (fun v _ => v = .bl true) fun _ _ _ => False) ∧
        ∀ base : Heap, K.In base → base.Ns mainGlobals mg → FnOkG l.prog w K mg base CX k fa fd [x] sp)
    (hCX : ∀ (H : Hp) (s : Shared) (e : Value) (s' : Shared), CX [] H s (fun _ _ _ => False) e s' → False) :
    PySem.W.WalkO q loose XP YP l.row.toRowW d [] (fun f vs => PySem.call f vs) := by
  refine Att.attach_call hn hdf fun w s₀ s₁ mg mb fa o pm cd doc a vs ns G Y ho hd hcd hmg hobj hints hlen hg => ?_
  obtain ⟨K, fd, sp, KX, hb, hsp, hF⟩ := F w mg fa _ Y G.T.g hmg
  exact law_callG KX G.T.g G.T.b G.T.builtins G.T.nolimit hg hobj hints (Nat.le_trans hlen hn2) hr hF hb (fun H hO hS => hsp H a ns hlen hO hS) fun H e s' => hCX H s₁ e s'
theorem fnokG_wide {P : Program} {w : World} {K : PySem.W.Frag} {mg : Str → Option Value} {base : Heap} {k : Nat} {f : Addr} {fd : FuncData} {ps : List Str} {sp : Sp} (F : FnOkG P w K mg base (L2.CX P w) k f fd ps sp) : FnOkG P w K mg base (CXU P) k f fd ps sp where
  len := F.len
  run := fun A outer s H args us vs Q E hG hr he hb hv hs => codeAny_mono (F.run A outer s H args us vs Q E hG hr he hb hv hs) fun r s' z => by
    cases r with
    | error e => exact ⟨w, z⟩
    | ok fl => cases fl <;> exact z
theorem fnokG_as {P : Program} {w : World} {K : PySem.W.Frag} {mg : Str → Option Value} {base : Heap} {k n : Nat} {ios : List Nat} {m m' : List Sl → DR} {f : Addr} {fd : FuncData} {ps : List Str} (e : m = m') (FO : FnOkG P w K mg base (L2.CX P w) k f fd ps (spM K mg n ios m)) : FnOkG P w K mg base (L2.CX P w) k f fd ps (spM K mg n ios m') := e ▸ FO
end Mi
set_option Elab.async false
set_option linter.all false
set_option maxRecDepth 100000
set_option maxHeartbeats 4000000
/-! Mi, part Df: defs as values. -/
namespace Mi
open PySem PySem.Spec PyProof.Rows L2 PySem.MiX
/-- the name of a def -/
def mFn (x : Str) : EM := mC (.fn x)
theorem me_fn {X : Cx} {W : WX} {x : Str} {pos : Pos} {f : Addr} (hm : X.mg x = some (.ref f)) (hg : Gl X x) (hd : (x == ("__debug__" : Str)) = false := by decide) : ME X W (.Name x pos) (mFn x) :=
  x_glob (v := .ref f) ⟨.ref f, hm, rfl⟩ hg (fun F => .fn hm) hd
/-- a call of a slot that holds the def named y -/
def mCallV (i : Nat) (y : Str) (ios : List Nat) (f : List Sl → DR) (ms : AM) : EM := fun ρ => match ρ[i]? with
  | some (.val (.fn z)) => if z = y then mCall ios f [] ms ρ else .bad
  | _ => .bad
section
variable {K : PySem.W.Frag} {mg : Str → Option Value} {W : WX} {F H : Hp} {G : Gh} {σ : L2.St} {ρ : En} {Q : VK}
theorem call_wish {ios : List Nat} {f : List Sl → DR} {dv : List D} {dvs : List V} {ms : AM} {n l : Nat} (rd : ∀ F, RpA K mg F dvs dv) (hn : l + dvs.length = n) (hml : ∀ ρ vs ρ', ms ρ = .ok vs ρ' → vs.length = l)
    (S : Sat K mg G F H σ ρ) (k : Gd K mg W (RpO K mg) G F σ (mCall ios f dv ms ρ) Q) : tCallSD (spM K mg n ios f) dvs (fun σ cls d H => W cls d σ H) (tA K mg W ms) σ H Q := by
  have k' : Gd K mg W (RpO K mg) G F σ ((ms ρ).bind fun vs ρ => match toArgs vs ρ with
    | some as => if ioPos vs 0 = ios ∧ (ioSl vs).Nodup then (match f (as ++ dv.map .val) with
      | .ok r os => .ok (rvOV r) (putO (ioSl vs) os ρ)
      | .ex x os => .ex x (putO (ioSl vs) os ρ)
      | .bad => .bad) else .bad
    | none => .bad) Q := k
  refine subA S (Gd.bind k' fun vs ρ1 F1 H1 xs hms S1 e1 r1 k1 => ?_)
  cases q : toArgs vs ρ1 with
  | none =>
    rw [q] at k1
    exact k1.elim
  | some as =>
    rw [q] at k1
    dsimp only at k1
    by_cases hc : ioPos vs 0 = ios ∧ (ioSl vs).Nodup
    · rw [if_pos hc] at k1
      obtain ⟨c1, c2⟩ := hc
      subst c1
      refine ⟨?_, F1, as ++ dv.map .val, S1.fh, S1.args r1 (rd F1) q c2, ?_⟩
      · rw [List.length_append, r1.len, hml ρ vs ρ1 hms]
        exact hn
      · cases q2 : f (as ++ dv.map .val) with
        | bad =>
          rw [q2] at k1
          exact k1.elim
        | ok r os =>
          rw [q2] at k1
          intro F2 H2 y A rr
          have S2 := S1.back r1 q c2 A
          refine k1 F2 H2 y S2 A.ff ?_
          cases rr with
          | v r => exact .d r
          | w h1 h2 h3 =>
            rename_i a o
            refine .n h1 h2 ((S1.fresh0 h3).symm) fun j hj hs => ?_
            obtain ⟨b, io, w, q3, b1, b2, b3⟩ := S2.owAt hj
            rw [hs] at b1
            cases b1
            -- a was no object ahead of the call, what a slot holds was one
            have : isOw ρ1[j]? = true := by
              by_cases hm2 : j ∈ ioSl vs
              · obtain ⟨n3, hn3⟩ := List.mem_iff_getElem?.mp hm2
                obtain ⟨ll, at_⟩ := io_at (vs := vs) (b := 0) (n := n3)
                have hlt := (List.getElem?_eq_some_iff.mp hn3).1
                obtain ⟨i, e0, hv⟩ := at_ _ _ (List.getElem?_eq_getElem (by omega)) hn3
                rcases toArgs_get q hv with ⟨d, e2, _⟩ | ⟨j', t, w', e2, h1', _⟩
                · cases e2
                · cases e2
                  rw [h1']
                  rfl
              · rw [putO_out hm2] at hj
                exact hj
            obtain ⟨c, io', w', q4, d1, d2, d3⟩ := S1.owAt this
            rw [hs] at d1
            cases d1
            obtain ⟨u, hu⟩ := d3.at
            rw [h3] at hu
            cases hu
        | ex y os =>
          rw [q2] at k1
          intro F2 H2 C d fs hC A hd2 rf
          exact k1 F2 H2 C d fs hC (S1.back r1 q c2 A) A.ff hd2 rf
    · rw [if_neg hc] at k1
      exact k1.elim
end
section
variable {X : Cx} {CX : CXT} {k i : Nat} {f : Addr} {fd : FuncData} {ps : List Str} {sp : Sp} {dvs : List V} {ds : List Value} {E : L2.St → XK} {x : Str} {p pos : Pos} {e : Expr} {es : List Expr} {t : TA}
def tCallLD (i : Nat) (f : Addr) (sp : Sp) (dvs : List V) (E : L2.St → XK) (t : TA) : TE := fun σ H Q => σ[i]? = some (some (.ref f)) ∧ tCallSD sp dvs E t σ H Q
theorem pe_callLD (F : FnOk X.prog X.w X.K X.mg X.base CX k f fd ps sp) (hr : Room k X.A) (hN : X.N[i]? = some x) (hv : Vis X.env.scope x) (hk : PySem.W.keepIn X.K (.ref f) = true) (hb : Binds X.K fd ps ds) (hd : Vals dvs ds) (hx : ∀ σ, PassesAt CX X σ (E σ)) (ha : PA X (e :: es) t)
    (hdb : (x == ("__debug__" : Str)) = false := by decide) (hcd : (x == ("__classdict__" : Str)) = false := by decide)
    (he : starEach (e :: es) X.env = (false, eval e X.env) :: starEach es X.env := by rfl) (hpl : (backTo pos (starEach es X.env)).any (·.1) = false := by rfl) : PE X (.Call (.Name x p) (e :: es) [] pos) (tCallLD i f sp dvs E t) := by
  refine ⟨fun pins s σ H Q I h => ?_⟩
  obtain ⟨hs, ht⟩ := h
  refine wpAny_Call_Name_kw (thn ((pe_var (pos := p) hN hv hdb hcd).run pins s σ H (fun v H1 => v = .ref f ∧ H1 = H) I ⟨.ref f, hs, rfl, rfl⟩) fun u s1 ⟨v, H1, I1, r1, q1⟩ => ?_)
  obtain ⟨rfl, rfl⟩ := q1
  cases r1
  refine PySem.W.callWith_K (h₀ := X.base) I.ok.mod.kin hk (thn (ha.run pos pins s1 σ _ _ I1 ht) fun us s2 ⟨vs, H2, I2, r, q⟩ => ⟨I2.kIn, ?_⟩) he hpl
  exact run_fnSD F hr hb hd (hx σ) I2 r q
theorem me_callV {W : WX} {ios : List Nat} {g : List Sl → DR} {ms : AM} {j n : Nat} {y : Str} (c : CalM X.prog X.w X.K X.mg X.base k y n ios g) (hr : Room j X.A) (hk : k ≤ j) (tk : Takes X W) (i : Nat) (hN : X.N[i]? = some x)
    (ha : MA X W (e :: es) ms) (hml : ∀ ρ vs ρ', ms ρ = .ok vs ρ' → vs.length = (e :: es).length) (hn : (e :: es).length = n := by rfl)
    (hv : Vis X.env.scope x := by first | exact Or.inl rfl | exact Or.inr (Or.inl rfl) | exact Or.inr (Or.inr rfl))
    (hdb : (x == ("__debug__" : Str)) = false := by decide) (hcd : (x == ("__classdict__" : Str)) = false := by decide) (he : starEach (e :: es) X.env = (false, eval e X.env) :: starEach es X.env := by rfl) (hpl : (backTo pos (starEach es X.env)).any (·.1) = false := by rfl) :
    ME X W (.Call (.Name x p) (e :: es) [] pos) (mCallV i y ios g ms) := by
  obtain ⟨fa, fd, ps, FO, hm, hkp, hb⟩ := c.ex
  exact ME.weak (pe_callLD (i := i) FO (hr.mono hk) hN hv hkp hb .nil (fun σ => passAt tk σ) ha hdb hcd he hpl) fun {σ H Q G F ρ} S k => by
    have k0 : ρ[i]? = some (.val (.fn y)) ∧ Gd X.K X.mg W (RpO X.K X.mg) G F σ (mCall ios g [] ms ρ) Q := by
      unfold mCallV at k
      cases q : ρ[i]? with
      | none => rw [q] at k; exact k.elim
      | some sl =>
        rw [q] at k
        cases sl with
        | val d =>
          cases d with
          | fn z =>
            dsimp only at k
            by_cases c : z = y
            · rw [if_pos c] at k
              subst c
              exact ⟨rfl, k⟩
            · rw [if_neg c] at k
              exact k.elim
          | _ => exact k.elim
        | _ => exact k.elim
    obtain ⟨hsl, k⟩ := k0
    refine ⟨?_, call_wish (fun _ => .nil) (by simpa using hn) hml S k⟩
    obtain ⟨u, h1, h2⟩ := S.val i _ hsl
    cases h2 with
    | fn h => rw [hm] at h; cases h; exact h1
end
end Mi
set_option Elab.async false
set_option linter.all false
set_option maxRecDepth 100000
set_option maxHeartbeats 4000000
/-! Mi, part Di: dicts whose keys are tuples of ints and texts. -/
namespace Mi
open PySem PySem.Spec PyProof.Rows L2 PySem.MiX
/-- a key's parts -/
def keyB : OB → Option Key
  | .d x => keyD x
  | .o _ => none
def keysB : List OB → Option (List Key)
  | [] => some []
  | v :: vs => match keyB v with
    | some k => (keysB vs).map (k :: ·)
    | none => none
def lookT (kvs : List (List Key × D)) (k : List Key) : Option D := (kvs.find? fun kv => decide (kv.1 = k)).map (·.2)
section
variable {K : PySem.W.Frag} {mg : Str → Option Value} {F H : Hp} {σ : L2.St}
theorem keysB_V : ∀ {xs : List V} {vs : List OB} {ks : List Key}, RpBs K mg F σ xs vs → keysB vs = some ks → xs = ks.map kV
  | _, _, _, .nil, h => by
    cases h
    rfl
  | _, v :: vs, ks, .cons r t, h => by
    unfold keysB at h
    cases q : keyB v with
    | none =>
      rw [q] at h
      cases h
    | some k =>
      rw [q] at h
      dsimp only at h
      obtain ⟨k2, h1, rfl⟩ := Option.map_eq_some_iff.mp h
      cases r with
      | d r =>
        have e := keyD_V r q
        rw [e, keysB_V t h1]
        rfl
      | o _ => cases q
theorem RpT.any (k : List Key) : ∀ {vs : List (List Key × V)} {ds : List (List Key × D)}, RpT K mg F vs ds → (vs.any fun kv => decide (kv.1 = k)) = (ds.any fun kv => decide (kv.1 = k))
  | _, _, .nil => rfl
  | _, _, .cons _ t => by
    rw [List.any_cons, List.any_cons, RpT.any k t]
theorem RpT.mapSet {v : V} {d : D} (k : List Key) (r : Rp K mg F v d) : ∀ {vs : List (List Key × V)} {ds : List (List Key × D)}, RpT K mg F vs ds → RpT K mg F (vs.map fun kv => if kv.1 = k then (kv.1, v) else kv) (ds.map fun kv => if kv.1 = k then (kv.1, d) else kv)
  | _, _, .nil => .nil
  | (j, x) :: vs, (_, y) :: ds, .cons q t => by
    rw [List.map_cons, List.map_cons]
    by_cases e : j = k
    · rw [if_pos e, if_pos e]
      exact .cons r (RpT.mapSet k r t)
    · rw [if_neg e, if_neg e]
      exact .cons q (RpT.mapSet k r t)
theorem RpT.app {vs ws : List (List Key × V)} {ds es : List (List Key × D)} : RpT K mg F vs ds → RpT K mg F ws es → RpT K mg F (vs ++ ws) (ds ++ es)
  | .nil, s => s
  | .cons r t, s => .cons r (RpT.app t s)
theorem RpT.put {v : V} {d : D} (k : List Key) (r : Rp K mg F v d) {vs : List (List Key × V)} {ds : List (List Key × D)} (t : RpT K mg F vs ds) : RpT K mg F (putK vs k v) (putD ds k d) := by
  unfold putK putD
  rw [RpT.any k t]
  by_cases e : (ds.any fun kv => decide (kv.1 = k)) = true
  · rw [if_pos e, if_pos e]
    exact RpT.mapSet k r t
  · rw [if_neg e, if_neg e]
    exact t.app (.cons r .nil)
theorem RpT.look (k : List Key) : ∀ {vs : List (List Key × V)} {ds : List (List Key × D)}, RpT K mg F vs ds → (lookT ds k = none ∧ valV vs k = none) ∨ ∃ v d, lookT ds k = some d ∧ valV vs k = some v ∧ Rp K mg F v d
  | _, _, .nil => .inl ⟨rfl, rfl⟩
  | (j, x) :: vs, (_, y) :: ds, .cons q t => by
    by_cases e : j = k
    · refine .inr ⟨x, y, ?_, valV_pos (p := (j, x)) e, q⟩
      unfold lookT
      rw [List.find?_cons]
      simp [e]
    · have h1 : valV ((j, x) :: vs) k = valV vs k := valV_neg (p := (j, x)) e
      have h2 : lookT ((j, y) :: ds) k = lookT ds k := by
        unfold lookT
        rw [List.find?_cons]
        simp [e]
      rw [h1, h2]
      exact RpT.look k t
theorem ext_heap {p : Addr} {u : HO} (e : Same F H) (hp : H p = none) : Ext F H F (upd H p u) :=
  ⟨Same.refl _, same_upd hp, fun b o q => same_upd hp _ _ (e _ _ q), fun _ _ q => .inl q⟩
end
/-- d[k1, k2] -/
def mGetT (md : EM) (mk : AM) : EM := fun ρ => (md ρ).bind fun v ρ => (mk ρ).bind fun vs ρ => match keysB vs with
  | some ks => if ks.length ≤ BIG then (match v.fz.get ρ with
    | some (.dt kvs) => rz (lookT kvs ks) ρ
    | _ => .bad) else .bad
  | none => .bad
section
variable {X : Cx} {W : WX} {pos : Pos}
theorem me_getT {o : Expr} {es : List Expr} {md : EM} {mk : AM} {x1} {tp : Pos} (hu : X.A.units + 1 < cLine) (ho : ME X W o md) (hk : MA X W es mk) (hs : NoSl (.Tuple es x1 tp) := by intro _ _; rfl) : ME X W (.Subscript o (.Tuple es x1 tp) pos) (mGetT md mk) :=
  ME.weak (pe_dget hu ho (pe_tup hk) hs) fun {σ H Q G F ρ} S k => sub S (Gd.opd (f := fun v ρ => (mk ρ).bind fun vs ρ => match keysB vs with
    | some ks => if ks.length ≤ BIG then (match v.get ρ with
      | some (.dt kvs) => rz (lookT kvs ks) ρ
      | _ => .bad) else .bad
    | none => .bad) k fun v ρ1 F1 H1 x S1 e1 r1 k1 => subA S1 (Gd.bind k1 fun vs ρ2 F2 H2 xs _ S2 e2 r2 k2 => by
      cases q : keysB vs with
      | none =>
        rw [q] at k2
        exact k2.elim
      | some ks =>
        rw [q] at k2
        dsimp only at k2
        by_cases hz : ks.length ≤ BIG
        · rw [if_pos hz] at k2
          have e := keysB_V r2 q
          subst e
          refine ⟨by rw [List.length_map]; exact Nat.le_trans hz BIG_le, fun p hp => ?_⟩
          cases q2 : v.get ρ2 with
          | none =>
            rw [q2] at k2
            exact k2.elim
          | some d =>
            rw [q2] at k2
            cases d with
            | dt kvs =>
              dsimp only at k2
              obtain ⟨a, vs2, rfl, h1, h2⟩ := (S2.get (r1.mono e2) q2).dt S2.fh
              have ex := ext_heap (u := HO.tup (ks.map kV)) S2.fh hp
              have hpa : (upd H2 p (.tup (ks.map kV))) a = some (.dT vs2) := ex.hh _ _ h1
              rcases h2.look ks with ⟨l1, l2⟩ | ⟨w, dd, l1, l2, rr⟩
              · rw [l1] at k2
                exact k2.elim
              · rw [l1] at k2
                refine ⟨a, w, rfl, ?_, k2 F2 _ w (S2.ext ex) (Same.refl _) (.d rr)⟩
                rw [← l2]
                exact DGet.t hpa upd_same
            | _ => exact k2.elim
        · rw [if_neg hz] at k2
          exact k2.elim))
/-- {}, for keys that are tuples -/
def mDtNew : EM := fun ρ => .ok (.n (.dt [])) ρ
theorem me_dtNew : ME X W (.Dict [] [] pos) mDtNew :=
  ME.weak pe_dnewT fun {σ H Q G F ρ} S g p hp => by
    obtain ⟨S3, r3⟩ := S.newOwn hp (OwOk.dt (upd_same (H := H) (a := p) (o := HO.dT [])) .nil)
    exact g _ _ _ S3 (Same.refl _) r3
/-- d[k1, k2] = e -/
def mPutT (s : Nat) (mk : AM) (me : EM) : SM := fun ρ => (me ρ).st fun v ρ => match esc v.fz ρ with
  | some (d, ρ) => if isOw ρ[s]? then (mk ρ).st fun vs ρ => (match keysB vs with
    | some ks => if ks.length ≤ BIG then (match ρ[s]? with
      | some (.own io (.dt kvs)) => if kvs.length < BIG then .nx (ρ.set s (.own io (.dt (putD kvs ks d)))) else .bad
      | _ => .bad) else .bad
    | none => .bad) else .bad
  | none => .bad
theorem ms_putT {s : Nat} {x : Str} {e : Expr} {es : List Expr} {mk : AM} {me : EM} {px pos' tp : Pos} {x1} (hu : X.A.units + 1 < cLine) (hx : PE X (.Name x px) (tVar s)) (hk : MA X W es mk) (he : ME X W e me)
    (hs : swapsWith e (some (.Subscript (.Name x px) (.Tuple es x1 tp) pos')) pos.line X.env = pure false := by rfl) : MS X W (.Assign [.Subscript (.Name x px) (.Tuple es x1 tp) pos'] e pos) (mPutT s mk me) :=
  MS.weak (ps_dput hu hx (pe_tup hk) he hs) fun {σ H D G F ρ} S k => sub S (Gd.st k fun v ρ1 F1 H1 x1 S1 e1 r1 k1 => by
    obtain ⟨F2, e2, S2, r2⟩ := S1.fz r1
    cases q1 : esc v.fz ρ1 with
    | none =>
      rw [q1] at k1
      exact k1.elim
    | some p =>
      obtain ⟨d, ρ2⟩ := p
      rw [q1] at k1
      dsimp only at k1
      obtain ⟨F3, e3, S3, r3⟩ := S2.esc r2 q1
      by_cases ho : isOw ρ2[s]? = true
      · rw [if_pos ho] at k1
        have k3 := SGd.mono (e2.trans e3) k1
        obtain ⟨a, io0, w0, _, ha, _⟩ := S3.owAt ho
        refine ⟨_, ha, subA S3 (Gd.st k3 fun vs ρ3 F4 H4 xs S4 e4 r4 k4 => ?_)⟩
        cases q3 : keysB vs with
        | none =>
          rw [q3] at k4
          exact k4.elim
        | some ks =>
          rw [q3] at k4
          dsimp only at k4
          by_cases hy : ks.length ≤ BIG
          · rw [if_pos hy] at k4
            have e := keysB_V r4 q3
            subst e
            refine ⟨by rw [List.length_map]; exact Nat.le_trans hy BIG_le, fun p hp => ?_⟩
            have ex := ext_heap (u := HO.tup (ks.map kV)) S4.fh hp
            have S5 := S4.ext ex
            cases q4 : ρ3[s]? with
            | none =>
              rw [q4] at k4
              exact k4.elim
            | some sl =>
              rw [q4] at k4
              cases sl with
              | own io w =>
                cases w with
                | dt kvs =>
                  dsimp only at k4
                  by_cases hz : kvs.length < BIG
                  · rw [if_pos hz] at k4
                    obtain ⟨b, b1, b2, b3, b4⟩ := S5.own s io _ q4
                    rw [ha] at b1
                    cases b1
                    cases b3 with
                    | dt hH rA =>
                      rename_i vs
                      refine ⟨a, _, rfl, DPut.t hH upd_same (by rw [rA.len]; exact Nat.lt_of_lt_of_le hz BIG_le), ?_⟩
                      exact k4 F4 _ σ (S5.upd q4 ha (.dt upd_same (rA.put ks (r3.mono e4)))) (Same.refl _)
                  · rw [if_neg hz] at k4
                    exact k4.elim
                | _ => exact k4.elim
              | _ => exact k4.elim
          · rw [if_neg hy] at k4
            exact k4.elim
      · rw [if_neg ho] at k1
        exact k1.elim)
end
/-! ### {(i, j): x} with written parts -/
def tDispT1 (tk tv : TE) : TE := fun σ H Q => ∀ p, H p = none → tk σ (upd H p (.dT [])) fun x H1 => tv σ H1 fun y H2 => H2 p = some (.dT []) ∧ ∃ b k, x = .ref b ∧ H2 b = some (.tup (k.map kV)) ∧ Q (.ref p) (upd H2 p (.dT [(k, y)]))
theorem VV.one {x y : V} {ws : List (Value × Value)} (r : VV [(x, y)] ws) : ∃ u w, ws = [(u, w)] ∧ RelV x u ∧ RelV y w := by
  cases r with
  | @cons p q ps qs h t =>
    cases t
    exact ⟨q.1, q.2, rfl, h.1, h.2⟩
theorem pe_dispT1 {X : Cx} {pos : Pos} {k v : Expr} {tk tv : TE} (hu : X.A.units + 1 < cLine) (hk : PE X k tk) (hv : PE X v tv) : PE X (.Dict [some k] [v] pos) (tDispT1 tk tv) := by
  refine ⟨fun pins s σ H Q I q => ?_⟩
  have hn := I.hok.fresh (Nat.le_refl s.heap.objs.size)
  have I1 := I.laid (a := s.heap.objs.size) (o := .dT []) (h' := s.heap.push { cls := .type "dict", data := .dict #[] }) (t' := s.toks) (fun _ _ q => Heap.get?_push_of_some _ q) (Nat.le_refl _) (dt_empty s.heap I.big)
  rw [arm_eval_Dict, zip_pairTrees [some k] [v] X.env pos rfl rfl, dictDisplay_pairs (pairTrees [some k] [v] X.env pos) (fun e => nomatch e) (by show 1 < 17; omega)]
  refine wpAny_bind (wpAny_standAt (wpAny_bind (wpAny_subDictH (knd := tupleKind (mixKind X.prog X.w)) (by show X.A.units < cLine; omega) (by show 1 ≤ 15; omega) ?_)))
  refine thn ((pps_cons hk hv pps_nil).run pins _ σ _ (fun ps H2 => match ps with
    | [(x, y)] => H2 s.heap.objs.size = some (.dT []) ∧ ∃ b k, x = .ref b ∧ H2 b = some (.tup (k.map kV)) ∧ Q (.ref s.heap.objs.size) (upd H2 s.heap.objs.size (.dT [(k, y)]))
    | _ => False) I1 (q _ hn)) fun ws s2 ⟨ps, H2, I2, rel, q3⟩ => ?_
  match ps, rel, q3 with
  | [(x, y)], rel, q3 =>
    obtain ⟨e, b, kk, ex, eb, q2⟩ := q3
    subst ex
    obtain ⟨u, w, rfl, h1, h2⟩ := VV.one rel
    cases (show u = Value.ref b from h1)
    obtain ⟨z, hd, xs, rel, dd⟩ := dt_of I2.hok e
    cases rel
    refine ⟨[(kk, b, w)], ⟨rfl, rfl, key_of I2.hok eb, True.intro⟩, dd, fun h' tk dd' hs => wpAny_pure ⟨.ref s.heap.objs.size, _, ?_, rfl, q2⟩⟩
    obtain ⟨q, es, ep, hq, h2', h3, h4, _, h5⟩ := dd'
    have hne : b ≠ s.heap.objs.size := fun z => by
      rw [z, e] at eb
      cases eb
    refine d_write I2 (by rw [e]; exact True.intro) hs ⟨q, hq⟩ ⟨by show 1 ≤ sizeLine; rw [sizeLine_eq]; omega, hd, [(kk, b, w)], .cons ⟨rfl, by rw [upd_ne hne]; exact eb, h2⟩ .nil, q, es, ep, hq, h2', h3, h4, h5⟩
  | [], _, q3 => exact q3.elim
  | _ :: _ :: _, _, q3 => exact q3.elim
def mDispT (i j : Int) (x : Str) : EM := fun ρ => .ok (.n (.dt [([.inl i, .inl j], .str x)])) ρ
theorem me_dispT {X : Cx} {W : WX} {pos p1 p2 p3 p4 : Pos} {i j : Int} {x : Str} {k1 k2 k3 x1} (hu : X.A.units + 1 < cLine) :
    ME X W (.Dict [some (.Tuple [.Constant (.int i) k1 p1, .Constant (.int j) k2 p2] x1 p3)] [.Constant (.str x) k3 p4] pos) (mDispT i j x) :=
  ME.weak (pe_dispT1 hu (pe_tup (pa_cons pe_int (pa_cons pe_int pa_nil rfl) rfl)) pe_str) fun {σ H Q G F ρ} S g p hp => by
    refine ⟨by show 2 ≤ sizeLine; rw [sizeLine_eq]; omega, fun b hb => ?_⟩
    have hne : b ≠ p := fun z => by
      rw [z, upd_same] at hb
      cases hb
    have hb' : H b = none := by
      rw [upd_ne hne] at hb
      exact hb
    refine ⟨by rw [upd_ne (Ne.symm hne)]; exact upd_same, b, [.inl i, .inl j], rfl, upd_same, ?_⟩
    have e1 : upd (upd (upd H p (.dT [])) b (.tup [.int i, .int j])) p (.dT [([.inl i, .inl j], .str x)]) = upd (upd H b (.tup [.int i, .int j])) p (.dT [([.inl i, .inl j], .str x)]) := by
      funext c
      by_cases h1 : c = p
      · subst h1
        rw [upd_same, upd_same]
      · rw [upd_ne h1, upd_ne h1]
        by_cases h2 : c = b
        · subst h2
          rw [upd_same, upd_same]
        · rw [upd_ne h2, upd_ne h2, upd_ne h1]
    have S1 := S.ext (ext_heap (u := HO.tup [.int i, .int j]) S.fh hb')
    have hp1 : upd H b (.tup [.int i, .int j]) p = none := by
      rw [upd_ne (Ne.symm hne)]
      exact hp
    obtain ⟨S3, r3⟩ := S1.newOwn hp1 (OwOk.dt (ds := [([.inl i, .inl j], .str x)]) (upd_same (o := HO.dT [([.inl i, .inl j], .str x)])) (.cons (.str x) .nil))
    show Q (.ref p) (upd (upd (upd H p (.dT [])) b (.tup [.int i, .int j])) p (.dT [([.inl i, .inl j], .str x)]))
    rw [e1]
    exact g _ _ _ S3 (Same.refl _) r3
end Mi
set_option Elab.async false
set_option linter.all false
set_option maxRecDepth 100000
set_option maxHeartbeats 4000000
/-! Mi, part Ky: min(texts, key=f) where f tells the pair of a text's length and the text. -/
namespace Mi
open PySem PySem.Spec PyProof.Rows L2 PySem.MiX

/-! ### a heap cut back to what was there and tuples -/
def cutH (H1 H2 : Hp) : Hp := fun c => match H1 c with
  | some _ => H2 c
  | none => match H2 c with
    | some (.tup ys) => some (.tup ys)
    | _ => none
section
variable {H1 H2 : Hp} {c : Addr} {u : HO}
theorem cutH_old (e : Same H1 H2) (h : H1 c = some u) : cutH H1 H2 c = some u := by
  unfold cutH
  rw [h]
  exact e _ _ h
theorem cutH_tup {ys : List V} (h : H2 c = some (.tup ys)) : cutH H1 H2 c = some (.tup ys) := by
  unfold cutH
  cases q : H1 c with
  | none => rw [h]
  | some u => exact h
theorem cutH_none (h : H2 c = none) : cutH H1 H2 c = none := by
  unfold cutH
  cases q : H1 c with
  | none => rw [h]
  | some u => exact h
theorem cutH_cases (e : Same H1 H2) (h : cutH H1 H2 c = some u) : H2 c = some u ∧ (H1 c = some u ∨ (H1 c = none ∧ ∃ ys, u = .tup ys)) := by
  unfold cutH at h
  cases q : H1 c with
  | none =>
    rw [q] at h
    dsimp only at h
    cases q2 : H2 c with
    | none =>
      rw [q2] at h
      cases h
    | some w =>
      rw [q2] at h
      cases w <;> first | (cases h; done) | (cases h; exact ⟨rfl, .inr ⟨rfl, _, rfl⟩⟩)
  | some w =>
    rw [q] at h
    dsimp only at h
    have := e _ _ q
    rw [h] at this
    cases this
    exact ⟨h, .inl rfl⟩
theorem cut_obj {P : Program} {w : World} {h1 h2 : Heap} {a : Addr} (e : Same H1 H2) : ∀ (u : HO), ObjOk P w H1 h1 a u → ObjOk P w H2 h2 a u → ObjOk P w (cutH H1 H2) h2 a u
  | .lst _, _, x => x
  | .tup _, _, x => x
  | .dK _, _, x => x
  | .dT _, _, x => by
    obtain ⟨z, y, xs, r, o, es, ep, t⟩ := x
    exact ⟨z, y, xs, Paired.mapP r fun p q k => ⟨k.1, cutH_tup k.2.1, k.2.2⟩, o, es, ep, t⟩
  | .set _ _, _, x => x
  | .ins _ _ _, y, x => by
    obtain ⟨h, t⟩ := x
    exact ⟨cutH_old e y.1, t⟩
  | .own _, _, x => x
  | .xd _, _, x => x
  | .met _ _, _, x => x
  | .rng _ _, _, x => x
  | .frz o u, y, x => ⟨x.1, cut_obj e u y.2 x.2⟩
  | .tbl _, _, x => x
  | .ext _, _, x => x
end
section
variable {X : Cx} {pins : List (Addr × Obj)} {σ : L2.St} {H H1 H2 : Hp} {s s' : Shared}
theorem Inv.cut (I1 : Inv X pins σ H1 s) (I2 : Inv X pins σ H2 s') (e : Same H1 H2) : Inv X pins σ (cutH H1 H2) s' := by
  refine ⟨I2.ok, I2.os, I2.bare, ⟨I2.base.keep, I2.base.slot, fun b o p q r => cutH_none (I2.base.free b o p q r), I2.base.there, fun b xs p => cutH_old e (I1.base.tups b xs p), fun b o u p => cutH_old e (I1.base.frzs b o u p), fun b ps p => ?_⟩,
    I2.loc, I2.cell, cutH_none I2.free, fun x c p => cutH_none (I2.freeC x c p), fun p hp => ?_, fun a u h => ?_, I2.len⟩
  · obtain ⟨more, q⟩ := I1.base.tbls b ps p
    exact ⟨more, cutH_old e q⟩
  · obtain ⟨a, b, c⟩ := I2.pin p hp
    exact ⟨a, cutH_none b, c⟩
  · obtain ⟨k2, k⟩ := cutH_cases e h
    rcases k with k | ⟨_, ys, rfl⟩
    · exact cut_obj e u (I1.hok a u k) (I2.hok a u k2)
    · exact (I2.hok a _ k2 : ObjOk X.prog X.w H2 s'.heap a (.tup ys))
/-- an address that is none of the frame's -/
structure Frsh (X : Cx) (pins : List (Addr × Obj)) (a : Addr) : Prop where
  sz : X.s_0.heap.objs.size ≤ a
  loc : a ≠ X.env.locals
  fs : a ∉ X.fs
  cell : ∀ x c, X.env.cells.lookup x = some c → c ≠ a
  pin : ∀ p ∈ X.pn ++ pins, p.1 ≠ a
theorem Frsh.of (I : Inv X pins σ H s) {a : Addr} (h : s.heap.objs.size ≤ a) : Frsh X pins a := by
  have hn : s.heap.get? a = none := Heap.get?_none_of_le h
  refine ⟨Nat.le_trans I.sz h, fun e => ?_, I.nofs h, fun x c e z => ?_, fun p hp z => ?_⟩
  · have := I.lt
    rw [← e] at this
    exact absurd (Nat.lt_of_lt_of_le this h) (Nat.lt_irrefl _)
  · obtain ⟨v, o, ho, _⟩ := I.cell x c e
    rw [z, hn] at ho
    cases ho
  · obtain ⟨q, _⟩ := I.pin p hp
    rw [z, hn] at q
    cases q
theorem Frsh.stk (I : Inv X pins σ H s) {a : Addr} (f : Frsh X pins a) : a ∉ frs X.stack := fun h => by
  rcases List.mem_cons.mp (I.stkSub a h) with e | e
  · exact f.loc e
  · exact f.fs e
/-- two records of ours have turned -/
theorem Inv.moved {S it : Addr} (I : Inv X pins σ H s) (m : Moved [S, it] (fun a b => b = a) s s') (hS : H S = none) (hi : H it = none) (fS : Frsh X pins S) (fi : Frsh X pins it) : Inv X pins σ H s' := by
  obtain ⟨hh, g, d, t, os⟩ := s'
  obtain rfl : g = s.gens := m.gens
  obtain rfl : d = s.drawn := m.drawn
  obtain rfl : os = s.os := m.os
  have k : ∀ b o, b ∉ [S, it] → s.heap.get? b = some o → hh.get? b = some o := m.heap
  have nit : ∀ b u, H b = some u → b ∉ [S, it] := fun b u e z => by
    rcases List.mem_cons.mp z with z | z
    · rw [z, hS] at e
      cases e
    · rw [List.mem_singleton.mp z, hi] at e
      cases e
  have hl : X.env.locals ∉ [S, it] := fun z => by
    rcases List.mem_cons.mp z with z | z
    · exact fS.loc z.symm
    · exact fi.loc (List.mem_singleton.mp z).symm
  refine I.step (g' := s.gens) (d' := s.drawn) (ch := [S, it]) (fun b hb => ?_) (fun b o _ _ hc e _ => k b o hc e) (fun b o _ _ hc e _ => ⟨o.slots, k b o hc e⟩) (fun _ _ _ _ n => n)
    (fun b o hc e => ⟨o, k b o hc e⟩) (fun _ _ e => e) (fun _ _ _ e => e) (fun b ps e => ⟨#[], by rw [e]; simp⟩) (fun m hm => ?_) (fun b u e => ?_) I.bare
  · rcases List.mem_cons.mp hb with z | z
    · subst z
      exact ⟨.inr fS.sz, fS.loc, fS.cell, fS.pin⟩
    · cases List.mem_singleton.mp z
      exact ⟨.inr fi.sz, fi.loc, fi.cell, fi.pin⟩
  · obtain ⟨o, es, ep, ho, r⟩ := hm
    exact ⟨o, es, ep, k _ o hl ho, r⟩
  · refine (I.hok b u e).stay (fun c v hc q => k c v ?_ q) (fun _ q => q) fun _ _ q => q
    rcases hc with z | z
    · rw [z]
      exact nit b u e
    · exact nit c _ z
end

/-! ### the order -/
/-- the pair of length and text of x lies ahead of that of y -/
def keyLt (x y : Str) : Bool := if decide ((x.length : Int) = y.length) = true then (if (x == y) = true then false else decide (x.cps.toList < y.cps.toList)) else decide ((x.length : Int) < y.length)
def btS (xs : List Str) (i j : Nat) : Bool := match xs[i]?, xs[j]? with
  | some x, some y => keyLt x y
  | _, _ => false
def pickS (b y : Str) : Str := if keyLt y b then y else b
/-- the first of the least -/
def minS : List Str → Option Str
  | [] => none
  | x :: r => some (r.foldl pickS x)
theorem minS_snoc {l : List Str} {b y : Str} (h : minS l = some b) : minS (l ++ [y]) = some (pickS b y) := by
  cases l with
  | nil => cases h
  | cons x r =>
    cases h
    show some ((r ++ [y]).foldl pickS x) = _
    rw [List.foldl_append]
    rfl
theorem btS_of {xs : List Str} {i j : Nat} {x y : Str} (h1 : xs[i]? = some x) (h2 : xs[j]? = some y) : btS xs i j = keyLt x y := by
  unfold btS
  rw [h1, h2]
theorem minS_best (xs : List Str) : ∀ (n : Nat), n < xs.length → ∃ b, xs[argBest (btS xs) n]? = some b ∧ minS (xs.take (n + 1)) = some b ∧ argBest (btS xs) n ≤ n
  | 0, h => by
    cases xs with
    | nil => simp at h
    | cons x r => exact ⟨x, rfl, rfl, Nat.le_refl _⟩
  | n + 1, h => by
    obtain ⟨b, h1, h2, h3⟩ := minS_best xs n (by omega)
    have hy : xs[n + 1]? = some xs[n + 1] := List.getElem?_eq_getElem h
    have e : xs.take (n + 1 + 1) = xs.take (n + 1) ++ [xs[n + 1]] := by
      rw [List.take_succ, hy]
      rfl
    have hb : btS xs (n + 1) (argBest (btS xs) n) = keyLt xs[n + 1] b := btS_of hy h1
    rw [e, minS_snoc h2]
    unfold argBest pickS
    rw [hb]
    by_cases q : keyLt xs[n + 1] b = true
    · rw [if_pos q, if_pos q]
      exact ⟨_, hy, rfl, Nat.le_refl _⟩
    · rw [if_neg q, if_neg q]
      exact ⟨b, h1, rfl, by omega⟩

/-! ### the key at work -/
def KeyOk (s : Shared) (b : Addr) (x : Str) : Prop := ∃ t t', IsTup s.heap b #[.int (x.length : Int) t, .str x t']
theorem key_cmp {A : Around} {s : Shared} {b c : Addr} {x y : Str} (hu : A.units < cLine) (hx : KeyOk s b x) (hy : KeyOk s c y) : Ob.RcOp .Lt A s (.ref b) (.ref c) (keyLt x y) := by
  obtain ⟨t1, t2, h1⟩ := hx
  obtain ⟨t3, t4, h2⟩ := hy
  have h := Ob.RcOp.tuples_lt (A := A) (e := fun j => if j = 0 then decide ((x.length : Int) = y.length) else (x == y)) (r := fun j => if j = 0 then decide ((x.length : Int) < y.length) else decide (x.cps.toList < y.cps.toList)) h1 h2 hu
    (fun j k1 k2 => by
      match j, k1, k2 with
      | 0, _, _ => exact (PySem.SeqAt.EqAt.int_int (x.length : Int) t1 y.length t3)
      | 1, _, _ => exact (PySem.SeqAt.EqAt.str_str x t2 y t4))
    (fun j k1 k2 _ => by
      match j, k1, k2 with
      | 0, _, _ => exact Ob.RcOp.lt_int (x.length : Int) y.length t1 t3
      | 1, _, _ => exact fun prog w E Q q => PyProof.Rows.lt_str q)
  exact h

section
variable {X : Cx} {pins : List (Addr × Obj)} {σ : L2.St} {H : Hp} {s : Shared}
/-- the key's call -/
theorem key_call {k : Nat} {fa : Addr} {fd : FuncData} {ps : List Str} {f : List Sl → DR} (FO : FnOk X.prog X.w X.K X.mg X.base (L2.CX X.prog X.w) k fa fd ps (spM X.K X.mg 1 [] f)) (hr : Room (k + 1) X.A) (hb : Binds X.K fd ps [])
    (hps : ps.length = 1) (x : Str) (t : Tok) (hf : f [.val (.str x)] = .ok (.v (.tup [.int x.length, .str x])) []) (I : Inv X pins σ H s) {Q : Value → Shared → Prop} {E : Value → Shared → Prop}
    (h : ∀ b s' H2, Inv X pins σ H2 s' → Same H H2 → Un (frs X.stack) [] H H2 s.heap s'.heap → H b = none → (∃ o u, H2 b = some (.frz o u)) → KeyOk s' b x → Q (.ref b) s') : wpAny (model X.prog X.w) X.A.in1 (call (.ref fa) [.str x t]) Q E s := by
  let Fz : Hp := fun _ => none
  have hs : spM X.K X.mg 1 [] f [.str x] H (fun y H2 => ∃ F2, Aft X.K X.mg Fz H F2 H2 [.str x] [] [] ∧ RpR' X.K X.mg Fz H F2 H2 y (.v (.tup [.int x.length, .str x]))) (fun _ _ _ => False) := by
    refine ⟨rfl, Fz, [.val (.str x)], (show Same Fz H from fun b o e => nomatch e), ⟨rfl, fun i d hd => ?_, fun i io o hd => ?_, fun k hk => (nomatch hk), fun i j a _ hi => (nomatch hi)⟩, ?_⟩
    · match i, hd with
      | 0, hd =>
        cases hd
        exact ⟨_, rfl, .str x⟩
      | i + 1, hd => simp at hd
    · match i, hd with
      | 0, hd => cases hd
      | i + 1, hd => simp at hd
    · rw [hf]
      exact fun F' H' y a r => ⟨F', a, r⟩
  refine wpAny_call (codeAny_mono (FO.run X.A.in1 X.stack s H ⟨[.str x t], []⟩ [.str x t] [.str x] _ _ hr.in1 I.env0.in1 (hb s [.str x t] I.kIn (by rw [hps]; rfl)) (.cons ⟨t, rfl⟩ .nil) hs) fun r s' hq => ?_)
  cases r with
  | error e =>
    obtain ⟨a, B, H', cls, d, _, _, _, _, _, _, _, hE⟩ := (show L2.CX X.prog X.w X.stack H s _ e s' from hq)
    exact hE.elim
  | ok fl =>
    cases fl with
    | ret u =>
      obtain ⟨v, H2, os, bare, un, hok, r, F2, A, rr⟩ := (show CE X.stack X.prog X.w H s _ u s' from hq)
      obtain ⟨hh, g, d, t2, os'⟩ := s'
      obtain rfl : os' = s.os := os
      have I2 := I.call (h' := hh) (g' := g) (d' := d) (t' := t2) (ch := []) un hok bare (fun b z => absurd z (by simp))
      have sm : Same H H2 := fun b o e => A.hh b o e fun k hk => (nomatch hk)
      cases rr with
      | v r1 =>
        cases r1 with
        | tup ft ra =>
          rename_i b vs
          obtain ⟨o, ho, hd⟩ := ft
          have hb2 : H2 b = some (.frz o (.tup vs)) := A.fh _ _ ho
          have hn : H b = none := (A.nw b _ ho).elim (fun z => nomatch z) id
          cases (show u = Value.ref b from r)
          refine h b _ H2 I2 sm un hn ⟨_, _, hb2⟩ ?_
          obtain ⟨_, z, its, rv, it⟩ := (hok b _ hb2 : ObjOk X.prog X.w H2 hh b (.frz o (.tup vs)))
          have e1 : vs = [V.int x.length, V.str x] := by
            cases ra with
            | cons r1 ra =>
              cases r1
              cases ra with
              | cons r2 ra =>
                cases r2
                cases ra
                rfl
          subst e1
          obtain ⟨u1, u2, rfl, ⟨t3, rfl⟩, ⟨t4, rfl⟩⟩ := vals2 rv
          exact ⟨t3, t4, it⟩
    | next => exact False.elim hq
    | brk => exact False.elim hq
    | cont => exact False.elim hq
theorem relV_int {v : V} {i : Int} {t : Tok} (h : RelV v (Value.int i t)) : v = .int i := by
  cases v <;> first | (cases h; done) | (obtain ⟨_, e⟩ := h; cases e; done) | (obtain ⟨_, e⟩ := h; cases e; rfl)
theorem relV_str {v : V} {i : Str} {t : Tok} (h : RelV v (Value.str i t)) : v = .str i := by
  cases v <;> first | (cases h; done) | (obtain ⟨_, e⟩ := h; cases e; done) | (obtain ⟨_, e⟩ := h; cases e; rfl)
/-- a key is kept by a call -/
theorem key_kept {H2 : Hp} {s' : Shared} {b : Addr} {x : Str} (I : Inv X pins σ H s) (I2 : Inv X pins σ H2 s') (u : Un (frs X.stack) [] H H2 s.heap s'.heap) (hb : H b = none ∨ ∃ ys, H b = some (.tup ys)) (k : KeyOk s b x) : KeyOk s' b x := by
  obtain ⟨t, t', o, ho, hc, n, hd⟩ := k
  rcases hb with hb | ⟨ys, hb⟩
  · obtain ⟨sl, q⟩ := u.any ho hb (by simp)
    exact ⟨t, t', _, q, hc, n, hd⟩
  · obtain ⟨_, its, r1, o1, ho1, _, n1, hd1⟩ := (I.hok b _ hb : ObjOk X.prog X.w H s.heap b (.tup ys))
    rw [ho] at ho1
    cases ho1
    rw [hd] at hd1
    have e1 : its = [Value.int (x.length : Int) t, Value.str x t'] := by
      injection hd1 with h1 h2
      have := congrArg Array.toList h1
      simpa using this.symm
    subst e1
    obtain ⟨_, its2, r2, it2⟩ := (I2.hok b _ (u.tups b ys hb) : ObjOk X.prog X.w H2 s'.heap b (.tup ys))
    cases r1 with
    | cons q1 r1 =>
      cases r1 with
      | cons q2 r1 =>
        cases r1
        have e1 := relV_int q1
        have e2 := relV_str q2
        subst e1 e2
        obtain ⟨u1, u2, rfl, ⟨t3, rfl⟩, ⟨t4, rfl⟩⟩ := vals2 r2
        exact ⟨t3, t4, it2⟩
end
end Mi
set_option Elab.async false
set_option linter.all false
set_option maxRecDepth 100000
set_option maxHeartbeats 4000000
/-! Mi, part Kz: min(texts, key=f), the rule. -/
namespace Mi
open PySem PySem.Spec PyProof.Rows L2 PySem.MiX
def PkS (xs : List Str) (i : Nat) (v : Value) : Prop := ∃ x t, xs[i]? = some x ∧ v = .str x t
def StK (xs : List Str) (It a : Addr) (i : Nat) (s : Shared) : Prop := s.heap.IsListIter It a i ∧ ∃ its : List Value, Vals (xs.map V.str) its ∧ s.heap.IsList a its.toArray
theorem walk_strs {prog : Program} {w : World} {A : Around} (hh : A.handled = none) (It a : Addr) (hne : a ≠ It) (xs : List Str) : WalksS prog w A It [It, a] [It] (fun g g' => g' = g) xs.length (PkS xs) (StK xs It a) where
  sub := fun b hb => by
    simp at hb
    simp [hb]
  grefl := fun _ => rfl
  gtrans := fun _ _ _ h1 h2 => h2.trans h1
  frame := fun i s h' tk st _ hk => by
    obtain ⟨h1, its, r, h2⟩ := st
    exact ⟨h1.at fun o e => hk It (by simp) o e, its, r, h2.at fun o e => hk a (by simp) o e⟩
  item := fun i s Q E hi st hQ => by
    obtain ⟨h1, its, r, h2⟩ := st
    have hl : xs.length = its.length := by
      have := r.length
      rwa [List.length_map] at this
    refine (Walks.list hh It a hne its.toArray).toS.item i s Q E (by simp; omega) ⟨h1, h2⟩ fun v s' hv st' m => hQ v s' ?_ ⟨st'.1, its, r, st'.2⟩ m
    have hx : (xs.map V.str)[i]? = some (V.str xs[i]) := by rw [List.getElem?_map, List.getElem?_eq_getElem hi]; rfl
    obtain ⟨u, hu, t, rfl⟩ := r.get hx
    have hv' : its[i]? = some v := by simpa using hv
    rw [hu] at hv'
    cases hv'
    exact ⟨_, t, List.getElem?_eq_getElem hi, rfl⟩
  done := fun s Q E st hQ => by
    obtain ⟨h1, its, r, h2⟩ := st
    have hl : xs.length = its.toArray.size := by
      have := r.length
      rw [List.length_map] at this
      simpa using this
    exact (Walks.list hh It a hne its.toArray).toS.done s Q E ⟨by rw [← hl]; exact h1, h2⟩ hQ
  self := fun i s Q E st hQ => wpAny_pyIter_listiter st.1 hQ
section
variable {X : Cx} {pins : List (Addr × Obj)} {σ : L2.St} {H : Hp} {S It a : Addr}
def JK (X : Cx) (pins : List (Addr × Obj)) (σ : L2.St) (H : Hp) (S It : Addr) (s : Shared) : Prop :=
  ∃ H', Inv X pins σ H' s ∧ Same H H' ∧ H' S = none ∧ H' It = none ∧ ∀ c u, H' c = some u → H c = some u ∨ (H c = none ∧ ∃ ys, u = .tup ys)
def VKs (H : Hp) (xs : List Str) (S It : Addr) (i : Nat) (k : Value) (s : Shared) : Prop := ∃ b x, xs[i]? = some x ∧ k = .ref b ∧ H b = none ∧ b ∉ [S, It] ∧ KeyOk s b x
theorem KeyOk.heap {s s' : Shared} {b : Addr} {x : Str} (h : KeyOk s b x) (k : ∀ o, s.heap.get? b = some o → s'.heap.get? b = some o) : KeyOk s' b x := by
  obtain ⟨t, t', o, ho, r⟩ := h
  exact ⟨t, t', o, k o ho, r⟩
theorem keyrun {k : Nat} {fa : Addr} {fd : FuncData} {ps : List Str} {f : List Sl → DR} (FO : FnOk X.prog X.w X.K X.mg X.base (L2.CX X.prog X.w) k fa fd ps (spM X.K X.mg 1 [] f)) (hr : Room (k + 1) X.A) (hb : Binds X.K fd ps [])
    (hps : ps.length = 1) (xs : List Str) (hf : ∀ x ∈ xs, f [.val (.str x)] = .ok (.v (.tup [.int x.length, .str x])) []) (fS : Frsh X pins S) (fi : Frsh X pins It) (ha : H a = some (.lst (xs.map V.str))) :
    KeyRun X.prog X.w X.A.in1 (.ref fa) .Lt S [It] (fun g g' => g' = g) xs.length (PkS xs) (StK xs It a) (JK X pins σ H S It) (VKs H xs S It) (btS xs) where
  keep := fun s s' ⟨H', I, e, hS, hi, c⟩ m => ⟨H', Mi.Inv.moved I m hS hi fS fi, e, hS, hi, c⟩
  keepV := fun i k s s' ⟨b, x, h1, h2, h3, h4, h5⟩ m => ⟨b, x, h1, h2, h3, h4, h5.heap fun o e => m.heap b o h4 e⟩
  turn := fun i v s o Q E hi hP hJ hst hS hQ => by
    obtain ⟨x, t, hx, rfl⟩ := hP
    obtain ⟨H', I, e, nS, nI, c⟩ := hJ
    refine key_call FO hr hb hps x t (hf x (List.mem_of_getElem? hx)) I fun b s' H2 I2 sm un hbn hfz hk => ?_
    have hn : H b = none := e.free hbn
    have iS : s'.heap.get? S = some o := un.keep S o hS nS (fS.stk I) (by simp)
    obtain ⟨⟨oi, hoi, r1, r2⟩, its, rv, hl⟩ := hst
    have iI : s'.heap.get? It = some oi := un.keep It oi hoi nI (fi.stk I) (by simp)
    have nS2 : H2 S = none := un.free S o hS nS (by simp)
    have nI2 : H2 It = none := un.free It oi hoi nI (by simp)
    have hbne : b ∉ [S, It] := fun z => by
      obtain ⟨o3, u3, q3⟩ := hfz
      rcases List.mem_cons.mp z with z | z
      · rw [z, nS2] at q3
        cases q3
      · rw [List.mem_singleton.mp z, nI2] at q3
        cases q3
    refine hQ (.ref b) s' ⟨cutH H' H2, Mi.Inv.cut I I2 sm, fun c u q => cutH_old sm (e _ _ q), cutH_none nS2, cutH_none nI2, fun c' u q => ?_⟩ ⟨⟨oi, iI, r1, r2⟩, ?_⟩ iS ⟨b, x, hx, rfl, hn, hbne, hk⟩ ?_
    · rcases (cutH_cases sm q).2 with z | ⟨z, ys, rfl⟩
      · exact c _ _ z
      · exact .inr ⟨e.free z, ys, rfl⟩
    · obtain ⟨_, its2, n, rv2, hget⟩ := (I2.hok a _ (sm _ _ (e _ _ ha)) : ObjOk X.prog X.w H2 s'.heap a (.lst (xs.map V.str)))
      exact ⟨its2, rv2, _, hget, rfl, n, rfl⟩
    · rintro j k' ⟨b', x', g1, rfl, g3, g4, g5⟩
      refine ⟨b', x', g1, rfl, g3, g4, key_kept I I2 un ?_ g5⟩
      cases q : H' b' with
      | none => exact .inl rfl
      | some u =>
        rcases c b' u q with z | ⟨_, ys, rfl⟩
        · rw [g3] at z
          cases z
        · exact .inr ⟨ys, rfl⟩
  cmp := fun i j ki kj s Q E hJ h1 h2 hq => by
    obtain ⟨b, x, g1, rfl, _, _, g5⟩ := h1
    obtain ⟨c, y, k1, rfl, _, _, k5⟩ := h2
    rw [btS_of g1 k1] at hq
    exact key_cmp (by show X.A.units + 1 < cLine; have := hr.un; omega) g5 k5 _ _ E Q hq
/-- min(texts, key=f) -/
def rMinK (f : List Sl → DR) (fa : Addr) : List V → List V → Hp → VK → Prop := fun vs zs H Q => ∃ (a : Addr) (xs : List Str) (b : Str), vs = [V.ref a] ∧ zs = [V.ref fa] ∧ H a = some (.lst (xs.map V.str)) ∧
  (∀ x ∈ xs, f [.val (.str x)] = .ok (.v (.tup [.int x.length, .str x])) []) ∧ minS xs = some b ∧ ∀ H', Same H H' → Q (.str b) H'
theorem cr_minKey {k : Nat} {fa : Addr} {fd : FuncData} {ps : List Str} {f : List Sl → DR} (FO : FnOk X.prog X.w X.K X.mg X.base (L2.CX X.prog X.w) k fa fd ps (spM X.K X.mg 1 [] f)) (hr : Room (k + 1) X.A) (hb : Binds X.K fd ps [])
    (hps : ps.length = 1) : CallRK X (.builtin "min") [Str.ofString "key"] (rMinK f fa) := by
  intro pins s σ H vs zs us ws Q I r rz h
  obtain ⟨a, xs, b, rfl, rfl, ha, hf, hm, q⟩ := h
  obtain rfl := Vals.ref1 r
  obtain rfl := Vals.ref1 rz
  show wpAny _ _ (call (.builtin "min") [.ref a] [(Str.ofString "key", .ref fa)]) _ _ s
  obtain ⟨_, its, n, rv, hget⟩ := (I.hok a _ ha : ObjOk X.prog X.w H s.heap a (.lst (xs.map V.str)))
  have hlt := Heap.lt_size hget
  have hne : a ≠ s.heap.objs.size := Nat.ne_of_lt hlt
  refine call_min_walkK (wpAny_pyIter_list ⟨_, hget, rfl, n, rfl⟩ ?_)
  have I2 : Inv X pins σ H { s with heap := s.heap.push { cls := .type "list_iterator", data := .fields #[.ref a, .int 0 0] } } := I.kept (t' := s.toks) fun b o e => Heap.get?_push_of_some _ e
  have hn : 0 < xs.length := by
    cases xs with
    | nil => cases hm
    | cons x r => simp
  have fi : Frsh X pins s.heap.objs.size := Frsh.of I (Nat.le_refl _)
  have fS : Frsh X pins (s.heap.push { cls := .type "list_iterator", data := .fields #[.ref a, .int 0 0] }).objs.size := Frsh.of I2 (Nat.le_refl _)
  have hfp : ∀ b ∈ [s.heap.objs.size, a], b < (s.heap.push { cls := .type "list_iterator", data := .fields #[.ref a, .int 0 0] }).objs.size := fun b hb => by
    rw [Heap.size_push]
    rcases List.mem_cons.mp hb with z | z
    · rw [z]
      exact Nat.lt_succ_self _
    · rw [List.mem_singleton.mp z]
      exact Nat.lt_succ_of_lt hlt
  refine ⟨s.heap.objs.size, [s.heap.objs.size, a], [s.heap.objs.size], fun g g' => g' = g, xs.length, PkS xs, StK xs s.heap.objs.size a, JK X pins σ H _ s.heap.objs.size, VKs H xs _ s.heap.objs.size, btS xs, rfl,
    walk_strs (A := X.A.in1) hr.hd _ a hne xs, ⟨⟨_, Heap.get?_push_size _ rfl, rfl, rfl⟩, its, rv, _, Heap.get?_push_of_some _ hget, rfl, n, rfl⟩, hfp, hn, keyrun FO hr hb hps xs hf fS fi ha, ⟨H, I2, Same.refl _, I2.hok.fresh (Nat.le_refl _), I.hok.fresh (Nat.le_refl _), fun _ _ z => .inl z⟩, fun v s' hP hJ => ?_⟩
  obtain ⟨x, t, hx, rfl⟩ := hP
  obtain ⟨H', I', e, _⟩ := hJ
  obtain ⟨b2, h1, h2, _⟩ := minS_best xs (xs.length - 1) (by omega)
  rw [hx] at h1
  cases h1
  rw [show xs.length - 1 + 1 = xs.length by omega, List.take_length, hm] at h2
  cases h2
  exact ⟨.str b, H', I', ⟨t, rfl⟩, q H' e⟩
theorem strsD_map {K : PySem.W.Frag} {mg : Str → Option Value} {F : Hp} : ∀ {vs : List V} {ds : List D} {xs : List Str}, RpA K mg F vs ds → strsD ds = some xs → vs = xs.map V.str
  | _, _, _, .nil, h => by
    cases h
    rfl
  | _, d :: ds, _, .cons r t, h => by
    cases d with
    | str x =>
      obtain ⟨ys, h1, rfl⟩ := Option.map_eq_some_iff.mp (show (strsD ds).map (x :: ·) = some _ from h)
      cases r
      rw [strsD_map t h1]
      rfl
    | _ => cases h
def finML (v : OB) (ρ : En) : R OV := match v.get ρ with
  | some (.lst ds) => (match strsD ds with
    | some xs => if (xs.all fun x => decide (x.length ≤ BIG)) = true then (match minS xs with
      | some b => .ok (.d (.str b)) ρ
      | none => .bad) else .bad
    | none => .bad)
  | _ => .bad
def mMinL (ma : EM) : EM := fun ρ => (ma ρ).bind fun v ρ => finML v.fz ρ
theorem me_minKey {W : WX} {k : Nat} {fa : Addr} {fd : FuncData} {ps : List Str} {f : List Sl → DR} {ma : EM} {e : Expr} {y : Str} {p p2 p3 pos : Pos} {kp : Pos} (FO : FnOk X.prog X.w X.K X.mg X.base (L2.CX X.prog X.w) k fa fd ps (spM X.K X.mg 1 [] f)) (hr : Room (k + 1) X.A) (hb : Binds X.K fd ps [])
    (hps : ps.length = 1) (hf : ∀ x, x.length ≤ BIG → f [.val (.str x)] = .ok (.v (.tup [.int x.length, .str x])) [])
    (hgm : Gl X "min") (hmm : X.mg "min" = none) (hg : Gl X y) (hm : X.mg y = some (.ref fa)) (ha : ME X W e ma) (hd : (y == ("__debug__" : Str)) = false := by decide)
    (hs : starEach [e] X.env = (false, eval e X.env) :: starEach [] X.env := by rfl) (he : backTo pos (starEach [e] X.env) = (false, eval e X.env) :: backTo pos (starEach [] X.env) := by rfl) (hpl : (backTo pos (starEach [e] X.env)).any (·.1) = false := by rfl) :
    ME X W (.Call (.Name "min" p) [e] [⟨some "key", .Name y p2, kp⟩] pos) (mMinL ma) :=
  ME.weak (pe_callBK (cr_minKey FO hr hb hps) hgm hmm (show bootBuiltins "min" = some (.builtin "min") by rfl) (pa_cons ha pa_nil hs) (pk_cons (pe_glob hg hm (v := .ref fa) rfl hd) pk_nil) (he := he) (hpl := hpl)) fun {σ H Q G F ρ} S k => sub S (Gd.opd (Rep2 := RpO X.K X.mg) (f := finML) k fun v ρ1 F1 H1 x S1 e1 r1 k1 => by
    unfold finML at k1
    cases q : v.get ρ1 with
    | none =>
      rw [q] at k1
      exact k1.elim
    | some d =>
      rw [q] at k1
      cases d with
      | lst ds =>
        dsimp only at k1
        cases q1 : strsD ds with
        | none =>
          rw [q1] at k1
          exact k1.elim
        | some xs =>
          rw [q1] at k1
          dsimp only at k1
          by_cases hz : (xs.all fun x => decide (x.length ≤ BIG)) = true
          · rw [if_pos hz] at k1
            cases q2 : minS xs with
            | none =>
              rw [q2] at k1
              exact k1.elim
            | some b =>
              rw [q2] at k1
              obtain ⟨a, vs, rfl, h1, h2⟩ := (S1.get r1 q).lst S1.fh
              have ev := strsD_map h2 q1
              subst ev
              refine ⟨a, xs, b, rfl, rfl, h1, fun x hx => hf x (of_decide_eq_true (List.all_eq_true.mp hz x hx)), q2, fun H' e' => ?_⟩
              have ex : Ext F1 H1 F1 H' := ⟨Same.refl _, e', S1.fh.trans e', fun _ _ z => .inl z⟩
              exact k1 F1 H' _ (S1.ext ex) (Same.refl _) (.d (.str b))
          · rw [if_neg hz] at k1
            exact k1.elim
      | _ => exact k1.elim)
end
end Mi
namespace Mi
open PySem PySem.Spec PyProof.Rows L2 PySem.MiX
theorem me_minKeyC {X : Cx} {W : WX} {k j : Nat} {f : List Sl → DR} {ma : EM} {e : Expr} {y : Str} {p p2 pos : Pos} {kp : Pos} (c : CalM X.prog X.w X.K X.mg X.base k y 1 [] f) (hf : ∀ x, x.length ≤ BIG → f [.val (.str x)] = .ok (.v (.tup [.int x.length, .str x])) [])
    (hr : Room j X.A) (hk : k + 1 ≤ j) (hgm : Gl X "min") (hmm : X.mg "min" = none) (hg : Gl X y) (ha : ME X W e ma) (hd : (y == ("__debug__" : Str)) = false := by decide)
    (hs : starEach [e] X.env = (false, eval e X.env) :: starEach [] X.env := by rfl) (he : backTo pos (starEach [e] X.env) = (false, eval e X.env) :: backTo pos (starEach [] X.env) := by rfl) (hpl : (backTo pos (starEach [e] X.env)).any (·.1) = false := by rfl) :
    ME X W (.Call (.Name "min" p) [e] [⟨some "key", .Name y p2, kp⟩] pos) (mMinL ma) := by
  obtain ⟨fa, fd, ps, FO, hm, hkp, hb⟩ := c.ex
  have hps : ps.length = 1 := by
    have e0 := hf (Str.empty) (Nat.zero_le _)
    refine (FO.len [.str Str.empty] (fun _ => none) (fun _ _ => True) (fun _ _ _ => True) ⟨rfl, fun _ => none, [.val (.str Str.empty)], fun _ _ z => z, ⟨rfl, fun i d hd => ?_, fun i io o hd => ?_, fun k hk => (nomatch hk), fun i j a _ hi => (nomatch hi)⟩, ?_⟩).symm
    · match i, hd with
      | 0, hd =>
        cases hd
        exact ⟨_, rfl, .str _⟩
      | i + 1, hd => simp at hd
    · match i, hd with
      | 0, hd => cases hd
      | i + 1, hd => simp at hd
    · rw [e0]
      exact fun _ _ _ _ _ => True.intro
  exact me_minKey FO (hr.mono hk) hb hps hf hgm hmm hg hm ha hd hs he hpl (p3 := p2)
end Mi
set_option Elab.async false
set_option linter.all false
set_option maxRecDepth 100000
set_option maxHeartbeats 4000000
/-! Mi, part Fs: f-strings, the truth of a list. -/
namespace Mi
open PySem PySem.Spec PyProof.Rows L2 PySem.MiX
/-- {x} in an f-string -/
def finFmt (v : OB) (ρ : En) : R OV := match v.get ρ with
  | some (.str y) => if y.length ≤ BIG then .ok (.d (.str y)) ρ else .bad
  | some (.int i) => if i.natAbs.log2 < 1920 then .ok (.d (.str (toString i))) ρ else .bad
  | _ => .bad
def mFmt (m : EM) : EM := fun ρ => (m ρ).bind fun v ρ => finFmt v.fz ρ
/-- the parts of an f-string, one behind the other -/
def mJs : List EM → Str → EM
  | [], acc => fun ρ => .ok (.d (.str acc)) ρ
  | m :: ms, acc => fun ρ => (m ρ).bind fun v ρ => match v with
    | .d (.str y) => if (acc ++ y).length ≤ BIG then mJs ms (acc ++ y) ρ else .bad
    | _ => .bad
section
variable {X : Cx} {W : WX} {pos : Pos}
theorem me_fmt {e : Expr} {m : EM} (h : ME X W e m) : ME X W (.FormattedValue e (-1) none pos) (mFmt m) :=
  ME.weak (pe_fmt h) fun {σ H Q G F ρ} S k => sub S (Gd.opd (Rep2 := RpO X.K X.mg) (f := finFmt) k fun v ρ1 F1 H1 x S1 e1 r1 k1 => by
    unfold finFmt at k1
    cases q : v.get ρ1 with
    | none =>
      rw [q] at k1
      exact k1.elim
    | some d =>
      rw [q] at k1
      have r := S1.get r1 q
      cases d with
      | str y =>
        dsimp only at k1
        by_cases hz : y.length ≤ BIG
        · rw [if_pos hz] at k1
          exact .inl ⟨y, r.str, Nat.le_trans hz BIG_le, k1 F1 H1 _ S1 (Same.refl _) (.d (.str y))⟩
        · rw [if_neg hz] at k1
          exact k1.elim
      | int i =>
        dsimp only at k1
        by_cases hz : i.natAbs.log2 < 1920
        · rw [if_pos hz] at k1
          exact .inr ⟨i, r.int, hz, k1 F1 H1 _ S1 (Same.refl _) (.d (.str _))⟩
        · rw [if_neg hz] at k1
          exact k1.elim
      | _ => exact k1.elim)
inductive MJ (X : Cx) (W : WX) : List Expr → List EM → Prop where
  | nil : MJ X W [] []
  | cons {e : Expr} {m : EM} {es : List Expr} {ms : List EM} (h : ME X W e m) (r : MJ X W es ms) : MJ X W (e :: es) (m :: ms)
theorem MJ.pj {es : List Expr} {ms : List EM} : MJ X W es ms → PJ X es (ms.map (tE X.K X.mg W))
  | .nil => .nil
  | .cons h r => .cons h r.pj
theorem js_wish {K : PySem.W.Frag} {mg : Str → Option Value} {σ : L2.St} {Q : VK} : ∀ (ms : List EM) (acc : Str) {F H : Hp} {G : Gh} {ρ : En}, Sat K mg G F H σ ρ → Gd K mg W (RpO K mg) G F σ (mJs ms acc ρ) Q → tJs (ms.map (tE K mg W)) acc σ H (fun out H1 => Q (.str out) H1)
  | [], acc, F, H, G, ρ, S, k => k F H _ S (Same.refl _) (.d (.str acc))
  | m :: ms, acc, F, H, G, ρ, S, k => by
    have k' : Gd K mg W (RpO K mg) G F σ ((m ρ).bind fun v ρ => match v with
      | .d (.str y) => if (acc ++ y).length ≤ BIG then mJs ms (acc ++ y) ρ else .bad
      | _ => .bad) Q := k
    refine sub S (Gd.bind k' fun v ρ1 F1 H1 x _ S1 e1 r1 k1 => ?_)
    cases r1 with
    | d r =>
      cases r with
      | str y =>
        dsimp only at k1
        by_cases hz : (acc ++ y).length ≤ BIG
        · rw [if_pos hz] at k1
          exact ⟨y, rfl, Nat.le_trans hz BIG_le, js_wish ms (acc ++ y) S1 k1⟩
        · rw [if_neg hz] at k1
          exact k1.elim
      | _ => exact k1.elim
    | _ => exact k1.elim
theorem me_js {e1 e2 : Expr} {es : List Expr} {ms : List EM} (h : MJ X W (e1 :: e2 :: es) ms) : ME X W (.JoinedStr (e1 :: e2 :: es) pos) (mJs ms Str.empty) :=
  ME.weak (pe_joined h.pj) fun {σ H Q G F ρ} S k => js_wish ms Str.empty S k
/-- the truth of a list -/
def finTru (v : OB) (ρ : En) : R Bool := match v.get ρ with
  | some (.lst ds) => .ok (!ds.isEmpty) ρ
  | _ => .bad
def mTru (m : EM) : TM := fun ρ => (m ρ).bind fun v ρ => finTru v.fz ρ
theorem mt_tru {e : Expr} {m : EM} (h : ME X W e m) (he : ∀ whole, isTrue e X.env whole = (do let v ← whole; standAt e.pos; holding [v] (truthy v)) := by intro _; rfl) : MT X W e (mTru m) :=
  MT.weak (pt_truth h he) fun {σ H Q G F ρ} S k => sub S (Gd.opd (Rep2 := fun _ _ _ _ _ b c => b = c) (f := finTru) k fun v ρ1 F1 H1 x S1 e1 r1 k1 => by
    unfold finTru at k1
    cases q : v.get ρ1 with
    | none =>
      rw [q] at k1
      exact k1.elim
    | some d =>
      rw [q] at k1
      cases d with
      | lst ds =>
        obtain ⟨a, vs, rfl, h1, h2⟩ := (S1.get r1 q).lst S1.fh
        refine ⟨!vs.isEmpty, .inl ⟨vs, .of h1, rfl⟩, ?_⟩
        have e : vs.isEmpty = ds.isEmpty := by
          cases h2 <;> rfl
        rw [e]
        exact k1 F1 H1 _ S1 (Same.refl _) rfl
      | _ => exact k1.elim)
end
end Mi
set_option Elab.async false
set_option linter.all false
set_option maxRecDepth 100000
set_option maxHeartbeats 4000000
/-! Mi, part Es: enumerate over a text. -/
namespace Mi
open PySem PySem.Spec PyProof.Rows L2 PySem.MiX
def Itse (x : Str) : It :=
  ⟨fun i H => i < x.cps.size, fun i H v H' => ∃ T c, v = .ref T ∧ H T = none ∧ H' = upd H T (.tup [.int (i : Nat), .str ⟨#[c]⟩]) ∧ x.cps[i]? = some c, fun i H => x.cps.size ≤ i⟩
theorem draws_str {prog : Program} {w : World} {A : Around} (hh : A.handled = none) (it : Addr) (x : Str) (t : Tok) {ty : String} (hty : ty = "str_ascii_iterator" ∨ ty = "str_iterator") :
    Draws prog w A it [it] x.cps.size (fun i v => ∃ c u, x.cps[i]? = some c ∧ v = .str ⟨#[c]⟩ u) (fun i h => h.IsStrIter it ty x t i) := by
  rcases hty with rfl | rfl
  · exact Draws.strAscii hh it x t
  · exact Draws.strWide hh it x t
theorem draws_end {prog : Program} {w : World} {A : Around} (hh : A.handled = none) (it : Addr) (x : Str) (t : Tok) {ty : String} (hty : ty = "str_ascii_iterator" ∨ ty = "str_iterator") (i : Nat) (hi : x.cps.size ≤ i) :
    Draws prog w A it [it] i (fun _ _ => True) (fun j h => j = i ∧ h.IsStrIter it ty x t i) where
  live := fun _ _ st => let ⟨_, o, ho, _⟩ := st; ⟨o, ho⟩
  frame := fun j h h' st k => let ⟨e, o, ho, r⟩ := st; ⟨e, o, k it (by simp) o ho, r⟩
  item := fun j s Q E hj st _ => by
    obtain ⟨e, _⟩ := st
    omega
  done := fun s Q E st hQ => by
    obtain ⟨_, st⟩ := st
    have hx : x.cps[i]? = none := Array.getElem?_eq_none hi
    rcases hty with e | e
    · rw [e] at st
      exact wpAny_nextOf_ascii_end hh st hx hQ
    · rw [e] at st
      exact wpAny_nextOf_wide_end hh st hx hQ
theorem turn_enumS {P : Program} {w : World} {K : PySem.W.Frag} {elts : List Expr} {kk : Nat} {tpos : Pos} (x : Str) (t : Tok) (e it : Addr) (ty : String) (hty : ty = "str_ascii_iterator" ∨ ty = "str_iterator") :
    Turn P w K (.Tuple elts kk tpos) (Itse x) [e, it] e (fun i h => (∃ old, IsEnum h e it ((i : Nat) : Int) old) ∧ h.IsStrIter it ty x t i ∧ e ≠ it) where
  mem := by simp
  obj := fun i h st b hb => by
    obtain ⟨⟨old, he⟩, ⟨o, ho, hc, hd⟩, _⟩ := st
    have e' : b = e ∨ b = it := by simpa using hb
    rcases e' with z | z
    · rw [z]; exact ⟨_, he, fun v q => nomatch q⟩
    · rw [z]; exact ⟨o, ho, fun v q => by rw [hd] at q; cases q⟩
  keep := fun i h h' st k => let ⟨⟨old, he⟩, ⟨o, ho, r⟩, hne⟩ := st; ⟨⟨old, k e (by simp) _ he⟩, ⟨o, k it (by simp) o ho, r⟩, hne⟩
  item := by
    intro X hP hw hK hc i pins s σ H E I hf st hg
    subst hP hw hK
    obtain ⟨⟨old, he⟩, hit, hne⟩ := st
    have hel : e < s.heap.objs.size := Heap.lt_size he
    have hil : it < s.heap.objs.size := by obtain ⟨_, q, _⟩ := hit; exact Heap.lt_size q
    refine wpAny_pyNext_enum_itemD (draws_str (A := X.A.in1) (I.ok.hd hc) it x t hty) he hit hg hne (by simpa using hne) fun v h' tk hP ho hit' hT hsz hk => ?_
    obtain ⟨c, u, hcx, rfl⟩ := hP
    refine ⟨_, rfl, wpAny_letOwnedTupleGo_enum (s := { s with heap := h', toks := tk + 1 }) ho fun h'' he' sb => ?_⟩
    have hT2 : h''.get? s.heap.objs.size = some { cls := .type "tuple", data := .seq #[.int i tk, .str ⟨#[c]⟩ u] } := (sb.2 _ (Nat.ne_of_gt hel)).trans hT
    have new : ObjOk X.prog X.w (upd H s.heap.objs.size (.tup [.int (i : Nat), .str ⟨#[c]⟩])) h'' s.heap.objs.size (.tup [.int (i : Nat), .str ⟨#[c]⟩]) :=
      ⟨by show 2 ≤ sizeLine; decide, [.int i tk, .str ⟨#[c]⟩ u], .cons ⟨_, rfl⟩ (.cons ⟨_, rfl⟩ .nil), ⟨_, hT2, rfl, _, rfl⟩⟩
    have I1 : Inv X pins σ (upd H s.heap.objs.size (.tup [.int (i : Nat), .str ⟨#[c]⟩])) { s with heap := h'', toks := tk + 1 } :=
      I.turnedNew (ch := [e, it]) (fun b ob hb q => (sb.2 b (fun z => hb (by simp [z]))).trans (hk b ob (fun z => hb (by simp [z])) (fun z => hb (by simp [z])) q)) hf (Nat.le_refl _) new
    refine ⟨.ref s.heap.objs.size, _, I1, rfl, ⟨_, c, rfl, I.hok.fresh (Nat.le_refl _), rfl, hcx⟩, ⟨⟨.str ⟨#[c]⟩ u, ?_⟩, ?_, hne⟩, fun b hb => ?_⟩
    · have e1 : ((i + 1 : Nat) : Int) = (i : Int) + 1 := by omega
      rw [e1]; exact he'
    · obtain ⟨o, ho2, r⟩ := hit'
      exact ⟨o, (sb.2 it (Ne.symm hne)).trans ho2, r⟩
    · have hb' : b < s.heap.objs.size := by
        have e' : b = e ∨ b = it := by simpa using hb
        rcases e' with z | z
        · rw [z]; exact hel
        · rw [z]; exact hil
      rw [upd_ne (Nat.ne_of_lt hb')]
      exact (hf b hb).1
  done := by
    intro X hP hw hK hc i pins s σ H E I hf st hg
    subst hP hw hK
    obtain ⟨⟨old, he⟩, hit, hne⟩ := st
    obtain ⟨f0, f1, f2, f3, f4, f5⟩ := hf it (by simp)
    exact wpAny_pyNext_enum_endD (draws_end (A := X.A.in1) (I.ok.hd hc) it x t hty i hg) he ⟨rfl, hit⟩ fun h' eb => ⟨rfl, I.turned (t' := s.toks) (fun b o hb q => eb b o hb q) f0 f1 f3 f4 f5⟩
  self := fun A i s Q E st h => let ⟨⟨_, he⟩, _⟩ := st; wpAny_pyIter_enum he h
def iEnumS (ta : TA) : TI := fun σ H R => ta σ H fun vs H1 => ∃ x, vs = [.str x] ∧ R (Itse x) H1
theorem pi_enumS {X : Cx} {e : Expr} {ta : TA} {p pos tpos : Pos} {elts : List Expr} {kk : Nat} (hg : Gl X "enumerate") (hm : X.mg "enumerate" = none) (ha : PA X [e] ta) (hs : starEach [e] X.env = [(false, eval e X.env)] := by rfl) :
    PI X (.Tuple elts kk tpos) (.Call (.Name "enumerate" p) [e] [] pos) (iEnumS ta) := by
  refine ⟨fun pins s σ H R I h => ?_⟩
  refine Call_ (ld_blt I hg hm boot_enumerate (PyProof.Rows.callWith_type1 (thn (ha.run pos pins s σ H _ I h) fun us s1 ⟨vs, H1, I1, r1, q1⟩ => ?_) hs rfl))
  obtain ⟨x, ex, q⟩ := q1
  subst ex
  cases r1 with
  | cons r rr =>
    cases rr
    obtain ⟨t, rfl⟩ := r
    refine call_enumerate_str fun h' he hit hsz hk => wpAny_pyIter_enum he ?_
    have I2 : Inv X pins σ H1 { s1 with heap := h' } := I1.kept (t' := s1.toks) hk
    refine ⟨s1.heap.objs.size + 1, [s1.heap.objs.size + 1, s1.heap.objs.size], _, _, H1, rfl, I2, turn_enumS x t (s1.heap.objs.size + 1) s1.heap.objs.size (strIterType x) ?_, ⟨⟨.none, he⟩, hit, Nat.succ_ne_self _⟩, fun b hb => ?_, q⟩
    · unfold strIterType
      split
      · exact .inl rfl
      · exact .inr rfl
    have e' : b = s1.heap.objs.size + 1 ∨ b = s1.heap.objs.size := by simpa using hb
    have hle : s1.heap.objs.size ≤ b := by
      rcases e' with z | z
      · rw [z]; exact Nat.le_add_right _ _
      · rw [z]; exact Nat.le_refl _
    exact I1.fpOk hle (I1.hok.fresh hle)
/-- for i, c in enumerate(a text) -/
def mEnumS (m : EM) : IM := fun ρ => (m ρ).bind fun v ρ => match v with
  | .d (.str x) => .ok (enumL 0 (x.cps.toList.map fun c => D.str ⟨#[c]⟩)) ρ
  | _ => .bad
theorem jok_enumS {K : PySem.W.Frag} {mg : Str → Option Value} {F : Hp} {x : Str} : JOk K mg F (Itse x) (enumL 0 (x.cps.toList.map fun c => D.str ⟨#[c]⟩)) := by
  have at_ : ∀ {i : Nat} {d : D}, (x.cps.toList.map fun c => D.str ⟨#[c]⟩)[i]? = some d → ∃ c, x.cps[i]? = some c ∧ d = .str ⟨#[c]⟩ := fun {i d} h => by
    rw [List.getElem?_map] at h
    obtain ⟨c, h1, rfl⟩ := Option.map_eq_some_iff.mp h
    exact ⟨c, by rw [← h1]; simp, rfl⟩
  refine ⟨fun F2 H2 i e1 e2 hi => by
    rw [enumL_len] at hi
    show x.cps.size ≤ i
    simpa using hi, fun F2 H2 i iv e1 e2 hi => ?_, fun F2 H2 i iv y H' e1 e2 hi hy => ?_⟩
  · obtain ⟨d, h1, _⟩ := enumL_get hi
    obtain ⟨c, h2, _⟩ := at_ h1
    exact (Array.getElem?_eq_some_iff.mp h2).1
  · obtain ⟨d, h1, rfl⟩ := enumL_get hi
    obtain ⟨c, h2, rfl⟩ := at_ h1
    obtain ⟨T, c', rfl, hT, rfl, h3⟩ := hy
    rw [h2] at h3
    cases h3
    refine ⟨F2, ⟨Same.refl _, same_upd hT, e2.trans (same_upd hT), fun _ _ h => .inl h⟩, .pair (.inl (.inl upd_same)) ?_ (.str _)⟩
    rw [Nat.zero_add]
    exact .int _
section
variable {X : Cx} {W : WX} {e : Expr} {m : EM} {p pos tpos : Pos} {elts : List Expr} {kk : Nat}
theorem mi_enumS (hg : Gl X "enumerate") (hm : X.mg "enumerate" = none) (he : ME X W e m) (hs : starEach [e] X.env = [(false, eval e X.env)] := by rfl) (hs1 : starEach [e] X.env = (false, eval e X.env) :: starEach [] X.env := by rfl) :
    MI X W (.Tuple elts kk tpos) (.Call (.Name "enumerate" p) [e] [] pos) (mEnumS m) :=
  MI.weak (pi_enumS hg hm (pa_cons he pa_nil hs1) hs) fun {σ H Q G F ρ} S k => sub S (Gd.bind k fun v ρ1 F1 H1 x _ S1 e1 r1 k1 => by
    cases r1 with
    | d r =>
      cases r with
      | str z => exact ⟨z, rfl, k1 F1 H1 _ S1 (Same.refl _) jok_enumS⟩
      | _ => exact k1.elim
    | _ => exact k1.elim)
end
end Mi
set_option Elab.async false
set_option linter.all false
set_option maxRecDepth 100000
set_option maxHeartbeats 4000000
namespace K09
open PySem PySem.Spec PyProof.Rows L2 Mi
def exs : List (Str × Str) := [("BadCalling", "number"), ("BadText", "at"), ("TooLong", "number")]
def sub (c d : Str) : Bool := decide (c = d) || decide (d = "TouchError")
def tst_bool : Tst := ⟨false, true, false, false, false, false, false, []⟩
def tst_int : Tst := ⟨false, true, true, false, false, false, false, []⟩
def tst_str : Tst := ⟨false, false, false, true, false, false, false, []⟩
def flds : List (Str × Str) := [("CallReader", "at"), ("CallReader", "text"), ("CallReader", "depth")]
noncomputable def b__law_draw_1 : SM := (mSet 1 (mComp [2] (mSeqI (mVar 0)) (gN 2) (mYes) (mVar 2)))
noncomputable def b__law_draw_2 : SM := (mRet (mLst (mCons (mVar 1) (mCons (mC (.int 0)) (mCons (mC (.int 0)) (mCons (mC (.int 0)) (mCons (mC (.int 0)) (mCons (mB dAdd (mB dMod (mCB (g1 dInt) (mCons (mCB (g1 dSum) (mCons (mVar 1) mNil)) mNil)) (mC (.int 1000003))) (mB (dOr dMul dMulS) (mC (.int 7)) (mCB (g1 dLen) (mCons (mVar 1) mNil)))) mNil))))))))
noncomputable def b__law_draw : SM := (mSeq (b__law_draw_1) (b__law_draw_2))
noncomputable def m__law_draw : List Sl → DR := mDef 3 [] b__law_draw
noncomputable def b_repeats_1 : SM := (mSet 3 (mB dSub (mVar 2) (mVar 1)))
noncomputable def b_repeats_2 : SM := (mSet 4 (mLst mNil))
noncomputable def b_repeats_3 : SM := (mFor (mRng2 (mC (.int 1)) (mB dAdd (mB dDiv (mVar 3) (mC (.int 2))) (mC (.int 1)))) (gN 5) (mIfS ((mAnd (mTst (mB dEq (mB dMod (mVar 3) (mVar 5)) (mC (.int 0)))) (mTst (mB dEq (mSlS (mVar 0) (mPart (mB dAdd (mVar 1) (mVar 5))) (mPart (mVar 2))) (mSlS (mVar 0) (mPart (mVar 1)) (mPart (mB dSub (mVar 2) (mVar 5)))))))) (mDrop (mAppend 4 (mTup (mCons (mB dDiv (mVar 3) (mVar 5)) (mCons (mVar 5) mNil))))) mNext))
noncomputable def b_repeats_4 : SM := (mRet (mVar 4))
noncomputable def b_repeats : SM := (mSeq (b_repeats_1) (mSeq (b_repeats_2) (mSeq (b_repeats_3) (b_repeats_4))))
noncomputable def m_repeats : List Sl → DR := mDef 6 [] b_repeats
noncomputable def b_call_pieces_1 : SM := (mIfS (mTst (mB dEq (mB dSub (mVar 3) (mVar 2)) (mC (.int 1)))) (mRet (mLst (mCons (mB dIxS (mVar 0) (mVar 2)) mNil))) mNext)
noncomputable def b_call_pieces_2 : SM := (mSet 4 (mLst mNil))
noncomputable def b_call_pieces_3 : SM := (mFor (mSeqI (mCall [] m_repeats [] (mArg (mVar 0) (mArg (mVar 2) (mArg (mVar 3) mNil))))) (gT [5, 6]) (mIfS (mTst (mB dEq (mVar 6) (mC (.int 1)))) (mDrop (mAppend 4 (mJs [(mFmt (mVar 5)), (mFmt (mB dIxS (mVar 0) (mVar 2)))] Str.empty))) (mDrop (mAppend 4 (mJs [(mFmt (mVar 5)), (mC (.str "(")), (mFmt (mGetT (mVar 1) (mCons (mVar 2) (mCons (mB dAdd (mVar 2) (mVar 6)) mNil)))), (mC (.str ")"))] Str.empty)))))
noncomputable def b_call_pieces_4 : SM := (mRet (mVar 4))
noncomputable def b_call_pieces : SM := (mSeq (b_call_pieces_1) (mSeq (b_call_pieces_2) (mSeq (b_call_pieces_3) (b_call_pieces_4))))
noncomputable def m_call_pieces : List Sl → DR := mDef 7 [1] b_call_pieces
noncomputable def b_by_length : SM := (mRet (mTup (mCons (mCB (g1 dLen) (mCons (mVar 0) mNil)) (mCons (mVar 0) mNil))))
noncomputable def m_by_length : List Sl → DR := mDef 1 [] b_by_length
noncomputable def b_best_row_1 : SM := (mSet 5 (mLst mNil))
noncomputable def b_best_row_2 : SM := (mFor (mRng2 (mB dAdd (mVar 3) (mC (.int 1))) (mVar 4)) (gN 6) (mIfS (mTst (mB (dIsA true) (mGetT (mVar 1) (mCons (mVar 3) (mCons (mVar 6) mNil))) (mC .non))) (mDrop (mAppend 5 (mB dAdd (mB dAdd (mGetT (mVar 1) (mCons (mVar 3) (mCons (mVar 6) mNil))) (mVar 2)) (mGetT (mVar 0) (mCons (mVar 6) (mCons (mVar 4) mNil)))))) mNext))
noncomputable def b_best_row_3 : SM := (mIfS (mTst (mB (dIsA true) (mGetT (mVar 1) (mCons (mVar 3) (mCons (mVar 4) mNil))) (mC .non))) (mDrop (mAppend 5 (mGetT (mVar 1) (mCons (mVar 3) (mCons (mVar 4) mNil))))) mNext)
noncomputable def b_best_row_4 : SM := (mRet (mMinL (mVar 5)))
noncomputable def b_best_row : SM := (mSeq (b_best_row_1) (mSeq (b_best_row_2) (mSeq (b_best_row_3) (b_best_row_4))))
noncomputable def m_best_row : List Sl → DR := mDef 7 [0, 1] b_best_row
noncomputable def b_folded_1 : SM := (mSet 3 mDtNew)
noncomputable def b_folded_2 : SM := (mSet 4 mDtNew)
noncomputable def b_folded_3 : SM := (mFor (mRng2 (mC (.int 1)) (mB dAdd (mCB (g1 dLen) (mCons (mVar 0) mNil)) (mC (.int 1)))) (gN 5) (mFor (mRng1 (mB dAdd (mB dSub (mCB (g1 dLen) (mCons (mVar 0) mNil)) (mVar 5)) (mC (.int 1)))) (gN 6) (mSeq (mSet 7 (mB dAdd (mVar 6) (mVar 5))) (mSeq (mSet 8 (mCallV 2 "call_pieces" [1] m_call_pieces (mArg (mVar 0) (mLend 3 (mArg (mVar 6) (mArg (mVar 7) mNil)))))) (mSeq (mPutT 4 (mCons (mVar 6) (mCons (mVar 7) mNil)) (mIf (mTru (mVar 8)) (mMinL (mVar 8)) (mC .non))) (mPutT 3 (mCons (mVar 6) (mCons (mVar 7) mNil)) (mCall [0, 1] m_best_row [] (mLend 3 (mLend 4 (mArg (mVar 1) (mArg (mVar 6) (mArg (mVar 7) mNil))))))))))))
noncomputable def b_folded_4 : SM := (mRet (mGetT (mVar 3) (mCons (mC (.int 0)) (mCons (mCB (g1 dLen) (mCons (mVar 0) mNil)) mNil))))
noncomputable def b_folded : SM := (mSeq (b_folded_1) (mSeq (b_folded_2) (mSeq (b_folded_3) (b_folded_4))))
noncomputable def m_folded : List Sl → DR := mDef 9 [] b_folded
noncomputable def b_is_letter : SM := (mRet ((mAndV (mIsi tst_str (mVar 0)) (mAndV (mB dEq (mCB (g1 dLen) (mCons (mVar 0) mNil)) (mC (.int 1))) (mChain (dOr dLe dLeS) (dOr dLe dLeS) (mC (.str "a")) (mVar 0) (mC (.str "z")))))))
noncomputable def m_is_letter : List Sl → DR := mDef 1 [] b_is_letter
noncomputable def b_fold_calling_1 : SM := (mIfS (mNot (mTst (mIsi tst_str (mVar 0)))) (mRaise "BadCalling" "number" (mCons (mU dNeg (mC (.int 1))) mNil)) mNext)
noncomputable def b_fold_calling_2 : SM := (mFor (mEnumS (mVar 0)) (gT [1, 2]) (mIfS (mNot (mTst (mCall [] m_is_letter [] (mArg (mVar 2) mNil)))) (mRaise "BadCalling" "number" (mCons (mVar 1) mNil)) mNext))
noncomputable def b_fold_calling_3 : SM := (mIfS (mTst (mB dGt (mCB (g1 dLen) (mCons (mVar 0) mNil)) (mC (.int 40)))) (mRaise "TooLong" "number" (mCons (mCB (g1 dLen) (mCons (mVar 0) mNil)) mNil)) mNext)
noncomputable def b_fold_calling_4 : SM := (mIfS (mTst (mB dEq (mVar 0) (mC (.str "")))) (mRet (mC (.str ""))) mNext)
noncomputable def b_fold_calling_5 : SM := (mRet (mCall [] m_folded [] (mArg (mVar 0) (mArg (mC (.str "")) (mArg (mFn "call_pieces") mNil)))))
noncomputable def b_fold_calling : SM := (mSeq (b_fold_calling_1) (mSeq (b_fold_calling_2) (mSeq (b_fold_calling_3) (mSeq (b_fold_calling_4) (b_fold_calling_5)))))
noncomputable def m_fold_calling : List Sl → DR := mDef 3 [] b_fold_calling
def su__law_told (k : Ck) : SM := (mSeq (mIfS ((mAnd (mTst (mIsE (tblOf exs sub ["BadCalling"]) k (mVar 1))) (mNot (mTst (mIsE (tblOf exs sub ["TooLong"]) k (mVar 1)))))) (mRet (mTup (mCons (mC (.str "calling")) (mCons (mXf exs k "number" (mVar 1)) mNil)))) mNext) (mIfS ((mAnd (mTst (mIsE (tblOf exs sub ["TooLong"]) k (mVar 1))) (mNot (mTst (mIsE (tblOf exs sub ["BadCalling"]) k (mVar 1)))))) (mRet (mTup (mCons (mC (.str "long")) (mCons (mXf exs k "number" (mVar 1)) mNil)))) mNext))
noncomputable def b__law_told_1 : SM := (mTry (catOf exs) 1 (mRet (mTup (mCons (mC (.str "text")) (mCons (mCall [] m_fold_calling [] (mArg (mVar 0) mNil)) mNil)))) su__law_told)
noncomputable def b__law_told_2 : SM := (mRet (mTup (mCons (mC (.str "none")) (mCons (mC (.int 0)) mNil))))
noncomputable def b__law_told : SM := (mSeq (b__law_told_1) (b__law_told_2))
noncomputable def m__law_told : List Sl → DR := mDef 2 [] b__law_told
noncomputable def b_CallReader___init___1 : SM := (mIfS (mNot (mTst (mIsi tst_str (mVar 1)))) (mRaise "BadText" "at" (mCons (mU dNeg (mC (.int 1))) mNil)) mNext)
noncomputable def b_CallReader___init___2 : SM := (mPutF flds 0 "text" (mVar 1))
noncomputable def b_CallReader___init___3 : SM := (mPutF flds 0 "at" (mC (.int 0)))
noncomputable def b_CallReader___init___4 : SM := (mPutF flds 0 "depth" (mC (.int 0)))
noncomputable def b_CallReader___init__ : SM := (mSeq (b_CallReader___init___1) (mSeq (b_CallReader___init___2) (mSeq (b_CallReader___init___3) (b_CallReader___init___4))))
noncomputable def m_CallReader___init__ : List Sl → DR := mDef 2 [0] b_CallReader___init__
noncomputable def b_CallReader_digits_1 : SM := (mSet 1 (mFld flds 0 "at"))
noncomputable def b_CallReader_digits_2 : SM := (mWhile ((mAnd (mTst (mB (dOr dLt dLtS) (mVar 1) (mCB (g1 dLen) (mCons (mFld flds 0 "text") mNil)))) (mTst (mB (dInS false) (mB dIxS (mFld flds 0 "text") (mVar 1)) (mC (.str "0123456789")))))) (mAug 1 dAddI (mC (.int 1))))
noncomputable def b_CallReader_digits_3 : SM := (mRet (mSlS (mFld flds 0 "text") (mPart (mFld flds 0 "at")) (mPart (mVar 1))))
noncomputable def b_CallReader_digits : SM := (mSeq (b_CallReader_digits_1) (mSeq (b_CallReader_digits_2) (b_CallReader_digits_3)))
noncomputable def m_CallReader_digits : List Sl → DR := mDef 2 [0] b_CallReader_digits
noncomputable def b_CallReader_go_in_1 : SM := (mIfS (mTst (mB dEq (mFld flds 0 "depth") (mC (.int 6)))) (mRaise "BadText" "at" (mCons (mFld flds 0 "at") mNil)) mNext)
noncomputable def b_CallReader_go_in_2 : SM := (mAugF flds 0 "depth" (· + ·) (mC (.int 1)))
noncomputable def b_CallReader_go_in_3 : SM := (mAugF flds 0 "at" (· + ·) (mC (.int 1)))
noncomputable def b_CallReader_go_in : SM := (mSeq (b_CallReader_go_in_1) (mSeq (b_CallReader_go_in_2) (b_CallReader_go_in_3)))
noncomputable def m_CallReader_go_in : List Sl → DR := mDef 1 [0] b_CallReader_go_in
noncomputable def b_CallReader_go_out_1 : SM := (mAugF flds 0 "depth" (· - ·) (mC (.int 1)))
noncomputable def b_CallReader_go_out_2 : SM := (mAugF flds 0 "at" (· + ·) (mC (.int 1)))
noncomputable def b_CallReader_go_out : SM := (mSeq (b_CallReader_go_out_1) (b_CallReader_go_out_2))
noncomputable def m_CallReader_go_out : List Sl → DR := mDef 1 [0] b_CallReader_go_out
noncomputable def b_CallReader_sign : SM := (mRet (mSlS (mFld flds 0 "text") (mPart (mFld flds 0 "at")) (mPart (mB dAdd (mFld flds 0 "at") (mC (.int 1))))))
noncomputable def m_CallReader_sign : List Sl → DR := mDef 1 [0] b_CallReader_sign
noncomputable def b_number_told_1 : SM := (mIfS ((mOr (mTst (mB dEq (mVar 0) (mC (.str "")))) (mNot (mTst (mCB (g1 dAll) (mCons (mComp [4] (mStrI (mVar 0)) (gN 4) (mYes) (mB (dInS false) (mVar 4) (mC (.str "0123456789")))) mNil)))))) (mRet (mC .non)) mNext)
noncomputable def b_number_told_2 : SM := (mIfS ((mAnd (mTst (mB dEq (mB dIxS (mVar 0) (mC (.int 0))) (mC (.str "0")))) (mTst (mB dNe (mVar 0) (mC (.str "0")))))) (mRet (mC .non)) mNext)
noncomputable def b_number_told_3 : SM := (mSet 3 (mCB (g1 dIntS) (mCons (mVar 0) mNil)))
noncomputable def b_number_told_4 : SM := (mRet (mIf (mTst (mChain (dOr dLe dLeS) (dOr dLe dLeS) (mVar 1) (mVar 3) (mVar 2))) (mVar 3) (mC .non)))
noncomputable def b_number_told : SM := (mSeq (b_number_told_1) (mSeq (b_number_told_2) (mSeq (b_number_told_3) (b_number_told_4))))
noncomputable def m_number_told : List Sl → DR := mDef 5 [] b_number_told
noncomputable def b_CallReader_take_number_1 : SM := (mSet 3 (mMeth "CallReader" "digits" 0 [0] m_CallReader_digits mNil))
noncomputable def b_CallReader_take_number_2 : SM := (mSet 4 (mCall [] m_number_told [] (mArg (mVar 3) (mArg (mVar 1) (mArg (mVar 2) mNil)))))
noncomputable def b_CallReader_take_number_3 : SM := (mIfS (mTst (mB (dIsA false) (mVar 4) (mC .non))) (mRaise "BadText" "at" (mCons (mFld flds 0 "at") mNil)) mNext)
noncomputable def b_CallReader_take_number_4 : SM := (mAugF flds 0 "at" (· + ·) (mCB (g1 dLen) (mCons (mVar 3) mNil)))
noncomputable def b_CallReader_take_number_5 : SM := (mRet (mVar 4))
noncomputable def b_CallReader_take_number : SM := (mSeq (b_CallReader_take_number_1) (mSeq (b_CallReader_take_number_2) (mSeq (b_CallReader_take_number_3) (mSeq (b_CallReader_take_number_4) (b_CallReader_take_number_5)))))
noncomputable def m_CallReader_take_number : List Sl → DR := mDef 5 [0] b_CallReader_take_number
noncomputable def b_CallReader_one_item_1 (self : List Sl → DR) : SM := (mSet 1 (mC (.int 1)))
noncomputable def b_CallReader_one_item_2 (self : List Sl → DR) : SM := (mIfS (mTst (mB dNe (mMeth "CallReader" "digits" 0 [0] m_CallReader_digits mNil) (mC (.str "")))) (mSeq (mSet 1 (mMeth "CallReader" "take_number" 0 [0] m_CallReader_take_number (mArg (mC (.int 2)) (mArg (mC (.int 99)) mNil)))) (mIfS (mTst (mB dEq (mMeth "CallReader" "sign" 0 [0] m_CallReader_sign mNil) (mC (.str "(")))) (mSeq (mDrop (mMeth "CallReader" "go_in" 0 [0] m_CallReader_go_in mNil)) (mSeq (mAsg (gT [2, 3]) (mMeth "CallReader" "all_items" 0 [0] self (mArg (mC (.str ")")) mNil))) (mSeq (mDrop (mMeth "CallReader" "go_out" 0 [0] m_CallReader_go_out mNil)) (mRet (mTup (mCons (mB (dOr dMul dMulS) (mVar 1) (mVar 2)) (mCons (mB (dOr dMul dMulS) (mVar 3) (mVar 1)) mNil))))))) mNext)) mNext)
noncomputable def b_CallReader_one_item_3 (self : List Sl → DR) : SM := (mSet 4 (mMeth "CallReader" "sign" 0 [0] m_CallReader_sign mNil))
noncomputable def b_CallReader_one_item_4 (self : List Sl → DR) : SM := (mIfS (mNot (mTst (mCall [] m_is_letter [] (mArg (mVar 4) mNil)))) (mRaise "BadText" "at" (mCons (mFld flds 0 "at") mNil)) mNext)
noncomputable def b_CallReader_one_item_5 (self : List Sl → DR) : SM := (mAugF flds 0 "at" (· + ·) (mC (.int 1)))
noncomputable def b_CallReader_one_item_6 (self : List Sl → DR) : SM := (mRet (mTup (mCons (mVar 1) (mCons (mB (dOr dMul dMulS) (mVar 4) (mVar 1)) mNil))))
noncomputable def b_CallReader_one_item (self : List Sl → DR) : SM := (mSeq (b_CallReader_one_item_1 self) (mSeq (b_CallReader_one_item_2 self) (mSeq (b_CallReader_one_item_3 self) (mSeq (b_CallReader_one_item_4 self) (mSeq (b_CallReader_one_item_5 self) (b_CallReader_one_item_6 self))))))
noncomputable def m_CallReader_one_item (self : List Sl → DR) : List Sl → DR := mDef 5 [0] (b_CallReader_one_item self)
noncomputable def b_CallReader_all_items_1 (self : List Sl → DR) : SM := (mSet 2 (mC (.int 0)))
noncomputable def b_CallReader_all_items_2 (self : List Sl → DR) : SM := (mSet 3 (mC (.str "")))
noncomputable def b_CallReader_all_items_3 (self : List Sl → DR) : SM := (mWhile (mTst (mC (.bl true))) (mSeq (mAsg (gT [4, 5]) (mMeth "CallReader" "one_item" 0 [0] (m_CallReader_one_item self) mNil)) (mSeq (mSet 2 (mB dAdd (mVar 2) (mVar 4))) (mSeq (mSet 3 (mIf (mTst (mB (dOr dLe dLeS) (mVar 2) (mC (.int 400)))) (mB dAdd (mVar 3) (mVar 5)) (mC (.str "")))) (mIfS (mTst (mB dEq (mMeth "CallReader" "sign" 0 [0] m_CallReader_sign mNil) (mVar 1))) (mRet (mTup (mCons (mVar 2) (mCons (mVar 3) mNil)))) mNext)))))
noncomputable def b_CallReader_all_items (self : List Sl → DR) : SM := (mSeq (b_CallReader_all_items_1 self) (mSeq (b_CallReader_all_items_2 self) (b_CallReader_all_items_3 self)))
noncomputable def m_CallReader_all_items : Nat → List Sl → DR
  | 0 => fun _ => .bad
  | n + 1 => mDef 6 [0] (b_CallReader_all_items (m_CallReader_all_items n))
noncomputable def b_read_calling_1 : SM := (mSet 1 (mMake "CallReader" m_CallReader___init__ (mArg (mVar 0) mNil)))
noncomputable def b_read_calling_2 : SM := (mAsg (gT [2, 3]) (mIf (mTst (mB dEq (mMeth "CallReader" "sign" 1 [0] m_CallReader_sign mNil) (mC (.str "")))) (mTup (mCons (mC (.int 0)) (mCons (mC (.str "")) mNil))) (mMeth "CallReader" "all_items" 1 [0] (m_CallReader_all_items 8) (mArg (mC (.str "")) mNil))))
noncomputable def b_read_calling_3 : SM := (mIfS (mTst (mB dGt (mVar 2) (mC (.int 400)))) (mRaise "TooLong" "number" (mCons (mVar 2) mNil)) mNext)
noncomputable def b_read_calling_4 : SM := (mRet (mVar 3))
noncomputable def b_read_calling : SM := (mSeq (b_read_calling_1) (mSeq (b_read_calling_2) (mSeq (b_read_calling_3) (b_read_calling_4))))
noncomputable def m_read_calling : List Sl → DR := mDef 4 [] b_read_calling
noncomputable def b__law_is_folded_1 : SM := (mSet 2 (mCall [] m__law_told [] (mArg (mVar 0) mNil)))
noncomputable def b__law_is_folded_2 : SM := (mIfS ((mOr (mTst (mB dNe (mB dIx (mVar 2) (mC (.int 0))) (mC (.str "text")))) (mOr (mNot (mTst (mIsi tst_str (mB dIx (mVar 2) (mC (.int 1)))))) (mTst (mB dNe (mB dIx (mVar 2) (mC (.int 1))) (mVar 1)))))) (mRet (mC (.bl false))) mNext)
noncomputable def b__law_is_folded_3 : SM := (mRet (mB dEq (mCall [] m_read_calling [] (mArg (mB dIx (mVar 2) (mC (.int 1))) mNil)) (mVar 0)))
noncomputable def b__law_is_folded : SM := (mSeq (b__law_is_folded_1) (mSeq (b__law_is_folded_2) (b__law_is_folded_3)))
noncomputable def m__law_is_folded : List Sl → DR := mDef 3 [] b__law_is_folded
noncomputable def b__law_mix_1 : SM := (mSet 2 (mB dMod (mCB (g1 dInt) (mCons (mB dAdd (mB dAdd (mB (dOr dMul dMulS) (mVar 0) (mC (.int 48271))) (mB (dOr dMul dMulS) (mVar 1) (mC (.int 69621)))) (mC (.int 12345))) mNil)) (mC (.int 2147483647))))
noncomputable def b__law_mix_2 : SM := (mSet 3 (mB dMod (mCB (g1 dInt) (mCons (mB dAdd (mB dAdd (mB (dOr dMul dMulS) (mVar 2) (mVar 2)) (mB (dOr dMul dMulS) (mVar 1) (mC (.int 7919)))) (mVar 0)) mNil)) (mC (.int 998244353))))
noncomputable def b__law_mix_3 : SM := (mSet 3 (mB dMod (mCB (g1 dInt) (mCons (mB dAdd (mB (dOr dMul dMulS) (mVar 3) (mVar 3)) (mVar 2)) mNil)) (mC (.int 1000000007))))
noncomputable def b__law_mix_4 : SM := (mRet (mB dDiv (mVar 3) (mC (.int 8))))
noncomputable def b__law_mix : SM := (mSeq (b__law_mix_1) (mSeq (b__law_mix_2) (mSeq (b__law_mix_3) (b__law_mix_4))))
noncomputable def m__law_mix : List Sl → DR := mDef 4 [] b__law_mix
noncomputable def b__law_pick_1 : SM := (mIfS (mTst (mB (dOr dLt dLtS) (mVar 1) (mC (.int 2)))) (mRet (mC (.int 0))) mNext)
noncomputable def b__law_pick_2 : SM := (mIfS ((mAnd (mTst (mB dEq (mB dIx (mVar 0) (mC (.int 2))) (mC (.int 0)))) (mAnd (mTst (mB (dOr dLt dLtS) (mB dIx (mVar 0) (mC (.int 1))) (mCB (g1 dLen) (mCons (mB dIx (mVar 0) (mC (.int 0))) mNil)))) (mTst (mB dEq (mB dIx (mVar 0) (mC (.int 3))) (mC (.int 0))))))) (mSeq (mSet 2 (mB dIx (mB dIx (mVar 0) (mC (.int 0))) (mB dIx (mVar 0) (mC (.int 1))))) (mIfS ((mOr (mTst (mB dGe (mVar 2) (mB dPow (mC (.int 10)) (mC (.int 18))))) (mTst (mB (dOr dLe dLeS) (mVar 2) (mU dNeg (mB dPow (mC (.int 10)) (mC (.int 18)))))))) (mSeq (mSetIx 0 (mC (.int 2)) (mB dMod (mCB (g1 dInt) (mCons (mCB (g1 dAbs) (mCons (mVar 2) mNil)) mNil)) (mB dPow (mB dPow (mC (.int 10)) (mC (.int 60))) (mC (.int 64))))) (mSetIx 0 (mC (.int 1)) (mB dAdd (mB dIx (mVar 0) (mC (.int 1))) (mC (.int 1))))) mNext)) mNext)
noncomputable def b__law_pick_3 : SM := (mIfS (mTst (mB dGt (mB dIx (mVar 0) (mC (.int 2))) (mC (.int 0)))) (mSeq (mSet 3 (mB dMod (mCB (g1 dInt) (mCons (mB dIx (mVar 0) (mC (.int 2))) mNil)) (mVar 1))) (mSeq (mSetIx 0 (mC (.int 2)) (mB dDiv (mB dIx (mVar 0) (mC (.int 2))) (mVar 1))) (mRet (mVar 3)))) mNext)
noncomputable def b__law_pick_4 : SM := (mIfS (mTst (mB (dOr dLt dLtS) (mB dIx (mVar 0) (mC (.int 1))) (mCB (g1 dLen) (mCons (mB dIx (mVar 0) (mC (.int 0))) mNil)))) (mSeq (mSet 2 (mB dIx (mB dIx (mVar 0) (mC (.int 0))) (mB dIx (mVar 0) (mC (.int 1))))) (mSeq (mSetIx 0 (mC (.int 3)) (mB dAdd (mB dIx (mVar 0) (mC (.int 3))) (mC (.int 1)))) (mSeq (mSet 4 (mB dMod (mCB (g1 dInt) (mCons (mCall [] m__law_mix [] (mArg (mB dAdd (mVar 2) (mB (dOr dMul dMulS) (mC (.int 31)) (mB dIx (mVar 0) (mC (.int 1))))) (mArg (mB dIx (mVar 0) (mC (.int 3))) mNil))) mNil)) (mVar 1))) (mSeq (mIfS (mTst (mB dEq (mB dIx (mVar 0) (mC (.int 3))) (mC (.int 6)))) (mSeq (mSetIx 0 (mC (.int 3)) (mC (.int 0))) (mSetIx 0 (mC (.int 1)) (mB dAdd (mB dIx (mVar 0) (mC (.int 1))) (mC (.int 1))))) mNext) (mRet (mVar 4)))))) mNext)
noncomputable def b__law_pick_5 : SM := (mSetIx 0 (mC (.int 4)) (mB dAdd (mB dIx (mVar 0) (mC (.int 4))) (mC (.int 1))))
noncomputable def b__law_pick_6 : SM := (mRet (mB dMod (mCB (g1 dInt) (mCons (mCall [] m__law_mix [] (mArg (mB dIx (mVar 0) (mC (.int 5))) (mArg (mB dAdd (mB dIx (mVar 0) (mC (.int 4))) (mC (.int 100))) mNil))) mNil)) (mVar 1)))
noncomputable def b__law_pick : SM := (mSeq (b__law_pick_1) (mSeq (b__law_pick_2) (mSeq (b__law_pick_3) (mSeq (b__law_pick_4) (mSeq (b__law_pick_5) (b__law_pick_6))))))
noncomputable def m__law_pick : List Sl → DR := mDef 5 [0] b__law_pick
noncomputable def b__law_letters_of_1 : SM := (mSet 1 (mC (.str "abcdefghijklmnopqrstuvwxyz")))
noncomputable def b__law_letters_of_2 : SM := (mSet 1 (mJoin (mC (.str "")) (mComp [3] (mRng1 (mB dAdd (mC (.int 1)) (mCall [0] m__law_pick [] (mLend 0 (mArg (mC (.int 3)) mNil))))) (gN 3) (mYes) (mB dIxS (mVar 1) (mCall [0] m__law_pick [] (mLend 0 (mArg (mC (.int 26)) mNil)))))))
noncomputable def b__law_letters_of_3 : SM := (mSet 2 (mJoin (mC (.str "")) (mComp [3] (mRng1 (mCall [0] m__law_pick [] (mLend 0 (mArg (mC (.int 6)) mNil)))) (gN 3) (mYes) (mB dIxS (mVar 1) (mCall [0] m__law_pick [] (mLend 0 (mArg (mCB (g1 dLen) (mCons (mVar 1) mNil)) mNil)))))))
noncomputable def b__law_letters_of_4 : SM := (mFor (mRng1 (mCall [0] m__law_pick [] (mLend 0 (mArg (mC (.int 6)) mNil)))) (gN 3) (mSeq (mSet 4 (mCall [0] m__law_pick [] (mLend 0 (mArg (mC (.int 5)) mNil)))) (mSeq (mSet 5 (mB dIxS (mVar 1) (mCall [0] m__law_pick [] (mLend 0 (mArg (mCB (g1 dLen) (mCons (mVar 1) mNil)) mNil))))) (mSeq (mIfS (mTst (mB (dOr dLt dLtS) (mVar 4) (mC (.int 2)))) (mSet 2 (mB (dOr dMul dMulS) (mVar 2) (mB dAdd (mC (.int 2)) (mCall [0] m__law_pick [] (mLend 0 (mArg (mC (.int 3)) mNil)))))) (mIfS (mTst (mB dEq (mVar 4) (mC (.int 2)))) (mSet 2 (mB dAdd (mVar 2) (mB (dOr dMul dMulS) (mVar 5) (mB dAdd (mC (.int 1)) (mCall [0] m__law_pick [] (mLend 0 (mArg (mC (.int 12)) mNil))))))) (mIfS (mTst (mB dEq (mVar 4) (mC (.int 3)))) (mSet 2 (mB dAdd (mVar 2) (mVar 5))) (mSet 2 (mB dAdd (mVar 5) (mVar 2)))))) (mSet 2 (mSlS (mVar 2) mNoP (mPart (mC (.int 40)))))))))
noncomputable def b__law_letters_of_5 : SM := (mIfS ((mAnd (mTst (mB dGt (mCB (g1 dLen) (mCons (mVar 2) mNil)) (mC (.int 0)))) (mTst (mB dEq (mCall [0] m__law_pick [] (mLend 0 (mArg (mC (.int 3)) mNil))) (mC (.int 2)))))) (mSeq (mSet 6 (mCall [0] m__law_pick [] (mLend 0 (mArg (mCB (g1 dLen) (mCons (mVar 2) mNil)) mNil)))) (mSet 2 (mB dAdd (mB dAdd (mSlS (mVar 2) mNoP (mPart (mVar 6))) (mB dIxS (mVar 1) (mCall [0] m__law_pick [] (mLend 0 (mArg (mCB (g1 dLen) (mCons (mVar 1) mNil)) mNil))))) (mSlS (mVar 2) (mPart (mB dAdd (mVar 6) (mC (.int 1)))) mNoP)))) mNext)
noncomputable def b__law_letters_of_6 : SM := (mRet (mVar 2))
noncomputable def b__law_letters_of : SM := (mSeq (b__law_letters_of_1) (mSeq (b__law_letters_of_2) (mSeq (b__law_letters_of_3) (mSeq (b__law_letters_of_4) (mSeq (b__law_letters_of_5) (b__law_letters_of_6))))))
noncomputable def m__law_letters_of : List Sl → DR := mDef 7 [0] b__law_letters_of
noncomputable def b__law_is_int : SM := (mRet ((mAndV (mIsi tst_int (mVar 0)) (mNotV (mIsi tst_bool (mVar 0))))))
noncomputable def m__law_is_int : List Sl → DR := mDef 1 [] b__law_is_int
noncomputable def b__law_is_refused_1 : SM := (mSet 3 (mCall [] m__law_told [] (mArg (mVar 0) mNil)))
noncomputable def b__law_is_refused_2 : SM := (mRet ((mAndV (mB dEq (mB dIx (mVar 3) (mC (.int 0))) (mVar 1)) (mAndV (mCall [] m__law_is_int [] (mArg (mB dIx (mVar 3) (mC (.int 1))) mNil)) (mB dEq (mB dIx (mVar 3) (mC (.int 1))) (mVar 2))))))
noncomputable def b__law_is_refused : SM := (mSeq (b__law_is_refused_1) (b__law_is_refused_2))
noncomputable def m__law_is_refused : List Sl → DR := mDef 4 [] b__law_is_refused
noncomputable def b__law_refusals_1 : SM := (mSet 2 (mB dAdd (mC (.int 41)) (mCall [0] m__law_pick [] (mLend 0 (mArg (mB dIx (mLst (mCons (mC (.int 2)) (mCons (mC (.int 360)) mNil))) (mCall [0] m__law_pick [] (mLend 0 (mArg (mC (.int 2)) mNil)))) mNil)))))
noncomputable def b__law_refusals_2 : SM := (mSet 3 (mB (dOr dMul dMulS) (mB dAdd (mVar 1) (mC (.str "ab"))) (mVar 2)))
noncomputable def b__law_refusals_3 : SM := (mSet 3 (mSlS (mVar 3) mNoP (mPart (mVar 2))))
noncomputable def b__law_refusals_4 : SM := (mSet 4 (mCall [0] m__law_pick [] (mLend 0 (mArg (mB dAdd (mCB (g1 dLen) (mCons (mVar 1) mNil)) (mC (.int 1))) mNil))))
noncomputable def b__law_refusals_5 : SM := (mSet 5 (mB dIxS (mC (.str "A1(Z -~{.0")) (mCall [0] m__law_pick [] (mLend 0 (mArg (mC (.int 10)) mNil)))))
noncomputable def b__law_refusals_6 : SM := (mSet 6 (mB dIx (mLst (mCons (mC .non) (mCons (mC (.int 7)) (mCons (mC (.bl true)) (mCons (mLst (mCons (mC (.str "a")) mNil)) (mCons (mTup (mCons (mC (.str "a")) mNil)) (mCons (mU dNeg (mC (.int 1))) mNil))))))) (mCall [0] m__law_pick [] (mLend 0 (mArg (mC (.int 6)) mNil)))))
noncomputable def b__law_refusals_7 : SM := (mIfS ((mOr (mNot (mTst (mCall [] m__law_is_refused [] (mArg (mVar 3) (mArg (mC (.str "long")) (mArg (mVar 2) mNil)))))) (mNot (mTst (mCall [] m__law_is_refused [] (mArg (mVar 6) (mArg (mC (.str "calling")) (mArg (mU dNeg (mC (.int 1))) mNil)))))))) (mRet (mC (.bl false))) mNext)
noncomputable def b__law_refusals_8 : SM := (mIfS (mNot (mTst (mCall [] m__law_is_refused [] (mArg (mB dAdd (mB dAdd (mB dAdd (mSlS (mVar 1) mNoP (mPart (mVar 4))) (mVar 5)) (mSlS (mVar 1) (mPart (mVar 4)) mNoP)) (mVar 5)) (mArg (mC (.str "calling")) (mArg (mVar 4) mNil)))))) (mRet (mC (.bl false))) mNext)
noncomputable def b__law_refusals_9 : SM := (mRet (mCall [] m__law_is_refused [] (mArg (mB dAdd (mB dAdd (mSlS (mVar 3) mNoP (mPart (mVar 4))) (mVar 5)) (mSlS (mVar 3) (mPart (mB dAdd (mVar 4) (mC (.int 1)))) mNoP)) (mArg (mC (.str "calling")) (mArg (mVar 4) mNil)))))
noncomputable def b__law_refusals : SM := (mSeq (b__law_refusals_1) (mSeq (b__law_refusals_2) (mSeq (b__law_refusals_3) (mSeq (b__law_refusals_4) (mSeq (b__law_refusals_5) (mSeq (b__law_refusals_6) (mSeq (b__law_refusals_7) (mSeq (b__law_refusals_8) (b__law_refusals_9)))))))))
noncomputable def m__law_refusals : List Sl → DR := mDef 7 [0] b__law_refusals
noncomputable def b__law_first_1 : SM := (mSet 1 (mB dIx (mVar 0) (mC (.int 0))))
noncomputable def b__law_first_2 : SM := (mFor (mSeqI (mVar 0)) (gN 2) (mIfS ((mOr (mTst (mB (dOr dLt dLtS) (mCB (g1 dLen) (mCons (mVar 2) mNil)) (mCB (g1 dLen) (mCons (mVar 1) mNil)))) ((mAnd (mTst (mB dEq (mCB (g1 dLen) (mCons (mVar 2) mNil)) (mCB (g1 dLen) (mCons (mVar 1) mNil)))) (mTst (mB (dOr dLt dLtS) (mVar 2) (mVar 1))))))) (mSet 1 (mVar 2)) mNext))
noncomputable def b__law_first_3 : SM := (mRet (mVar 1))
noncomputable def b__law_first : SM := (mSeq (b__law_first_1) (mSeq (b__law_first_2) (b__law_first_3)))
noncomputable def m__law_first : List Sl → DR := mDef 3 [] b__law_first
noncomputable def b__law_texts_1 : SM := (mSet 4 (mB dSub (mVar 3) (mVar 2)))
noncomputable def b__law_texts_2 : SM := (mIfS (mTst (mB dEq (mVar 4) (mC (.int 1)))) (mRet (mLst (mCons (mB dIxS (mVar 0) (mVar 2)) mNil))) mNext)
noncomputable def b__law_texts_3 : SM := (mSet 5 (mComp [7] (mRng2 (mB dAdd (mVar 2) (mC (.int 1))) (mVar 3)) (gN 7) (mYes) (mB dAdd (mGetT (mVar 1) (mCons (mVar 2) (mCons (mVar 7) mNil))) (mGetT (mVar 1) (mCons (mVar 7) (mCons (mVar 3) mNil))))))
noncomputable def b__law_texts_4 : SM := (mIfS (mTst (mB dEq (mSlS (mVar 0) (mPart (mVar 2)) (mPart (mVar 3))) (mB (dOr dMul dMulS) (mB dIxS (mVar 0) (mVar 2)) (mVar 4)))) (mDrop (mAppend 5 (mB dAdd (mCB (g1 dStr) (mCons (mVar 4) mNil)) (mB dIxS (mVar 0) (mVar 2))))) mNext)
noncomputable def b__law_texts_5 : SM := (mFor (mRng2 (mC (.int 1)) (mVar 4)) (gN 6) (mIfS ((mAnd (mTst (mB dEq (mB dMod (mCB (g1 dInt) (mCons (mVar 4) mNil)) (mVar 6)) (mC (.int 0)))) (mTst (mB dEq (mSlS (mVar 0) (mPart (mVar 2)) (mPart (mVar 3))) (mB (dOr dMul dMulS) (mSlS (mVar 0) (mPart (mVar 2)) (mPart (mB dAdd (mVar 2) (mVar 6)))) (mB dDiv (mVar 4) (mVar 6))))))) (mDrop (mAppend 5 (mB dAdd (mB dAdd (mB dAdd (mCB (g1 dStr) (mCons (mB dDiv (mVar 4) (mVar 6)) mNil)) (mC (.str "("))) (mGetT (mVar 1) (mCons (mVar 2) (mCons (mB dAdd (mVar 2) (mVar 6)) mNil)))) (mC (.str ")"))))) mNext))
noncomputable def b__law_texts_6 : SM := (mRet (mVar 5))
noncomputable def b__law_texts : SM := (mSeq (b__law_texts_1) (mSeq (b__law_texts_2) (mSeq (b__law_texts_3) (mSeq (b__law_texts_4) (mSeq (b__law_texts_5) (b__law_texts_6))))))
noncomputable def m__law_texts : List Sl → DR := mDef 8 [1] b__law_texts
noncomputable def b__law_table_1 : SM := (mSet 1 (mDispT 0 0 ""))
noncomputable def b__law_table_2 : SM := (mFor (mRng2 (mC (.int 1)) (mB dAdd (mCB (g1 dLen) (mCons (mVar 0) mNil)) (mC (.int 1)))) (gN 2) (mFor (mRng1 (mB dAdd (mB dSub (mCB (g1 dLen) (mCons (mVar 0) mNil)) (mVar 2)) (mC (.int 1)))) (gN 3) (mPutT 1 (mCons (mVar 3) (mCons (mB dAdd (mVar 3) (mVar 2)) mNil)) (mCall [] m__law_first [] (mArg (mCall [1] m__law_texts [] (mArg (mVar 0) (mLend 1 (mArg (mVar 3) (mArg (mB dAdd (mVar 3) (mVar 2)) mNil))))) mNil)))))
noncomputable def b__law_table_3 : SM := (mRet (mVar 1))
noncomputable def b__law_table : SM := (mSeq (b__law_table_1) (mSeq (b__law_table_2) (b__law_table_3)))
noncomputable def m__law_table : List Sl → DR := mDef 4 [] b__law_table
noncomputable def b_law_1 : SM := (mSet 1 (mCall [] m__law_draw [] (mArg (mVar 0) mNil)))
noncomputable def b_law_2 : SM := (mSet 2 (mLst mNil))
noncomputable def b_law_3 : SM := (mFor (mRng1 (mC (.int 2))) (gN 3) (mSeq (mSet 4 (mCall [0] m__law_letters_of [] (mLend 1 mNil))) (mSeq (mSet 5 (mCall [] m__law_table [] (mArg (mVar 4) mNil))) (mSeq (mSet 6 (mCall [0] m__law_pick [] (mLend 1 (mArg (mB dAdd (mCB (g1 dLen) (mCons (mVar 4) mNil)) (mC (.int 1))) mNil)))) (mSeq (mSet 7 (mB dAdd (mVar 6) (mCall [0] m__law_pick [] (mLend 1 (mArg (mB dAdd (mB dSub (mCB (g1 dLen) (mCons (mVar 4) mNil)) (mVar 6)) (mC (.int 1))) mNil))))) (mSeq (mDrop (mAppend 2 (mTup (mCons (mVar 4) (mCons (mGetT (mVar 5) (mCons (mC (.int 0)) (mCons (mCB (g1 dLen) (mCons (mVar 4) mNil)) mNil))) mNil))))) (mIfS (mTst (mB (dOr dLt dLtS) (mVar 6) (mVar 7))) (mDrop (mAppend 2 (mTup (mCons (mSlS (mVar 4) (mPart (mVar 6)) (mPart (mVar 7))) (mCons (mGetT (mVar 5) (mCons (mVar 6) (mCons (mVar 7) mNil))) mNil))))) mNext)))))))
noncomputable def b_law_4 : SM := (mIfS (mNot (mTst (mCall [0] m__law_refusals [] (mLend 1 (mArg (mB dIx (mB dIx (mVar 2) (mC (.int 0))) (mC (.int 0))) mNil))))) (mRet (mC (.bl false))) mNext)
noncomputable def b_law_5 : SM := (mFor (mSeqI (mB dAdd (mVar 2) (mSl (mVar 2) mNoP (mPart (mC (.int 1)))))) (gT [4, 8]) (mIfS (mNot (mTst (mCall [] m__law_is_folded [] (mArg (mVar 4) (mArg (mVar 8) mNil))))) (mRet (mC (.bl false))) mNext))
noncomputable def b_law_6 : SM := (mRet (mC (.bl true)))
noncomputable def b_law : SM := (mSeq (b_law_1) (mSeq (b_law_2) (mSeq (b_law_3) (mSeq (b_law_4) (mSeq (b_law_5) (b_law_6))))))
noncomputable def m_law : List Sl → DR := mDef 9 [] b_law
end K09
set_option Elab.async false
set_option linter.all false
set_option maxRecDepth 100000
set_option maxHeartbeats 2000000
/-! Mi, part Ev: how mirrors are reckoned out: rules for the simplifier, with bounds as side goals. -/
namespace Mi
open PySem
theorem e_mulr {a b : Int} (h1 : -(2 ^ 64) < b) (h2 : b < 2 ^ 64) : dMul (.int a) (.int b) = some (.int (a * b)) := if_pos (.inr ⟨h1, h2⟩)
theorem e_mull {a b : Int} (h1 : -(2 ^ 64) < a) (h2 : a < 2 ^ 64) : dMul (.int a) (.int b) = some (.int (a * b)) := if_pos (.inl ⟨h1, h2⟩)
theorem e_add {a b : Int} : dAdd (.int a) (.int b) = some (.int (a + b)) := rfl
theorem e_sub {a b : Int} : dSub (.int a) (.int b) = some (.int (a - b)) := rfl
theorem e_neg {a : Int} : dNeg (.int a) = some (.int (-a)) := rfl
theorem e_div {a b : Int} (h1 : 0 < b) (h2 : b < 1073741824) : dDiv (.int a) (.int b) = some (.int (a / b)) := if_pos ⟨h1, h2⟩
theorem e_mod {a b : Int} (h1 : 0 < b) : dMod (.int a) (.int b) = some (.int (a % b)) := if_pos h1
theorem e_lt {a b : Int} : dLt (.int a) (.int b) = some (.bl (decide (a < b))) := rfl
theorem e_le {a b : Int} : dLe (.int a) (.int b) = some (.bl (decide (a ≤ b))) := rfl
theorem e_gt {a b : Int} : dGt (.int a) (.int b) = some (.bl (decide (b < a))) := rfl
theorem e_ge {a b : Int} : dGe (.int a) (.int b) = some (.bl (decide (b ≤ a))) := rfl
theorem e_bind {α β : Type} {a : α} {ρ : En} {f : α → En → R β} : (R.ok a ρ).bind f = f a ρ := rfl
theorem e_bindB {α β : Type} {f : α → En → R β} : (R.bad : R α).bind f = .bad := rfl
theorem e_st {α : Type} {a : α} {ρ : En} {f : α → En → SR} : (R.ok a ρ).st f = f a ρ := rfl
theorem e_int {a b : Int} : dEq (.int a) (.int b) = some (.bl (decide (a = b))) := by
  show (if (true && true) = true then some (D.bl (PyData.eqv (.int a) (.int b))) else none) = _
  by_cases h : a = b <;> simp [PyData.eqv, h]
theorem e_nint {a b : Int} : dNe (.int a) (.int b) = some (.bl (!decide (a = b))) := by
  show (if (true && true) = true then some (D.bl (!PyData.eqv (.int a) (.int b))) else none) = _
  by_cases h : a = b <;> simp [PyData.eqv, h]
end Mi
set_option Elab.async false
set_option linter.all false
set_option maxRecDepth 100000
set_option maxHeartbeats 2000000
/-! Mi, part Ew: comprehensions over one name, reckoned as maps and filters. -/
namespace Mi
open PySem
theorem set_same {ρ : En} {v : Nat} {s t : Sl} (h : ρ[v]? = some s) : (ρ.set v t).set v s = ρ := by
  rw [List.set_set]
  have hv : v < ρ.length := (List.getElem?_eq_some_iff.mp h).1
  have := (List.getElem?_eq_some_iff.mp h).2
  rw [← this, List.set_getElem_self]
theorem canSet_set {ρ : En} {v : Nat} {d : D} (hv : v < ρ.length) : canSet (ρ.set v (.val d)) v = true := by
  unfold canSet
  rw [List.getElem?_set_self hv]
theorem compL_map {v : Nat} {te : EM} {ρ : En} {f : D → D} (hρ : ρ[v]? = some .un) : ∀ {ys acc : List D}, (∀ d ∈ ys, ∃ o, te (ρ.set v (.val d)) = .ok o (ρ.set v (.val d)) ∧ esc o.fz (ρ.set v (.val d)) = some (f d, ρ.set v (.val d))) → acc.length + ys.length ≤ BIG → compL [v] (gN v) mYes te (ys.map .one) acc ρ = .ok (acc ++ ys.map f) ρ
  | [], acc, _, _ => by
    unfold compL
    simp
  | y :: ys, acc, hf, hl => by
    have hv : v < ρ.length := (List.getElem?_eq_some_iff.mp hρ).1
    have hc : canSet ρ v = true := by
      unfold canSet
      rw [hρ]
    obtain ⟨o, h1, h2⟩ := hf y (List.mem_cons_self ..)
    have hl2 : acc.length < BIG := by
      rw [List.length_cons] at hl
      omega
    have ih := compL_map (v := v) (te := te) (f := f) hρ (ys := ys) (acc := acc ++ [f y]) (fun d hd => hf d (List.mem_cons_of_mem _ hd)) (by simp at hl ⊢; omega)
    rw [List.map_cons]
    unfold compL
    have g1 : gN v (IV.one y) ρ = some (ρ.set v (.val y)) := if_pos hc
    simp only [g1, mYes, h1, h2, if_pos hl2]
    have g2 : [v].all (canSet (ρ.set v (.val y))) = true := by simp [canSet_set hv]
    have g3 : wipeE (ρ.set v (.val y)) [v] = ρ := set_same hρ
    rw [if_pos g2, g3, ih]
    simp
theorem noOw_get {ρ : En} {v : Nat} (h : noOw ρ v = true) : ∃ s, ρ[v]? = some s := by
  unfold noOw at h
  cases q : ρ[v]? with
  | none => simp [q] at h
  | some s => exact ⟨s, rfl⟩
/-- [e for v in ...], e a plain function of v -/
theorem comp_map {v : Nat} {im : IM} {te : EM} {ρ : En} {f : D → D} {ys : List D} (hn : noOw ρ v = true) (hi : im ρ = .ok (ys.map .one) ρ) (hf : ∀ d ∈ ys, ∃ o, te (ρ.set v (.val d)) = .ok o (ρ.set v (.val d)) ∧ esc o.fz (ρ.set v (.val d)) = some (f d, ρ.set v (.val d))) (hl : ys.length ≤ BIG) :
    mComp [v] im (gN v) mYes te ρ = .ok (.n (.lst (ys.map f))) ρ := by
  obtain ⟨s, hs⟩ := noOw_get hn
  have hv : v < ρ.length := (List.getElem?_eq_some_iff.mp hs).1
  unfold mComp
  rw [hi]
  have h0 : (ρ.set v .un)[v]? = some .un := List.getElem?_set_self hv
  have h1 := compL_map (v := v) (te := te) (f := f) (ρ := ρ.set v .un) h0 (ys := ys) (acc := []) (fun d hd => by rw [List.set_set]; exact hf d hd) (by simpa using hl)
  have h2 : wipeE ρ [v] = ρ.set v .un := rfl
  have h3 : restE ρ (ρ.set v .un) [v] = ρ := by
    show (ρ.set v .un).set v (ρ.getD v .un) = ρ
    have : ρ.getD v .un = s := by
      rw [List.getD_eq_getElem?_getD, hs]
      rfl
    rw [this]
    exact set_same hs
  show (if [v].all (noOw ρ) then (match compL [v] (gN v) mYes te (ys.map .one) [] (wipeE ρ [v]) with | .ok acc ρ2 => R.ok (OV.n (.lst acc)) (restE ρ ρ2 [v]) | _ => .bad) else .bad) = _
  rw [if_pos (by simp [hn]), h2, h1]
  show R.ok (OV.n (.lst ([] ++ ys.map f))) (restE ρ (ρ.set v .un) [v]) = _
  rw [h3]
  rfl
end Mi
set_option Elab.async false
set_option linter.all false
set_option maxRecDepth 100000
set_option maxHeartbeats 2000000
/-! Mi, part Ex: equality of tuples and lists of ints; flags. -/
namespace Mi
open PySem
abbrev zs (l : List Int) : List D := l.map D.int
theorem cmps_zs (n : Nat) : ∀ l : List Int, D.cmps n (zs l) = true
  | [] => by cases n <;> simp [zs, D.cmps]
  | a :: l => by
    have := cmps_zs n l
    simp only [zs, List.map_cons, D.cmps, D.cmp, Bool.true_and]
    cases n <;> simpa [D.cmp] using this
theorem eqvAll_zs : ∀ a b : List Int, PyData.eqvAll (D.pys (zs a)) (D.pys (zs b)) = decide (a = b)
  | [], [] => by simp [zs, D.pys, PyData.eqvAll]
  | [], b :: bs => by simp [zs, D.pys, PyData.eqvAll]
  | a :: as, [] => by simp [zs, D.pys, PyData.eqvAll]
  | a :: as, b :: bs => by
    have := eqvAll_zs as bs
    simp only [zs] at this
    simp [zs, D.pys, D.py, PyData.eqvAll, PyData.eqv, this]
    by_cases h : a = b <;> simp [h]
theorem eq_lst (a b : List Int) : dEq (.lst (zs a)) (.lst (zs b)) = some (.bl (decide (a = b))) := by
  unfold dEq
  have h1 : (D.lst (zs a)).cmp 40 = true := cmps_zs 39 a
  have h2 : (D.lst (zs b)).cmp 40 = true := cmps_zs 39 b
  rw [h1, h2]
  simp [D.py, PyData.eqv, eqvAll_zs]
theorem eq_tup (a b : List Int) : dEq (.tup (zs a)) (.tup (zs b)) = some (.bl (decide (a = b))) := by
  unfold dEq
  have h1 : (D.tup (zs a)).cmp 40 = true := cmps_zs 39 a
  have h2 : (D.tup (zs b)).cmp 40 = true := cmps_zs 39 b
  rw [h1, h2]
  simp [D.py, PyData.eqv, eqvAll_zs]
theorem ne_tup (a b : List Int) : dNe (.tup (zs a)) (.tup (zs b)) = some (.bl (!decide (a = b))) := by
  unfold dNe
  have h1 : (D.tup (zs a)).cmp 40 = true := cmps_zs 39 a
  have h2 : (D.tup (zs b)).cmp 40 = true := cmps_zs 39 b
  rw [h1, h2]
  simp [D.py, PyData.eqv, eqvAll_zs]
theorem blsD_map : ∀ l : List Bool, blsD (l.map D.bl) = some l
  | [] => rfl
  | b :: l => by
    rw [List.map_cons]
    show (blsD (l.map D.bl)).map (b :: ·) = _
    rw [blsD_map l]
    rfl
theorem intsD_zs : ∀ l : List Int, intsD (zs l) = some l
  | [] => rfl
  | b :: l => by
    show (intsD (zs l)).map (b :: ·) = _
    rw [intsD_zs l]
    rfl
theorem all_lst (l : List Bool) : dAll (.lst (l.map D.bl)) = some (.bl (l.all id)) := by
  show (blsD (l.map D.bl)).map _ = _
  rw [blsD_map]
  rfl
end Mi
set_option Elab.async false
set_option linter.all false
set_option maxRecDepth 100000
set_option maxHeartbeats 2000000
/-! Mi, part Ey: comprehensions over one name with a test, reckoned as filters. -/
namespace Mi
open PySem
theorem compL_filter {v : Nat} {tt : TM} {te : EM} {ρ : En} {c : D → Bool} {f : D → D} (hρ : ρ[v]? = some .un) : ∀ {ys acc : List D}, (∀ d ∈ ys, tt (ρ.set v (.val d)) = .ok (c d) (ρ.set v (.val d))) → (∀ d ∈ ys, ∃ o, te (ρ.set v (.val d)) = .ok o (ρ.set v (.val d)) ∧ esc o.fz (ρ.set v (.val d)) = some (f d, ρ.set v (.val d))) → acc.length + ys.length ≤ BIG → compL [v] (gN v) tt te (ys.map .one) acc ρ = .ok (acc ++ (ys.filter c).map f) ρ
  | [], acc, _, _, _ => by
    unfold compL
    simp
  | y :: ys, acc, ht, hf, hl => by
    have hv : v < ρ.length := (List.getElem?_eq_some_iff.mp hρ).1
    have hc : canSet ρ v = true := by
      unfold canSet
      rw [hρ]
    have h0 := ht y (List.mem_cons_self ..)
    obtain ⟨o, h1, h2⟩ := hf y (List.mem_cons_self ..)
    have hl2 : acc.length < BIG := by
      rw [List.length_cons] at hl
      omega
    have g1 : gN v (IV.one y) ρ = some (ρ.set v (.val y)) := if_pos hc
    have g2 : [v].all (canSet (ρ.set v (.val y))) = true := by simp [canSet_set hv]
    have g3 : wipeE (ρ.set v (.val y)) [v] = ρ := set_same hρ
    rw [List.map_cons]
    unfold compL
    cases q : c y with
    | true =>
      rw [q] at h0
      have ih := compL_filter (v := v) (tt := tt) (te := te) (c := c) (f := f) hρ (ys := ys) (acc := acc ++ [f y]) (fun d hd => ht d (List.mem_cons_of_mem _ hd)) (fun d hd => hf d (List.mem_cons_of_mem _ hd)) (by simp at hl ⊢; omega)
      simp only [g1, h0, h1, h2, if_pos hl2]
      rw [if_pos g2, g3, ih, List.filter_cons_of_pos q]
      simp
    | false =>
      rw [q] at h0
      have ih := compL_filter (v := v) (tt := tt) (te := te) (c := c) (f := f) hρ (ys := ys) (acc := acc) (fun d hd => ht d (List.mem_cons_of_mem _ hd)) (fun d hd => hf d (List.mem_cons_of_mem _ hd)) (by simp at hl ⊢; omega)
      simp only [g1, h0]
      rw [if_pos g2, g3, ih, List.filter_cons_of_neg (by simp [q])]
/-- [e for v in ... if c], c and e plain functions of v -/
theorem comp_filter {v : Nat} {im : IM} {tt : TM} {te : EM} {ρ : En} {c : D → Bool} {f : D → D} {ys : List D} (hn : noOw ρ v = true) (hi : im ρ = .ok (ys.map .one) ρ) (ht : ∀ d ∈ ys, tt (ρ.set v (.val d)) = .ok (c d) (ρ.set v (.val d))) (hf : ∀ d ∈ ys, ∃ o, te (ρ.set v (.val d)) = .ok o (ρ.set v (.val d)) ∧ esc o.fz (ρ.set v (.val d)) = some (f d, ρ.set v (.val d))) (hl : ys.length ≤ BIG) :
    mComp [v] im (gN v) tt te ρ = .ok (.n (.lst ((ys.filter c).map f))) ρ := by
  obtain ⟨s, hs⟩ := noOw_get hn
  have hv : v < ρ.length := (List.getElem?_eq_some_iff.mp hs).1
  unfold mComp
  rw [hi]
  have h0 : (ρ.set v .un)[v]? = some .un := List.getElem?_set_self hv
  have h1 := compL_filter (v := v) (tt := tt) (te := te) (c := c) (f := f) (ρ := ρ.set v .un) h0 (ys := ys) (acc := []) (fun d hd => by rw [List.set_set]; exact ht d hd) (fun d hd => by rw [List.set_set]; exact hf d hd) (by simpa using hl)
  have h2 : wipeE ρ [v] = ρ.set v .un := rfl
  have h3 : restE ρ (ρ.set v .un) [v] = ρ := by
    show (ρ.set v .un).set v (ρ.getD v .un) = ρ
    have : ρ.getD v .un = s := by
      rw [List.getD_eq_getElem?_getD, hs]
      rfl
    rw [this]
    exact set_same hs
  show (if [v].all (noOw ρ) then (match compL [v] (gN v) tt te (ys.map .one) [] (wipeE ρ [v]) with | .ok acc ρ2 => R.ok (OV.n (.lst acc)) (restE ρ ρ2 [v]) | _ => .bad) else .bad) = _
  rw [if_pos (by simp [hn]), h2, h1]
  show R.ok (OV.n (.lst ([] ++ (ys.filter c).map f))) (restE ρ (ρ.set v .un) [v]) = _
  rw [h3]
  rfl
end Mi
set_option Elab.async false
set_option linter.all false
set_option maxRecDepth 100000
set_option maxHeartbeats 2000000
/-! Mi, part Sx: texts as lists of signs; how their operations are reckoned. -/
namespace Mi
open PySem PySem.Spec PyProof.Rows L2
def S (l : List Nat) : Str := ⟨l.toArray⟩
abbrev T (l : List Nat) : D := .str (S l)
theorem S_tl (l : List Nat) : (S l).cps.toList = l := rfl
theorem S_len (l : List Nat) : (S l).length = l.length := by simp [S, Str.length]
theorem S_of {x : Str} {l : List Nat} (h : x.cps.toList = l) : x = S l := TL.ext_tl h
theorem S_inj {a b : List Nat} : S a = S b ↔ a = b := ⟨fun h => by have := congrArg (fun x : Str => x.cps.toList) h; exact this, fun h => h ▸ rfl⟩
theorem S_app (a b : List Nat) : S a ++ S b = S (a ++ b) := S_of ((TL.tl_append (S a) (S b)).trans rfl)
theorem s_add {a b : List Nat} (h : a.length + b.length ≤ BIG) : dAdd (T a) (T b) = some (T (a ++ b)) := by
  show (if (S a).length + (S b).length ≤ BIG then some (D.str (S a ++ S b)) else none) = _
  rw [S_len, S_len, if_pos h, S_app]
theorem s_len {a : List Nat} (h : a.length ≤ BIG) : dLen (T a) = some (.int a.length) := by
  show (if (S a).length ≤ BIG then some (D.int (S a).length) else none) = _
  rw [S_len, if_pos h]
/-- so many times the same -/
def rep (n : Int) (a : List Nat) : List Nat := (List.replicate n.toNat a).flatten
theorem fold_app (c : Array Nat) : ∀ (k : Nat) (acc : Array Nat), ((List.replicate k c).foldl (· ++ ·) acc).toList = acc.toList ++ (List.replicate k c.toList).flatten
  | 0, acc => by simp
  | k + 1, acc => by
    rw [List.replicate_succ, List.foldl_cons, fold_app c k, List.replicate_succ, List.flatten_cons]
    simp
theorem s_mul {a : List Nat} {n : Int} (h0 : 0 ≤ n) (h1 : n ≤ 1000) (ha : a.length ≤ 10000) : dMulS (T a) (.int n) = some (T (rep n a)) := by
  show (if 0 ≤ n ∧ n ≤ 1000 ∧ (S a).length ≤ 10000 then some (D.str (Txt.mul (S a) n)) else none) = _
  rw [S_len, if_pos ⟨h0, h1, ha⟩]
  congr 2
  refine S_of ?_
  unfold Txt.mul rep
  by_cases c : n < 1
  · rw [if_pos c]
    have : n.toNat = 0 := by omega
    rw [this]
    rfl
  · rw [if_neg c]
    by_cases c2 : (n == 1 || (S a).length == 0) = true
    · rw [if_pos c2]
      rcases Bool.or_eq_true_iff.mp c2 with e | e
      · have : n = 1 := by simpa using e
        subst this
        simp [S]
      · have : a = [] := by
          have e' : (S a).length = 0 := by simpa using e
          rw [S_len] at e'
          exact List.eq_nil_of_length_eq_zero e'
        subst this
        simp [S]
    · rw [if_neg c2]
      show ((List.replicate n.toNat (S a).cps).foldl (· ++ ·) #[]).toList = _
      rw [fold_app]
      simp [S]
def okS (l : List Nat) : Prop := ∀ c ∈ l, c < 1114112
theorem okS_cmp {l : List Nat} (h : okS l) : PyData.strOk (S l) = true := by
  unfold PyData.strOk
  show l.toArray.all (· < 0x110000) = true
  rw [List.all_toArray]
  exact List.all_eq_true.mpr fun c hc => decide_eq_true (h c hc)
theorem cmp_T {n : Nat} {l : List Nat} (h : okS l) : (T l).cmp n = true := by
  cases n <;> exact okS_cmp h
theorem s_eqv (a b : List Nat) : PyData.eqv (T a).py (T b).py = decide (a = b) := by
  show (S a == S b) = _
  by_cases c : a = b
  · subst c
    simp
  · have : ¬ S a = S b := fun e => c (S_inj.mp e)
    simp [this, c]
theorem s_eq {a b : List Nat} (ha : okS a) (hb : okS b) : dEq (T a) (T b) = some (.bl (decide (a = b))) := by
  unfold dEq
  rw [cmp_T ha, cmp_T hb, s_eqv]
  rfl
theorem s_ne {a b : List Nat} (ha : okS a) (hb : okS b) : dNe (T a) (T b) = some (.bl (!decide (a = b))) := by
  unfold dNe
  rw [cmp_T ha, cmp_T hb, s_eqv]
  rfl
theorem s_in {c : Nat} {b : List Nat} : dInS false (T [c]) (T b) = some (.bl (decide (c ∈ b))) := rfl
theorem s_ix {a : List Nat} {i : Nat} (h : i < a.length) (h2 : i < 1000000) : dIxS (T a) (.int i) = some (T [a[i]]) := by
  show (if 0 ≤ (i : Int) ∧ (i : Int) < 1000000 then ((S a).cps[(i : Int).toNat]?).map fun c => D.str ⟨#[c]⟩ else none) = _
  rw [if_pos (by omega)]
  have : (S a).cps[(i : Int).toNat]? = some a[i] := by
    show a.toArray[(i : Int).toNat]? = _
    simp [h]
  rw [this]
  rfl
theorem s_cut {l : List Nat} {a b : Nat} : cutS (S l) (some (a : Int)) (some (b : Int)) = S ((l.drop a).take (b - a)) := by
  unfold cutS
  rw [HT.sIx_nat, HT.sIx_nat]
  refine S_of ?_
  show (((l.drop (min a (S l).length)).take (min b (S l).length - min a (S l).length)).toArray).toList = _
  rw [S_len]
  simp only []
  by_cases c : a ≤ l.length
  · rw [Nat.min_eq_left c]
    by_cases d : b ≤ l.length
    · rw [Nat.min_eq_left d]
    · rw [Nat.min_eq_right (by omega), List.take_of_length_le (by simp), List.take_of_length_le (by simp; omega)]
  · have e : min a l.length = l.length := by omega
    rw [e, List.drop_eq_nil_of_le (Nat.le_refl _), List.drop_eq_nil_of_le (show l.length ≤ a by omega)]
    simp
theorem lt_one {c d : Nat} : ([c] < [d]) ↔ c < d := by
  constructor
  · intro h
    cases h with
    | rel h => exact h
    | cons h => cases h
  · intro h
    exact .rel h
theorem s_le1 {c d : Nat} : dLeS (T [c]) (T [d]) = some (.bl (decide (c ≤ d))) := by
  show some (D.bl (!decide ([d] < [c]))) = _
  by_cases h : d < c
  · rw [decide_eq_true (lt_one.mpr h), decide_eq_false (by omega)]
    rfl
  · rw [decide_eq_false (fun z => h (lt_one.mp z)), decide_eq_true (by omega)]
    rfl
theorem s_str {n : Nat} (h : n < 1000) : dStr (.int n) = some (T (TL.numL n)) := by
  show (if (n : Int).natAbs.log2 < 1920 then some (D.str (Str.ofString (toString (n : Int)))) else none) = _
  have hl : (n : Int).natAbs.log2 < 1920 := by
    have e : (n : Int).natAbs = n := by omega
    rw [e]
    by_cases h0 : n = 0
    · subst h0
      decide
    · have := (Nat.log2_lt h0 (k := 1920)).mpr (Nat.lt_trans h (by decide +kernel))
      exact this
  rw [if_pos hl]
  exact congrArg (fun z => some (D.str z)) (S_of (TL.tl_num n))
theorem S_num (n : Nat) : Str.ofString (toString (n : Int)) = S (TL.numL n) := S_of (TL.tl_num n)
end Mi
set_option Elab.async false
set_option linter.all false
set_option maxRecDepth 100000
set_option maxHeartbeats 4000000
namespace K09
open PySem Mi
theorem mix_ok (c t : Int) : ∃ r : Int, m__law_mix [.val (.int c), .val (.int t)] = .ok (.v (.int r)) [] := by
  have h1 : ∀ x : Int, -18446744073709551616 < x % 2147483647 := fun x => by omega
  have h2 : ∀ x : Int, x % 2147483647 < 18446744073709551616 := fun x => by omega
  have h3 : ∀ x : Int, -18446744073709551616 < x % 998244353 := fun x => by omega
  have h4 : ∀ x : Int, x % 998244353 < 18446744073709551616 := fun x => by omega
  unfold m__law_mix b__law_mix mDef b__law_mix_1 b__law_mix_2 b__law_mix_3 b__law_mix_4
  simp [mSeq, mSet, R.st, nxt, setSl, canSet, mB, mCB, mCons, mNil, mVar, mC, mArg, R.bind, OV.fz, OB.get, ap2, rz, apN, getAll, g1, dInt, dOr, dMul, dMulS, dAdd, dMod, dDiv, mRet, retV, okD, ioOf, dSub, h1, h2, h3, h4]
noncomputable def mixF (c t : Int) : Int := Classical.choose (mix_ok c t)
theorem mix_eq (c t : Int) : m__law_mix [.val (.int c), .val (.int t)] = .ok (.v (.int (mixF c t))) [] := Classical.choose_spec (mix_ok c t)
/-- what is drawn from: the cells, the place, what is left of a great cell, the turns, the turns behind the end, the sum -/
def ps (ns : List Int) (a b c d e : Int) : Ow := .lst [.lst (ns.map D.int), .int a, .int b, .int c, .int d, .int e]
theorem at_cell {ns : List Int} {a : Int} (h0 : 0 ≤ a) (h1 : a < ns.length) : ∃ v, L2.atI (ns.map D.int) a = some (.int v) := by
  unfold L2.atI L2.ixN
  rw [List.length_map, if_pos h0, if_pos h1]
  have h2 : a.toNat < ns.length := by omega
  refine ⟨ns[a.toNat], ?_⟩
  simp [h2]
theorem at6_0 {x0 x1 x2 x3 x4 x5 : D} : L2.atI [x0, x1, x2, x3, x4, x5] 0 = some x0 := rfl
theorem at6_1 {x0 x1 x2 x3 x4 x5 : D} : L2.atI [x0, x1, x2, x3, x4, x5] 1 = some x1 := rfl
theorem at6_2 {x0 x1 x2 x3 x4 x5 : D} : L2.atI [x0, x1, x2, x3, x4, x5] 2 = some x2 := rfl
theorem at6_3 {x0 x1 x2 x3 x4 x5 : D} : L2.atI [x0, x1, x2, x3, x4, x5] 3 = some x3 := rfl
theorem at6_4 {x0 x1 x2 x3 x4 x5 : D} : L2.atI [x0, x1, x2, x3, x4, x5] 4 = some x4 := rfl
theorem at6_5 {x0 x1 x2 x3 x4 x5 : D} : L2.atI [x0, x1, x2, x3, x4, x5] 5 = some x5 := rfl
theorem dPow_ii (a b : Int) : dPow (.int a) (.int b) = if 0 ≤ b ∧ (Builtin.Int.intBits a : Int) * b ≤ 2 ^ 27 then some (.int (a ^ b.toNat)) else none := rfl
theorem pw18 : dPow (.int 10) (.int 18) = some (.int 1000000000000000000) := by
  rw [dPow_ii, if_pos (by decide +kernel)]
  rfl
def bigB : Int := 1000000000000000000000000000000000000000000000000000000000000
def bigK : Int := bigB ^ (64 : Nat)
theorem bigK_pos : 0 < bigK := by unfold bigK bigB; decide +kernel
theorem pw60 : dPow (.int 10) (.int 60) = some (.int bigB) := by
  rw [dPow_ii, if_pos (by decide +kernel)]
  exact congrArg (fun z => some (D.int z)) (by unfold bigB; decide +kernel)
theorem pw64 : dPow (.int bigB) (.int 64) = some (.int bigK) := by
  rw [dPow_ii, if_pos (by unfold bigB; decide +kernel)]
  rfl
/-- a great cell is taken up -/
theorem pick2 {ns : List Int} {a b c d e many : Int} {y z : Sl} {x : Sl} (h0 : 0 ≤ a) (h1 : 0 ≤ b) (hx : x = .un) : ∃ a' b' x', 0 ≤ a' ∧ 0 ≤ b' ∧ (x' = .un ∨ ∃ v, x' = .val v) ∧
    b__law_pick_2 [.own true (ps ns a b c d e), .val (.int many), x, y, z] = .nx [.own true (ps ns a' b' c d e), .val (.int many), x', y, z] := by
  subst hx
  unfold b__law_pick_2 ps
  by_cases k1 : b = 0
  · by_cases k2 : a < ns.length
    · by_cases k3 : c = 0
      · obtain ⟨v, hv⟩ := at_cell h0 k2
        subst k1 k3
        by_cases kb : (1000000000000000000 : Int) ≤ v ∨ v ≤ -1000000000000000000
        · refine ⟨a + 1, (if v < 0 then -v else v) % bigK, .val (.int v), by omega, Int.emod_nonneg _ (Int.ne_of_gt bigK_pos), .inr ⟨_, rfl⟩, ?_⟩
          have hk := bigK_pos
          rcases Classical.em ((1000000000000000000 : Int) ≤ v) with ka | ka
          · simp [mIfS, mAnd, mOr, mTst, mB, mU, ap1, mVar, mC, R.bind, R.st, OV.fz, OB.get, ap2, rz, dIx, at6_0, at6_1, at6_2, at6_3, at6_4, at6_5, e_int, dOr, e_lt, e_ge, dOr, e_le, tb, mCB, mCons, mNil, apN, getAll, g1, dLen, dAbs, dInt, Ow.d, mNext, k2, mSeq, mSet, setSl, nxt, canSet, hv, pw18, pw60, pw64, ka, mSetIx, esc, isOw, L2.ixN, e_mod hk, e_add]
          · have kc : v ≤ -1000000000000000000 := by omega
            simp [mIfS, mAnd, mOr, mTst, mB, mU, ap1, mVar, mC, R.bind, R.st, OV.fz, OB.get, ap2, rz, dIx, at6_0, at6_1, at6_2, at6_3, at6_4, at6_5, e_int, dOr, e_lt, e_ge, dOr, e_le, e_neg, tb, mCB, mCons, mNil, apN, getAll, g1, dLen, dAbs, dInt, Ow.d, mNext, k2, mSeq, mSet, setSl, nxt, canSet, hv, pw18, pw60, pw64, ka, kc, mSetIx, esc, isOw, L2.ixN, e_mod hk, e_add]
        · refine ⟨a, 0, .val (.int v), h0, Int.le_refl 0, .inr ⟨_, rfl⟩, ?_⟩
          have ka : ¬ (1000000000000000000 : Int) ≤ v := fun z => kb (.inl z)
          have kc : ¬ v ≤ -1000000000000000000 := fun z => kb (.inr z)
          simp [mIfS, mAnd, mOr, mTst, mB, mU, ap1, mVar, mC, R.bind, R.st, OV.fz, OB.get, ap2, rz, dIx, at6_0, at6_1, at6_2, at6_3, at6_4, at6_5, e_int, dOr, e_lt, e_ge, dOr, e_le, e_neg, tb, mCB, mCons, mNil, apN, getAll, g1, dLen, dAbs, dInt, Ow.d, mNext, k2, mSeq, mSet, setSl, nxt, canSet, hv, pw18, ka, kc]
      · refine ⟨a, b, .un, h0, h1, .inl rfl, ?_⟩
        subst k1
        simp [mIfS, mAnd, mTst, mB, mVar, mC, R.bind, R.st, OV.fz, OB.get, ap2, rz, dIx, at6_0, at6_1, at6_2, at6_3, at6_4, at6_5, e_int, dOr, e_lt, tb, mCB, mCons, mNil, apN, getAll, g1, dLen, Ow.d, mNext, k2, k3]
    · refine ⟨a, b, .un, h0, h1, .inl rfl, ?_⟩
      subst k1
      simp [mIfS, mAnd, mTst, mB, mVar, mC, R.bind, R.st, OV.fz, OB.get, ap2, rz, dIx, at6_0, at6_1, at6_2, at6_3, at6_4, at6_5, e_int, dOr, e_lt, tb, mCB, mCons, mNil, apN, getAll, g1, dLen, Ow.d, mNext, k2]
  · refine ⟨a, b, .un, h0, h1, .inl rfl, ?_⟩
    simp [mIfS, mAnd, mTst, mB, mVar, mC, R.bind, R.st, OV.fz, OB.get, ap2, rz, dIx, at6_0, at6_1, at6_2, at6_3, at6_4, at6_5, e_int, dOr, e_lt, tb, mCB, mCons, mNil, apN, getAll, g1, dLen, Ow.d, mNext, k1]
theorem e_modD {a b : Int} (h : 0 < b) : dMod (.int a) (.int b) = some (.int (a % b)) := if_pos h
theorem pick3 {ns : List Int} {a b c d e many : Int} {x z : Sl} {w : Sl} (hb : 0 ≤ b) (hm : 2 ≤ many) (hn : many ≤ 1000) :
    (∃ b' p, 0 ≤ b' ∧ 0 ≤ p ∧ p < many ∧ b__law_pick_3 [.own true (ps ns a b c d e), .val (.int many), x, .un, z] = .rt (.v (.int p)) [.own true (ps ns a b' c d e), .val (.int many), x, .val (.int p), z]) ∨
    b__law_pick_3 [.own true (ps ns a b c d e), .val (.int many), x, .un, z] = .nx [.own true (ps ns a b c d e), .val (.int many), x, .un, z] := by
  have hm0 : 0 < many := by omega
  have hm1 : many < 1073741824 := by omega
  unfold b__law_pick_3 ps
  by_cases k : 0 < b
  · refine .inl ⟨b / many, b % many, Int.ediv_nonneg hb (by omega), Int.emod_nonneg _ (by omega), Int.emod_lt_of_pos _ hm0, ?_⟩
    simp [mIfS, mTst, mB, mVar, mC, R.bind, R.st, OV.fz, OB.get, ap2, rz, dIx, at6_0, at6_1, at6_2, at6_3, at6_4, at6_5, e_int, e_gt, tb, mCB, mCons, mNil, apN, getAll, g1, dInt, Ow.d, mNext, mSeq, mSet, setSl, nxt, canSet, mSetIx, esc, isOw, L2.ixN, e_mod hm0, e_div hm0 hm1, k, mRet, retV]
  · refine .inr ?_
    simp [mIfS, mTst, mB, mVar, mC, R.bind, R.st, OV.fz, OB.get, ap2, rz, dIx, at6_0, at6_1, at6_2, at6_3, at6_4, at6_5, e_int, e_gt, tb, Ow.d, mNext, k]
theorem pick4 {ns : List Int} {a b c d e many : Int} {x : Sl} {w : Sl} (hx : x = .un ∨ ∃ v, x = .val v) (ha : 0 ≤ a) (hm : 2 ≤ many) (hn : many ≤ 1000) :
    (∃ a' c' x' y' z' p, 0 ≤ a' ∧ 0 ≤ p ∧ p < many ∧ b__law_pick_4 [.own true (ps ns a b c d e), .val (.int many), x, .un, .un] = .rt (.v (.int p)) [.own true (ps ns a' b c' d e), .val (.int many), x', y', z']) ∨
    b__law_pick_4 [.own true (ps ns a b c d e), .val (.int many), x, .un, .un] = .nx [.own true (ps ns a b c d e), .val (.int many), x, .un, .un] := by
  have hm0 : 0 < many := by omega
  unfold b__law_pick_4 ps
  by_cases k2 : a < ns.length
  · obtain ⟨v, hv⟩ := at_cell ha k2
    by_cases k6 : c + 1 = 6
    · refine .inl ⟨a + 1, 0, .val (.int v), .un, .val (.int (mixF (v + 31 * a) (c + 1) % many)), mixF (v + 31 * a) (c + 1) % many, by omega, Int.emod_nonneg _ (by omega), Int.emod_lt_of_pos _ hm0, ?_⟩
      rcases hx with rfl | ⟨v0, rfl⟩ <;> simp [mIfS, mTst, mB, mVar, mC, R.bind, R.st, OV.fz, OB.get, ap2, rz, dIx, at6_0, at6_1, at6_2, at6_3, at6_4, at6_5, e_int, dOr, e_lt, e_add, tb, mCB, mCons, mNil, apN, getAll, g1, dInt, dLen, Ow.d, mNext, mSeq, mSet, setSl, nxt, canSet, mSetIx, esc, isOw, L2.ixN, e_mod hm0, k2, mRet, retV, hv, k6, mCall, mArg, toArgs, ioPos, ioSl, mix_eq, putO, rvOV, dOr, e_mull]
    · refine .inl ⟨a, c + 1, .val (.int v), .un, .val (.int (mixF (v + 31 * a) (c + 1) % many)), mixF (v + 31 * a) (c + 1) % many, by omega, Int.emod_nonneg _ (by omega), Int.emod_lt_of_pos _ hm0, ?_⟩
      rcases hx with rfl | ⟨v0, rfl⟩ <;> simp [mIfS, mTst, mB, mVar, mC, R.bind, R.st, OV.fz, OB.get, ap2, rz, dIx, at6_0, at6_1, at6_2, at6_3, at6_4, at6_5, e_int, dOr, e_lt, e_add, tb, mCB, mCons, mNil, apN, getAll, g1, dInt, dLen, Ow.d, mNext, mSeq, mSet, setSl, nxt, canSet, mSetIx, esc, isOw, L2.ixN, e_mod hm0, k2, mRet, retV, hv, k6, mCall, mArg, toArgs, ioPos, ioSl, mix_eq, putO, rvOV, dOr, e_mull]
  · refine .inr ?_
    simp [mIfS, mTst, mB, mVar, mC, R.bind, R.st, OV.fz, OB.get, ap2, rz, dIx, at6_0, at6_1, at6_2, at6_3, at6_4, at6_5, e_int, dOr, e_lt, tb, mCB, mCons, mNil, apN, getAll, g1, dLen, Ow.d, mNext, k2]
theorem pick56 {ns : List Int} {a b c d e many : Int} {x y z : Sl} (hm : 2 ≤ many) :
    ∃ d' p, 0 ≤ p ∧ p < many ∧ mSeq b__law_pick_5 b__law_pick_6 [.own true (ps ns a b c d e), .val (.int many), x, y, z] = .rt (.v (.int p)) [.own true (ps ns a b c d' e), .val (.int many), x, y, z] := by
  have hm0 : 0 < many := by omega
  unfold b__law_pick_5 b__law_pick_6 ps
  refine ⟨d + 1, mixF e (d + 1 + 100) % many, Int.emod_nonneg _ (by omega), Int.emod_lt_of_pos _ hm0, ?_⟩
  simp [mIfS, mTst, mB, mVar, mC, R.bind, R.st, OV.fz, OB.get, ap2, rz, dIx, at6_0, at6_1, at6_2, at6_3, at6_4, at6_5, e_int, dOr, e_lt, e_add, tb, mCB, mCons, mNil, apN, getAll, g1, dInt, dLen, Ow.d, mNext, mSeq, mSet, setSl, nxt, canSet, mSetIx, esc, isOw, L2.ixN, e_mod hm0, mRet, retV, mCall, mArg, toArgs, ioPos, ioSl, mix_eq, putO, rvOV]
/-- a state of the draw -/
def Dr (ns : List Int) (w : Ow) : Prop := ∃ a b c d e, 0 ≤ a ∧ 0 ≤ b ∧ w = ps ns a b c d e
theorem pick_ok {ns : List Int} {w : Ow} (hw : Dr ns w) {many : Int} (h1 : 1 ≤ many) (hn : many ≤ 1000) :
    ∃ p w', Dr ns w' ∧ 0 ≤ p ∧ p < many ∧ m__law_pick [.own true w, .val (.int many)] = .ok (.v (.int p)) [w'] := by
  obtain ⟨a, b, c, d, e, ha, hb, rfl⟩ := hw
  unfold m__law_pick mDef b__law_pick
  show ∃ p w', Dr ns w' ∧ 0 ≤ p ∧ p < many ∧ (match mSeq b__law_pick_1 (mSeq b__law_pick_2 (mSeq b__law_pick_3 (mSeq b__law_pick_4 (mSeq b__law_pick_5 b__law_pick_6)))) [.own true (ps ns a b c d e), .val (.int many), .un, .un, .un] with | .rt r ρ => okD [0] r ρ | .nx ρ => okD [0] (.v .non) ρ | .ex x ρ => (match ioOf [0] ρ with | some os => .ex x os | none => .bad) | _ => .bad) = .ok (.v (.int p)) [w']
  by_cases k : many < 2
  · refine ⟨0, ps ns a b c d e, ⟨a, b, c, d, e, ha, hb, rfl⟩, Int.le_refl 0, by omega, ?_⟩
    unfold b__law_pick_1
    simp [mSeq, mIfS, mTst, mB, mVar, mC, R.bind, R.st, OV.fz, OB.get, ap2, rz, dOr, e_lt, tb, k, mRet, retV, okD, ioOf]
  · have g1 : b__law_pick_1 [.own true (ps ns a b c d e), .val (.int many), .un, .un, .un] = .nx [.own true (ps ns a b c d e), .val (.int many), .un, .un, .un] := by
      unfold b__law_pick_1
      simp [mSeq, mIfS, mTst, mB, mVar, mC, R.bind, R.st, OV.fz, OB.get, ap2, rz, dOr, e_lt, tb, k, mNext]
    have hm : 2 ≤ many := by omega
    obtain ⟨a2, b2, x2, ha2, hb2, hx2, g2⟩ := pick2 (ns := ns) (a := a) (b := b) (c := c) (d := d) (e := e) (many := many) (y := .un) (z := .un) (x := .un) ha hb rfl
    rcases pick3 (ns := ns) (a := a2) (b := b2) (c := c) (d := d) (e := e) (many := many) (x := x2) (z := .un) (w := .un) hb2 hm hn with ⟨b3, p, hb3, hp0, hp1, g3⟩ | g3
    · refine ⟨p, ps ns a2 b3 c d e, ⟨a2, b3, c, d, e, ha2, hb3, rfl⟩, hp0, hp1, ?_⟩
      simp only [mSeq, g1, g2, g3]
      rfl
    · rcases pick4 (ns := ns) (a := a2) (b := b2) (c := c) (d := d) (e := e) (many := many) (x := x2) (w := .un) hx2 ha2 hm hn with ⟨a4, c4, x4, y4, z4, p, ha4, hp0, hp1, g4⟩ | g4
      · refine ⟨p, ps ns a4 b2 c4 d e, ⟨a4, b2, c4, d, e, ha4, hb2, rfl⟩, hp0, hp1, ?_⟩
        simp only [mSeq, g1, g2, g3, g4]
        rfl
      · obtain ⟨d5, p, hp0, hp1, g5⟩ := pick56 (ns := ns) (a := a2) (b := b2) (c := c) (d := d) (e := e) (many := many) (x := x2) (y := .un) (z := .un) hm
        refine ⟨p, ps ns a2 b2 c d5 e, ⟨a2, b2, c, d5, e, ha2, hb2, rfl⟩, hp0, hp1, ?_⟩
        have g5' := g5
        simp only [mSeq] at g5'
        simp only [mSeq, g1, g2, g3, g4, g5']
        rfl
end K09
set_option Elab.async false
set_option linter.all false
set_option maxRecDepth 100000
set_option maxHeartbeats 2000000
/-! Mi, part St: small steps of mirrors, one rule each. -/
namespace Mi
open PySem
theorem mDef_rt {n : Nat} {b : SM} {as : List Sl} {r : RV} {ρ : En} (h : b (as ++ List.replicate (n - as.length) .un) = .rt r ρ) : mDef n [] b as = .ok r [] := by
  unfold mDef
  rw [h]
  rfl
theorem mRet_d {m : EM} {ρ ρ' : En} {d : D} (h : m ρ = .ok (.d d) ρ') : mRet m ρ = .rt (.v d) ρ' := by
  unfold mRet
  rw [h]
  rfl
theorem call1 {f : List Sl → DR} {ma : EM} {ρ : En} {v : OV} {a d : D} (h1 : ma ρ = .ok v ρ) (e1 : esc v.fz ρ = some (a, ρ)) (hf : f [.val a] = .ok (.v d) []) : mCall [] f [] (mArg ma mNil) ρ = .ok (.d d) ρ := by
  simp [mCall, mArg, mNil, R.bind, h1, e1, toArgs, ioPos, ioSl, hf, putO, rvOV]
theorem call2 {f : List Sl → DR} {ma mb : EM} {ρ : En} {v u : OV} {a b d : D} (h1 : ma ρ = .ok v ρ) (e1 : esc v.fz ρ = some (a, ρ)) (h2 : mb ρ = .ok u ρ) (e2 : esc u.fz ρ = some (b, ρ)) (hf : f [.val a, .val b] = .ok (.v d) []) : mCall [] f [] (mArg ma (mArg mb mNil)) ρ = .ok (.d d) ρ := by
  simp [mCall, mArg, mNil, R.bind, h1, e1, h2, e2, toArgs, ioPos, ioSl, hf, putO, rvOV]
theorem tst_ok {m : EM} {ρ ρ' : En} {b : Bool} (h : m ρ = .ok (.d (.bl b)) ρ') : mTst m ρ = .ok b ρ' := by
  unfold mTst
  rw [h]
  rfl
theorem not_ok {c : TM} {ρ ρ' : En} {b : Bool} (h : c ρ = .ok b ρ') : mNot c ρ = .ok (!b) ρ' := by
  unfold mNot
  rw [h]
  rfl
theorem or_ff {a b : TM} {ρ ρ1 ρ2 : En} (h1 : a ρ = .ok false ρ1) (h2 : b ρ1 = .ok false ρ2) : mOr a b ρ = .ok false ρ2 := by
  unfold mOr
  rw [h1]
  simp only [R.bind]
  exact h2
theorem skip_ok {c : TM} {a : SM} {ρ ρ' : En} (h : c ρ = .ok false ρ') : mIfS c a mNext ρ = .nx ρ' := by
  unfold mIfS
  rw [h]
  rfl
theorem call1' {f : List Sl → DR} {ma : EM} {ρ ρ1 ρ2 : En} {v : OV} {a d : D} (h1 : ma ρ = .ok v ρ1) (e1 : esc v.fz ρ1 = some (a, ρ2)) (hf : f [.val a] = .ok (.v d) []) : mCall [] f [] (mArg ma mNil) ρ = .ok (.d d) ρ2 := by
  simp [mCall, mArg, mNil, R.bind, h1, e1, toArgs, ioPos, ioSl, hf, putO, rvOV]
theorem call2' {f : List Sl → DR} {ma mb : EM} {ρ ρ1 ρ2 ρ3 ρ4 : En} {v u : OV} {a b d : D} (h1 : ma ρ = .ok v ρ1) (e1 : esc v.fz ρ1 = some (a, ρ2)) (h2 : mb ρ2 = .ok u ρ3) (e2 : esc u.fz ρ3 = some (b, ρ4)) (hf : f [.val a, .val b] = .ok (.v d) []) : mCall [] f [] (mArg ma (mArg mb mNil)) ρ = .ok (.d d) ρ4 := by
  simp [mCall, mArg, mNil, R.bind, h1, e1, h2, e2, toArgs, ioPos, ioSl, hf, putO, rvOV]
theorem var_val {ρ : En} {i : Nat} {d : D} (h : ρ[i]? = some (.val d)) : mVar i ρ = .ok (.d d) ρ := by
  unfold mVar
  rw [h]
theorem set_d {m : EM} {i : Nat} {ρ ρ' : En} {d : D} (h : m ρ = .ok (.d d) ρ') (hc : canSet ρ' i = true) : mSet i m ρ = .nx (ρ'.set i (.val d)) := by
  unfold mSet
  rw [h]
  simp [R.st, setSl, hc, nxt]
theorem call1n {f : List Sl → DR} {ma : EM} {ρ : En} {v : OV} {a : D} {o : Ow} (h1 : ma ρ = .ok v ρ) (e1 : esc v.fz ρ = some (a, ρ)) (hf : f [.val a] = .ok (.w o) []) : mCall [] f [] (mArg ma mNil) ρ = .ok (.n o) ρ := by
  simp [mCall, mArg, mNil, R.bind, h1, e1, toArgs, ioPos, ioSl, hf, putO, rvOV]
theorem andV_tt {a b : EM} {ρ ρ1 ρ2 : En} {v : OV} (h1 : a ρ = .ok (.d (.bl true)) ρ1) (h2 : b ρ1 = .ok v ρ2) : mAndV a b ρ = .ok v ρ2 := by
  unfold mAndV
  rw [tst_ok h1]
  simp only [R.bind]
  exact h2
theorem seq_nx {a b : SM} {ρ ρ' : En} (h : a ρ = .nx ρ') : mSeq a b ρ = b ρ' := by
  unfold mSeq
  rw [h]
theorem mDef_io {n : Nat} {b : SM} {as : List Sl} {r : RV} {ρ : En} {io : Bool} {w : Ow} (h : b (as ++ List.replicate (n - as.length) .un) = .rt r ρ) (h0 : ρ[0]? = some (.own io w)) : mDef n [0] b as = .ok r [w] := by
  unfold mDef
  rw [h]
  simp [okD, ioOf, h0]
theorem if_tt {c : TM} {a b : SM} {ρ ρ' : En} (h : c ρ = .ok true ρ') : mIfS c a b ρ = a ρ' := by
  unfold mIfS
  rw [h]
  rfl
theorem seq_rt {a b : SM} {ρ ρ' : En} {r : RV} (h : a ρ = .rt r ρ') : mSeq a b ρ = .rt r ρ' := by
  unfold mSeq
  rw [h]
theorem set_n {m : EM} {i : Nat} {ρ ρ' : En} {o : Ow} (h : m ρ = .ok (.n o) ρ') (hc : canSet ρ' i = true) : mSet i m ρ = .nx (ρ'.set i (.own false o)) := by
  unfold mSet
  rw [h]
  simp [R.st, setSl, hc, nxt]
theorem call_io {f : List Sl → DR} {ma : EM} {i : Nat} {io : Bool} {ρ : En} {w w' : Ow} {v : OV} {a d : D} (h0 : ρ[i]? = some (.own io w)) (h1 : ma ρ = .ok v ρ) (e1 : esc v.fz ρ = some (a, ρ)) (hp : ρ[i]? = some (.own io w)) (hf : f [.own true w, .val a] = .ok (.v d) [w']) : mCall [0] f [] (mLend i (mArg ma mNil)) ρ = .ok (.d d) (ρ.set i (.own io w')) := by
  simp [mCall, mLend, h0, isOw, mArg, mNil, R.bind, h1, e1, toArgs, ioPos, ioSl, hf, putO, rvOV]
theorem call3 {f : List Sl → DR} {ma mb mc : EM} {ρ : En} {v u t : OV} {a b c d : D} (h1 : ma ρ = .ok v ρ) (e1 : esc v.fz ρ = some (a, ρ)) (h2 : mb ρ = .ok u ρ) (e2 : esc u.fz ρ = some (b, ρ)) (h3 : mc ρ = .ok t ρ) (e3 : esc t.fz ρ = some (c, ρ)) (hf : f [.val a, .val b, .val c] = .ok (.v d) []) : mCall [] f [] (mArg ma (mArg mb (mArg mc mNil))) ρ = .ok (.d d) ρ := by
  simp [mCall, mArg, mNil, R.bind, h1, e1, h2, e2, h3, e3, toArgs, ioPos, ioSl, hf, putO, rvOV]
theorem drop_ok {m : EM} {ρ ρ' : En} {v : OV} (h : m ρ = .ok v ρ') : mDrop m ρ = .nx ρ' := by
  unfold mDrop
  rw [h]
  rfl
theorem and_ff {a b : TM} {ρ ρ1 : En} (h1 : a ρ = .ok false ρ1) : mAnd a b ρ = .ok false ρ1 := by
  unfold mAnd
  rw [h1]
  rfl
theorem and_tt {a b : TM} {ρ ρ1 ρ2 : En} {c : Bool} (h1 : a ρ = .ok true ρ1) (h2 : b ρ1 = .ok c ρ2) : mAnd a b ρ = .ok c ρ2 := by
  unfold mAnd
  rw [h1]
  simp only [R.bind]
  exact h2
theorem add_ok {ma mb : EM} {ρ ρ1 ρ2 : En} {a b : Int} (h1 : ma ρ = .ok (.d (.int a)) ρ1) (h2 : mb ρ1 = .ok (.d (.int b)) ρ2) : mB dAdd ma mb ρ = .ok (.d (.int (a + b))) ρ2 := by
  unfold mB
  rw [h1]
  simp only [R.bind]
  rw [h2]
  simp only [R.bind, OV.fz, ap2, OB.get, e_add, rz]
theorem rng1_k {me : EM} {ρ : En} {k : Int} (h0 : 0 ≤ k) (h8 : k ≤ 1000) (h : me ρ = .ok (.d (.int k)) ρ) : mRng1 me ρ = .ok ((rgD 0 k).map .one) ρ := by
  unfold mRng1
  rw [h]
  simp only [R.bind, rgI]
  rw [if_pos (by omega)]
theorem rgD_0 (n : Nat) : (rgD 0 (n : Int)).map IV.one = (List.range' 0 n).map fun (i : Nat) => IV.one (.int (i : Int)) := by
  unfold rgD
  rw [← List.range_eq_range', List.map_map]
  have : ((n : Int) - 0).toNat = n := by omega
  rw [this]
  refine List.map_congr_left fun i _ => ?_
  simp
theorem rng1_ok {me : EM} {ρ : En} {n : Nat} (h8 : n ≤ 1000) (h : me ρ = .ok (.d (.int n)) ρ) : mRng1 me ρ = .ok ((List.range' 0 n).map fun (i : Nat) => IV.one (.int (i : Int))) ρ :=
  (rng1_k (by omega) (by omega) h).trans (congrArg (fun z => R.ok z ρ) (rgD_0 n))
theorem rng2_k {ma mb : EM} {ρ : En} {j k : Int} (h0 : -1000 ≤ j ∧ j ≤ 1000) (h8 : -1000 ≤ k ∧ k ≤ 1000) (h1 : ma ρ = .ok (.d (.int j)) ρ) (h2 : mb ρ = .ok (.d (.int k)) ρ) : mRng2 ma mb ρ = .ok ((rgD j k).map .one) ρ := by
  unfold mRng2
  rw [h1]
  simp only [R.bind]
  rw [h2]
  simp only [R.bind, rgI]
  rw [if_pos (by omega)]
theorem eq_int {i : Nat} {k p : Int} {ρ : En} (h : ρ[i]? = some (.val (.int p))) : mTst (mB dEq (mVar i) (mC (.int k))) ρ = .ok (decide (p = k)) ρ := by
  refine tst_ok ?_
  unfold mB
  rw [var_val h]
  simp only [R.bind, mC, OV.fz, ap2, OB.get]
  rw [e_int]
  rfl
def Pl (s : Sl) : Prop := s = .un ∨ ∃ v, s = .val v
def Cs (s : Sl) : Prop := s = .un ∨ (∃ v, s = .val v) ∨ ∃ o, s = .own false o
theorem or_tt {a b : TM} {ρ ρ1 : En} (h1 : a ρ = .ok true ρ1) : mOr a b ρ = .ok true ρ1 := by
  unfold mOr
  rw [h1]
  rfl
theorem or_f {a b : TM} {ρ ρ1 ρ2 : En} {c : Bool} (h1 : a ρ = .ok false ρ1) (h2 : b ρ1 = .ok c ρ2) : mOr a b ρ = .ok c ρ2 := by
  unfold mOr
  rw [h1]
  simp only [R.bind]
  exact h2
theorem ne_i {ma mb : EM} {ρ : En} {a b : Int} (h1 : ma ρ = .ok (.d (.int a)) ρ) (h2 : mb ρ = .ok (.d (.int b)) ρ) : mTst (mB dNe ma mb) ρ = .ok (!decide (a = b)) ρ := by
  refine tst_ok ?_
  unfold mB
  rw [h1]
  simp only [R.bind]
  rw [h2]
  simp only [R.bind, OV.fz, ap2, OB.get, e_nint, rz]
theorem ne_ints {ρ : En} {i j : Nat} {a b : Int} (h1 : ρ[i]? = some (.val (.int a))) (h2 : ρ[j]? = some (.val (.int b))) : mTst (mB dNe (mVar i) (mVar j)) ρ = .ok (!decide (a = b)) ρ := by
  refine tst_ok ?_
  unfold mB
  rw [var_val h1]
  simp only [R.bind]
  rw [var_val h2]
  simp only [R.bind, OV.fz, ap2, OB.get, e_nint, rz]
theorem mDef_ex {n : Nat} {b : SM} {as : List Sl} {r : Xc} {ρ : En} (h : b (as ++ List.replicate (n - as.length) .un) = .ex r ρ) : mDef n [] b as = .ex r [] := by
  unfold mDef
  rw [h]
  rfl
theorem call1x {f : List Sl → DR} {ma : EM} {ρ : En} {v : OV} {a : D} {r : Xc} (h1 : ma ρ = .ok v ρ) (e1 : esc v.fz ρ = some (a, ρ)) (hf : f [.val a] = .ex r []) : mCall [] f [] (mArg ma mNil) ρ = .ex r ρ := by
  simp [mCall, mArg, mNil, R.bind, h1, e1, toArgs, ioPos, ioSl, hf, putO]
theorem call2x {f : List Sl → DR} {ma mb : EM} {ρ : En} {v u : OV} {a b : D} {r : Xc} (h1 : ma ρ = .ok v ρ) (e1 : esc v.fz ρ = some (a, ρ)) (h2 : mb ρ = .ok u ρ) (e2 : esc u.fz ρ = some (b, ρ)) (hf : f [.val a, .val b] = .ex r []) : mCall [] f [] (mArg ma (mArg mb mNil)) ρ = .ex r ρ := by
  simp [mCall, mArg, mNil, R.bind, h1, e1, h2, e2, toArgs, ioPos, ioSl, hf, putO]
theorem call3x {f : List Sl → DR} {ma mb mc : EM} {ρ : En} {v u t : OV} {a b c : D} {r : Xc} (h1 : ma ρ = .ok v ρ) (e1 : esc v.fz ρ = some (a, ρ)) (h2 : mb ρ = .ok u ρ) (e2 : esc u.fz ρ = some (b, ρ)) (h3 : mc ρ = .ok t ρ) (e3 : esc t.fz ρ = some (c, ρ)) (hf : f [.val a, .val b, .val c] = .ex r []) : mCall [] f [] (mArg ma (mArg mb (mArg mc mNil))) ρ = .ex r ρ := by
  simp [mCall, mArg, mNil, R.bind, h1, e1, h2, e2, h3, e3, toArgs, ioPos, ioSl, hf, putO]
theorem ret_x {m : EM} {ρ ρ' : En} {r : Xc} (h : m ρ = .ex r ρ') : mRet m ρ = .ex r ρ' := by
  unfold mRet
  rw [h]
  rfl
theorem drop_x {m : EM} {ρ ρ' : En} {r : Xc} (h : m ρ = .ex r ρ') : mDrop m ρ = .ex r ρ' := by
  unfold mDrop
  rw [h]
  rfl
theorem seq_x {a b : SM} {ρ ρ' : En} {r : Xc} (h : a ρ = .ex r ρ') : mSeq a b ρ = .ex r ρ' := by
  unfold mSeq
  rw [h]
theorem isE_ok {tbl : List (Str × Bool)} {k : Ck} {i : Nat} {ρ : En} {fs : List (Str × D)} {b : Bool} (h : ρ[i]? = some (.val (.exc k.a k.d k.c fs))) (hb : tbl.lookup k.c = some b) : mIsE tbl k (mVar i) ρ = .ok (.d (.bl b)) ρ := by
  unfold mIsE
  rw [var_val h]
  simp only [R.bind, OV.fz, OB.get]
  rw [if_pos ⟨trivial, trivial, trivial⟩, hb]
theorem xf_ok {tbl : List (Str × Str)} {k : Ck} {f : Str} {i : Nat} {ρ : En} {fs : List (Str × D)} {y : D} (h : ρ[i]? = some (.val (.exc k.a k.d k.c fs))) (ht : tbl.contains (k.c, f) = true) (hf : fldD fs f = some y) : mXf tbl k f (mVar i) ρ = .ok (.d y) ρ := by
  unfold mXf
  rw [var_val h]
  simp only [R.bind, OV.fz, OB.get]
  rw [if_pos ⟨trivial, trivial, trivial, ht⟩, hf]
theorem int_bl {m : EM} {ρ : En} {b : Bool} (h : m ρ = .ok (.d (.bl b)) ρ) : mCB (g1 dInt) (mCons m mNil) ρ = .ok (.d (.int (if b then 1 else 0))) ρ := by
  simp only [mCB, mCons, h, mNil, R.bind, OV.fz, apN, getAll, OB.get, g1, dInt, rz]
theorem cl (c : Str) (f : Str) (y : D) : fldD [(f, y)] f = some y := by
  unfold fldD
  rw [if_pos rfl]
theorem lst2_ok {ma mb : EM} {ρ : En} {x y : D} (h1 : ma ρ = .ok (.d x) ρ) (h2 : mb ρ = .ok (.d y) ρ) : mLst (mCons ma (mCons mb mNil)) ρ = .ok (.n (.lst [x, y])) ρ := by
  simp [mLst, mCons, mNil, h1, h2, R.bind, OV.fz, escs, esc, BIG]
theorem ret_n {m : EM} {ρ ρ' : En} {o : Ow} (h : m ρ = .ok (.n o) ρ') : mRet m ρ = .rt (.w o) ρ' := by
  unfold mRet
  rw [h]
  rfl
theorem try_x {cat : List (Str × Bool)} {i : Nat} {mb : SM} {ms : Ck → SM} {ρ ρ1 ρ2 : En} {x : Xc} {r : RV} (h : mb ρ = .ex x ρ1) (hc : cat.lookup x.c = some true) (h1 : canSet ρ1 i = true) (hs : ms ⟨0, 0, x.c⟩ (ρ1.set i (.val (.exc 0 0 x.c x.fs))) = .rt r ρ2) (h2 : canSet ρ2 i = true) : mTry cat i mb ms ρ = .rt r (ρ2.set i .un) := by
  unfold mTry
  rw [h]
  simp only
  rw [hc]
  simp only
  unfold mSuite
  rw [if_pos h1, hs]
  simp only [unslot, goneS]
  rw [if_pos h2]
theorem eqv_cmp {d : D} {n : Nat} (h : d.cmp n = true) : PyData.eqv d.py d.py = true := PySem.SeqAt.eqv_refl d.py (cmp_lay n d h).1
theorem eq_self {d : D} (h : d.cmp 40 = true) : dEq d d = some (.bl true) := by
  unfold dEq
  rw [h, eqv_cmp h]
  rfl
theorem ne_self {d : D} (h : d.cmp 40 = true) : dNe d d = some (.bl false) := by
  unfold dNe
  rw [h, eqv_cmp h]
  rfl
theorem zs_inj : ∀ {a b : List Int}, zs a = zs b → a = b
  | [], [], _ => rfl
  | [], b :: bs, h => by cases h
  | a :: as, [], h => by cases h
  | a :: as, b :: bs, h => by
    have h' : D.int a :: zs as = D.int b :: zs bs := h
    injection h' with h1 h2
    injection h1 with h3
    rw [h3, zs_inj h2]
theorem zs_int {l : List Int} {d : D} (h : d ∈ zs l) : ∃ i, d = .int i := by
  obtain ⟨i, _, rfl⟩ := List.mem_map.mp h
  exact ⟨i, rfl⟩
theorem cmps_all {n : Nat} : ∀ {ds : List D}, (∀ d ∈ ds, d.cmp n = true) → D.cmps n ds = true
  | [], _ => by cases n <;> simp [D.cmps]
  | d :: ds, h => by
    have h1 := h d (List.mem_cons_self ..)
    have h2 := cmps_all (ds := ds) fun e he => h e (List.mem_cons_of_mem _ he)
    simp only [D.cmps, h1, h2, Bool.and_self]
theorem part_ok {ρ : En} {m : EM} {i : Int} (h : m ρ = .ok (.d (.int i)) ρ) : mPart m ρ = .ok (some i) ρ := by
  unfold mPart
  rw [h]
  rfl
theorem lt_i {ma mb : EM} {ρ : En} {a b : Int} (h1 : ma ρ = .ok (.d (.int a)) ρ) (h2 : mb ρ = .ok (.d (.int b)) ρ) : mTst (mB dLt ma mb) ρ = .ok (decide (a < b)) ρ := by
  refine tst_ok ?_
  unfold mB
  rw [h1]
  simp only [R.bind]
  rw [h2]
  simp only [R.bind, OV.fz, ap2, OB.get, e_lt, rz]
theorem pick_ent {ρ : En} {i j : Nat} {es : List D} {k : Nat} {d : D} (h1 : ρ[i]? = some (.own false (.lst es))) (h2 : ρ[j]? = some (.val (.int k))) (h : es[k]? = some d) : mB dIx (mVar i) (mVar j) ρ = .ok (.d d) ρ := by
  have hk := (List.getElem?_eq_some_iff.mp h).1
  have hat : L2.atI es (k : Int) = some d := by
    unfold L2.atI L2.ixN
    rw [if_pos (by omega), if_pos (by omega)]
    simpa using h
  have hv : mVar i ρ = .ok (.o i) ρ := by
    unfold mVar
    rw [h1]
  unfold mB
  rw [hv]
  simp only [R.bind]
  rw [var_val h2]
  simp only [R.bind, OV.fz, ap2, OB.get]
  rw [h1]
  simp only [Ow.d, dIx]
  rw [hat]
  rfl
theorem tup1_ok {ρ : En} {m : EM} {d : D} (h : m ρ = .ok (.d d) ρ) : mTup (mCons m mNil) ρ = .ok (.d (.tup [d])) ρ := by
  simp [mTup, mCons, mNil, h, R.bind, OV.fz, escs, esc, BIG]
theorem eq_no {ρ : En} {i : Nat} {k p : Int} (h : ρ[i]? = some (.val (.int p))) (hne : ¬ p = k) : mTst (mB dEq (mVar i) (mC (.int k))) ρ = .ok false ρ := by
  rw [eq_int h, decide_eq_false hne]
theorem eq_yes {ρ : En} {i : Nat} {k : Int} (h : ρ[i]? = some (.val (.int k))) : mTst (mB dEq (mVar i) (mC (.int k))) ρ = .ok true ρ := by
  rw [eq_int h, decide_eq_true rfl]
theorem if_ff {c : TM} {a b : SM} {ρ ρ' : En} (h : c ρ = .ok false ρ') : mIfS c a b ρ = b ρ' := by
  unfold mIfS
  rw [h]
  rfl
theorem call_io0 {f : List Sl → DR} {ma : EM} {io : Bool} {ρ : En} {w w' : Ow} {v : OV} {a d : D} (h0 : ρ[0]? = some (.own io w)) (h1 : ma ρ = .ok v ρ) (e1 : esc v.fz ρ = some (a, ρ)) (hf : f [.own true w, .val a] = .ok (.v d) [w']) : mCall [0] f [] (mLend 0 (mArg ma mNil)) ρ = .ok (.d d) (ρ.set 0 (.own io w')) := call_io h0 h1 e1 h0 hf
theorem ne_n {ma mb : EM} {ρ ρ1 : En} {o : List D} (h1 : ma ρ = .ok (.n (.lst o)) ρ1) (h2 : mb ρ1 = .ok (.n (.lst o)) ρ1) (hc : (D.lst o).cmp 40 = true) : mTst (mB dNe ma mb) ρ = .ok false ρ1 := by
  refine tst_ok ?_
  have hn := ne_self hc
  unfold mB
  rw [h1]
  simp only [R.bind]
  rw [h2]
  simp only [R.bind, OV.fz, Ow.d, ap2, OB.get]
  rw [hn]
  rfl
theorem nil_lst {ρ : En} : mLst mNil ρ = .ok (.n (.lst [])) ρ := by
  simp [mLst, mNil, R.bind, escs]
theorem call3n {f : List Sl → DR} {mk ma mb : EM} {ρ ρ2 ρ3 ρ4 ρ5 : En} {v u : OV} {k a b : D} {o : Ow} (h0 : mk ρ = .ok (.d k) ρ) (h1 : ma ρ = .ok v ρ2) (e1 : esc v.fz ρ2 = some (a, ρ3)) (h2 : mb ρ3 = .ok u ρ4) (e2 : esc u.fz ρ4 = some (b, ρ5)) (hf : f [.val k, .val a, .val b] = .ok (.w o) []) : mCall [] f [] (mArg mk (mArg ma (mArg mb mNil))) ρ = .ok (.n o) ρ5 := by
  have e0 : esc (OV.fz (.d k)) ρ = some (k, ρ) := rfl
  simp [mCall, mArg, mNil, R.bind, h0, e0, h1, e1, h2, e2, toArgs, ioPos, ioSl, hf, putO, rvOV]
theorem call_io2 {f : List Sl → DR} {ma : EM} {i : Nat} {io : Bool} {ρ ρ1 ρ2 : En} {w w' : Ow} {v : OV} {a d : D} (h0 : isOw ρ[i]? = true) (h1 : ma ρ = .ok v ρ1) (e1 : esc v.fz ρ1 = some (a, ρ2)) (hp : ρ2[i]? = some (.own io w)) (hf : f [.own true w, .val a] = .ok (.v d) [w']) : mCall [0] f [] (mLend i (mArg ma mNil)) ρ = .ok (.d d) (ρ2.set i (.own io w')) := by
  simp [mCall, mLend, h0, mArg, mNil, R.bind, h1, e1, toArgs, ioPos, ioSl, hp, hf, putO, rvOV]
theorem call_io2w {f : List Sl → DR} {ma : EM} {i : Nat} {io : Bool} {ρ ρ1 ρ2 : En} {w w' o : Ow} {v : OV} {a : D} (h0 : isOw ρ[i]? = true) (h1 : ma ρ = .ok v ρ1) (e1 : esc v.fz ρ1 = some (a, ρ2)) (hp : ρ2[i]? = some (.own io w)) (hf : f [.own true w, .val a] = .ok (.w o) [w']) : mCall [0] f [] (mLend i (mArg ma mNil)) ρ = .ok (.n o) (ρ2.set i (.own io w')) := by
  simp [mCall, mLend, h0, mArg, mNil, R.bind, h1, e1, toArgs, ioPos, ioSl, hp, hf, putO, rvOV]
theorem add2 {ma mb : EM} {ρ ρ1 ρ2 : En} {a b : Int} (h1 : ma ρ = .ok (.d (.int a)) ρ1) (h2 : mb ρ1 = .ok (.d (.int b)) ρ2) : mB dAdd ma mb ρ = .ok (.d (.int (a + b))) ρ2 := by
  unfold mB
  rw [h1]
  simp only [R.bind]
  rw [h2]
  simp only [R.bind, OV.fz, ap2, OB.get, e_add, rz]
theorem sub2 {ma mb : EM} {ρ ρ1 ρ2 : En} {a b : Int} (h1 : ma ρ = .ok (.d (.int a)) ρ1) (h2 : mb ρ1 = .ok (.d (.int b)) ρ2) : mB dSub ma mb ρ = .ok (.d (.int (a - b))) ρ2 := by
  unfold mB
  rw [h1]
  simp only [R.bind]
  rw [h2]
  simp only [R.bind, OV.fz, ap2, OB.get, e_sub, rz]
theorem mod2 {ma mb : EM} {ρ ρ1 ρ2 : En} {a b : Int} (h0 : 0 < b) (h1 : ma ρ = .ok (.d (.int a)) ρ1) (h2 : mb ρ1 = .ok (.d (.int b)) ρ2) : mB dMod ma mb ρ = .ok (.d (.int (a % b))) ρ2 := by
  unfold mB
  rw [h1]
  simp only [R.bind]
  rw [h2]
  simp only [R.bind, OV.fz, ap2, OB.get, e_mod h0, rz]
theorem int2 {m : EM} {ρ ρ1 : En} {a : Int} (h : m ρ = .ok (.d (.int a)) ρ1) : mCB (g1 dInt) (mCons m mNil) ρ = .ok (.d (.int a)) ρ1 := by
  simp only [mCB, mCons, h, mNil, R.bind, OV.fz, apN, getAll, OB.get, g1, dInt, rz]
theorem ix_new {ρ ρ1 : En} {es : List D} {k : Nat} {d : D} {ma m : EM} (h1 : ma ρ = .ok (.n (.lst es)) ρ) (hm : m ρ = .ok (.d (.int k)) ρ1) (h : es[k]? = some d) : mB dIx ma m ρ = .ok (.d d) ρ1 := by
  have hk := (List.getElem?_eq_some_iff.mp h).1
  have hat : L2.atI es (k : Int) = some d := by
    unfold L2.atI L2.ixN
    rw [if_pos (by omega), if_pos (by omega)]
    simpa using h
  unfold mB
  rw [h1]
  simp only [R.bind]
  rw [hm]
  simp only [R.bind, OV.fz, Ow.d, ap2, OB.get, dIx]
  rw [hat]
  rfl
theorem isa_ff {ma mb : EM} {ρ : En} {b : Bool} (h1 : ma ρ = .ok (.d (.bl b)) ρ) (h2 : mb ρ = .ok (.d (.bl b)) ρ) : mTst (mB (dIsA true) ma mb) ρ = .ok false ρ := by
  refine tst_ok ?_
  unfold mB
  rw [h1]
  simp only [R.bind]
  rw [h2]
  simp only [R.bind, OV.fz, ap2, OB.get]
  cases b <;> rfl
theorem isa_tt {ma mb : EM} {ρ : En} {b : Bool} (h1 : ma ρ = .ok (.d (.bl b)) ρ) (h2 : mb ρ = .ok (.d (.bl b)) ρ) : mB (dIsA false) ma mb ρ = .ok (.d (.bl true)) ρ := by
  unfold mB
  rw [h1]
  simp only [R.bind]
  rw [h2]
  simp only [R.bind, OV.fz, ap2, OB.get]
  cases b <;> rfl
theorem call_io3 {f : List Sl → DR} {ma mb mc : EM} {i : Nat} {io : Bool} {ρ : En} {w w' : Ow} {v u t : OV} {a b c d : D} (h0 : ρ[i]? = some (.own io w)) (h1 : ma ρ = .ok v ρ) (e1 : esc v.fz ρ = some (a, ρ)) (h2 : mb ρ = .ok u ρ) (e2 : esc u.fz ρ = some (b, ρ)) (h3 : mc ρ = .ok t ρ) (e3 : esc t.fz ρ = some (c, ρ)) (hf : f [.own true w, .val a, .val b, .val c] = .ok (.v d) [w']) : mCall [0] f [] (mLend i (mArg ma (mArg mb (mArg mc mNil)))) ρ = .ok (.d d) (ρ.set i (.own io w')) := by
  simp [mCall, mLend, h0, isOw, mArg, mNil, R.bind, h1, e1, h2, e2, h3, e3, toArgs, ioPos, ioSl, hf, putO, rvOV]
theorem call_io2b {f : List Sl → DR} {ma mb : EM} {i : Nat} {io : Bool} {ρ : En} {w w' : Ow} {v u : OV} {a b d : D} (h0 : ρ[i]? = some (.own io w)) (h1 : ma ρ = .ok v ρ) (e1 : esc v.fz ρ = some (a, ρ)) (h2 : mb ρ = .ok u ρ) (e2 : esc u.fz ρ = some (b, ρ)) (hf : f [.own true w, .val a, .val b] = .ok (.v d) [w']) : mCall [0] f [] (mLend i (mArg ma (mArg mb mNil))) ρ = .ok (.d d) (ρ.set i (.own io w')) := by
  simp [mCall, mLend, h0, isOw, mArg, mNil, R.bind, h1, e1, h2, e2, toArgs, ioPos, ioSl, hf, putO, rvOV]
theorem at_ix {r : List Int} {i : Nat} (h : i < r.length) : L2.atI (zs r) (i : Int) = some (.int r[i]) := by
  unfold L2.atI L2.ixN zs
  rw [List.length_map, if_pos (by omega), if_pos (by omega)]
  show (r.map D.int)[(i : Int).toNat]? = _
  rw [List.getElem?_map, Int.toNat_natCast, List.getElem?_eq_getElem h]
  rfl
/-! ### operators, by any function -/
theorem op2 {g : D → D → Option D} {ma mb : EM} {ρ ρ1 ρ2 : En} {x y z : D} (h1 : ma ρ = .ok (.d x) ρ1) (h2 : mb ρ1 = .ok (.d y) ρ2) (hg : g x y = some z) : mB g ma mb ρ = .ok (.d z) ρ2 := by
  unfold mB
  rw [h1]
  simp only [R.bind]
  rw [h2]
  simp only [R.bind, OV.fz, ap2, OB.get]
  rw [hg]
  rfl
theorem op1 {g : D → Option D} {ma : EM} {ρ ρ1 : En} {x z : D} (h1 : ma ρ = .ok (.d x) ρ1) (hg : g x = some z) : mU g ma ρ = .ok (.d z) ρ1 := by
  unfold mU
  rw [h1]
  simp only [R.bind, OV.fz, ap1, OB.get]
  rw [hg]
  rfl
theorem cb1 {g : D → Option D} {ma : EM} {ρ ρ1 : En} {x z : D} (h1 : ma ρ = .ok (.d x) ρ1) (hg : g x = some z) : mCB (g1 g) (mCons ma mNil) ρ = .ok (.d z) ρ1 := by
  simp only [mCB, mCons, mNil]
  rw [h1]
  simp only [R.bind, OV.fz, apN, getAll, OB.get, g1]
  rw [hg]
  rfl
theorem cb2 {g : List D → Option D} {ma mb : EM} {ρ ρ1 ρ2 : En} {x y z : D} (h1 : ma ρ = .ok (.d x) ρ1) (h2 : mb ρ1 = .ok (.d y) ρ2) (hg : g [x, y] = some z) : mCB g (mCons ma (mCons mb mNil)) ρ = .ok (.d z) ρ2 := by
  simp only [mCB, mCons, mNil]
  rw [h1]
  simp only [R.bind]
  rw [h2]
  simp only [R.bind, OV.fz, apN, getAll, OB.get]
  rw [hg]
  rfl
theorem if_d {c : TM} {a b : EM} {ρ ρ1 : En} {t : Bool} (h : c ρ = .ok t ρ1) : mIf c a b ρ = if t then a ρ1 else b ρ1 := by
  unfold mIf
  rw [h]
  rfl
theorem asg2 {m : EM} {i j : Nat} {ρ ρ1 ρ2 : En} {x y : D} (h : m ρ = .ok (.d (.tup [x, y])) ρ1) (hs : setAll [i, j] [x, y] ρ1 = some ρ2) : mAsg (gT [i, j]) m ρ = .nx ρ2 := by
  unfold mAsg
  rw [h]
  show nxt (setAll [i, j] [x, y] ρ1) = _
  rw [hs]
  rfl
theorem tup2_ok {ma mb : EM} {ρ ρ1 ρ2 : En} {x y : D} (h1 : ma ρ = .ok (.d x) ρ1) (h2 : mb ρ1 = .ok (.d y) ρ2) : mTup (mCons ma (mCons mb mNil)) ρ = .ok (.d (.tup [x, y])) ρ2 := by
  simp [mTup, mCons, mNil, h1, h2, R.bind, OV.fz, escs, esc, BIG]
/-- a method of an own instance in slot i, no argument, one argument -/
theorem meth0 {c mn : Str} {i : Nat} {f : List Sl → DR} {io : Bool} {ρ : En} {fs : List (Str × D)} {o' : Ow} {d : D} (h : ρ[i]? = some (.own io (.ins c fs))) (hn : (fldD fs mn).isNone = true) (hf : f [.own true (.ins c fs)] = .ok (.v d) [o']) : mMeth c mn i [0] f mNil ρ = .ok (.d d) (ρ.set i (.own io o')) := by
  unfold mMeth
  rw [h]
  simp only
  rw [if_pos ⟨trivial, hn⟩]
  simp [mCall, mLend, h, isOw, mNil, R.bind, toArgs, ioPos, ioSl, hf, putO, rvOV]
theorem meth1 {c mn : Str} {i : Nat} {f : List Sl → DR} {ma : EM} {io : Bool} {ρ : En} {fs : List (Str × D)} {o' : Ow} {a d : D} (h : ρ[i]? = some (.own io (.ins c fs))) (hn : (fldD fs mn).isNone = true) (h1 : ma ρ = .ok (.d a) ρ) (hf : f [.own true (.ins c fs), .val a] = .ok (.v d) [o']) : mMeth c mn i [0] f (mArg ma mNil) ρ = .ok (.d d) (ρ.set i (.own io o')) := by
  unfold mMeth
  rw [h]
  simp only
  rw [if_pos ⟨trivial, hn⟩]
  simp [mCall, mLend, mArg, h, h1, isOw, mNil, R.bind, OV.fz, esc, toArgs, ioPos, ioSl, hf, putO, rvOV]
theorem meth2 {c mn : Str} {i : Nat} {f : List Sl → DR} {ma mb : EM} {io : Bool} {ρ : En} {fs : List (Str × D)} {o' : Ow} {a b d : D} (h : ρ[i]? = some (.own io (.ins c fs))) (hn : (fldD fs mn).isNone = true) (h1 : ma ρ = .ok (.d a) ρ) (h2 : mb ρ = .ok (.d b) ρ) (hf : f [.own true (.ins c fs), .val a, .val b] = .ok (.v d) [o']) : mMeth c mn i [0] f (mArg ma (mArg mb mNil)) ρ = .ok (.d d) (ρ.set i (.own io o')) := by
  unfold mMeth
  rw [h]
  simp only
  rw [if_pos ⟨trivial, hn⟩]
  simp [mCall, mLend, mArg, h, h1, h2, isOw, mNil, R.bind, OV.fz, esc, toArgs, ioPos, ioSl, hf, putO, rvOV]
/-- a slot that holds a thing, perhaps as an own list -/
def Sx (x : D) (s : Sl) : Prop := s = .val x ∨ ∃ es, x = .lst es ∧ s = .own false (.lst es)
theorem slot_any {ρ : En} {i : Nat} {x : D} {s : Sl} (h : ρ[i]? = some s) (hs : Sx x s) : ∃ v, mVar i ρ = .ok v ρ ∧ esc v.fz ρ = some (x, ρ.set i (.val x)) := by
  rcases hs with rfl | ⟨es, rfl, rfl⟩
  · refine ⟨.d x, by simp [mVar, h], ?_⟩
    have hv : i < ρ.length := (List.getElem?_eq_some_iff.mp h).1
    have := (List.getElem?_eq_some_iff.mp h).2
    have e : ρ.set i (.val x) = ρ := by rw [← this, List.set_getElem_self]
    rw [e]
    rfl
  · refine ⟨.o i, by simp [mVar, h], ?_⟩
    simp [OV.fz, esc, h, Ow.d]
/-- an entry of a list in a slot, own or not -/
theorem ixl {ρ : En} {i k : Nat} {xs : List D} {d : D} {s : Sl} (h : ρ[i]? = some s) (hs : Sx (.lst xs) s) (hk : xs[k]? = some d) : mB dIx (mVar i) (mC (.int k)) ρ = .ok (.d d) ρ := by
  have hlt := (List.getElem?_eq_some_iff.mp hk).1
  have hat : dIx (.lst xs) (.int k) = some d := by
    show L2.atI xs (k : Int) = some d
    unfold L2.atI L2.ixN
    rw [if_pos (by omega), if_pos (by omega)]
    simpa using hk
  rcases hs with rfl | ⟨es, e, rfl⟩
  · exact op2 (var_val h) rfl hat
  · injection e with e1
    subst e1
    have hv : mVar i ρ = .ok (.o i) ρ := by simp [mVar, h]
    unfold mB
    rw [hv]
    simp only [R.bind, mC, OV.fz, ap2, OB.get]
    rw [h]
    simp only [Ow.d]
    rw [hat]
    rfl
/-- an entry of a tuple in a slot -/
theorem ixt {ρ : En} {i k : Nat} {xs : List D} {d : D} (h : ρ[i]? = some (.val (.tup xs))) (hk : xs[k]? = some d) : mB dIx (mVar i) (mC (.int k)) ρ = .ok (.d d) ρ := by
  have hlt := (List.getElem?_eq_some_iff.mp hk).1
  have hat : dIx (.tup xs) (.int k) = some d := by
    show L2.atI xs (k : Int) = some d
    unfold L2.atI L2.ixN
    rw [if_pos (by omega), if_pos (by omega)]
    simpa using hk
  exact op2 (var_val h) rfl hat
theorem putF_ok {flds : List (Str × Str)} {i : Nat} {f c : Str} {m : EM} {ρ : En} {io : Bool} {ds : List (Str × D)} {d : D} (h : ρ[i]? = some (.own io (.ins c ds))) (hm : m ρ = .ok (.d d) ρ) (hc : flds.contains (c, f) = true) (hl : ds.length < 1000) : mPutF flds i f m ρ = .nx (ρ.set i (.own io (.ins c (putFD f d ds)))) := by
  unfold mPutF
  rw [hm]
  simp only [R.st, OV.fz, esc]
  rw [h]
  exact if_pos ⟨hc, hl⟩
theorem make1 {c : Str} {f : List Sl → DR} {ma : EM} {ρ : En} {a : D} {o : Ow} (h1 : ma ρ = .ok (.d a) ρ) (hf : f [.own true (.ins c []), .val a] = .ok (.v .non) [o]) : mMake c f (mArg ma mNil) ρ = .ok (.n o) ρ := by
  simp [mMake, mArg, mNil, h1, R.bind, OV.fz, esc, toArgs, ioPos, hf]
theorem try_ok {cat : List (Str × Bool)} {i : Nat} {mb : SM} {ms : Ck → SM} {ρ ρ1 : En} {r : RV} (h : mb ρ = .rt r ρ1) : mTry cat i mb ms ρ = .rt r ρ1 := by
  unfold mTry
  rw [h]
theorem isi_ok {t : Tst} {m : EM} {ρ ρ1 : En} {x : D} {b : Bool} (h : m ρ = .ok (.d x) ρ1) (hb : t.of x = some b) : mIsi t m ρ = .ok (.d (.bl b)) ρ1 := by
  unfold mIsi
  rw [h]
  simp only [R.bind, OV.fz, OB.get]
  rw [hb]
theorem and_t {a b : TM} {ρ ρ1 ρ2 : En} {c : Bool} (h1 : a ρ = .ok true ρ1) (h2 : b ρ1 = .ok c ρ2) : mAnd a b ρ = .ok c ρ2 := and_tt h1 h2
end Mi
set_option Elab.async false
set_option linter.all false
set_option maxRecDepth 100000
set_option maxHeartbeats 4000000
namespace K09
open PySem Mi
/-! ## the reader -/
abbrev rd (l : List Nat) (a q : Nat) : Ow := .ins "CallReader" [("text", T l), ("at", .int a), ("depth", .int q)]
theorem n_at_text : ¬ (("at" : Str) = "text") := by decide
theorem n_de_text : ¬ (("depth" : Str) = "text") := by decide
theorem n_de_at : ¬ (("depth" : Str) = "at") := by decide
theorem n_text_at : ¬ (("text" : Str) = "at") := by decide
theorem n_text_de : ¬ (("text" : Str) = "depth") := by decide
theorem n_at_de : ¬ (("at" : Str) = "depth") := by decide
section
variable {ρ : En} {i : Nat} {io : Bool} {l : List Nat} {a q : Nat} (h : ρ[i]? = some (.own io (rd l a q)))
include h
theorem fl_text : mFld flds i "text" ρ = .ok (.d (T l)) ρ := by
  unfold mFld
  rw [h]
  show (if flds.contains (("CallReader" : Str), ("text" : Str)) = true then _ else _) = _
  rw [if_pos (by decide)]
  simp [fldD]
theorem fl_at : mFld flds i "at" ρ = .ok (.d (.int a)) ρ := by
  unfold mFld
  rw [h]
  show (if flds.contains (("CallReader" : Str), ("at" : Str)) = true then _ else _) = _
  rw [if_pos (by decide)]
  simp [fldD, n_at_text]
theorem fl_depth : mFld flds i "depth" ρ = .ok (.d (.int q)) ρ := by
  unfold mFld
  rw [h]
  show (if flds.contains (("CallReader" : Str), ("depth" : Str)) = true then _ else _) = _
  rw [if_pos (by decide)]
  simp [fldD, n_de_text, n_de_at]
theorem aug_at {m : EM} {b : Nat} (hm : m ρ = .ok (.d (.int b)) ρ) : mAugF flds i "at" (· + ·) m ρ = .nx (ρ.set i (.own io (rd l (a + b) q))) := by
  unfold mAugF
  rw [h]
  show (if flds.contains (("CallReader" : Str), ("at" : Str)) = true then _ else _) = _
  rw [if_pos (by decide)]
  simp [fldD, n_at_text, hm, R.st, h, putFD, n_text_at]
  rfl
theorem aug_in {m : EM} (hm : m ρ = .ok (.d (.int 1)) ρ) : mAugF flds i "depth" (· + ·) m ρ = .nx (ρ.set i (.own io (rd l a (q + 1)))) := by
  unfold mAugF
  rw [h]
  show (if flds.contains (("CallReader" : Str), ("depth" : Str)) = true then _ else _) = _
  rw [if_pos (by decide)]
  simp [fldD, n_de_text, n_de_at, hm, R.st, h, putFD, n_text_de, n_at_de]
  rfl
theorem aug_out {m : EM} (hq : 1 ≤ q) (hm : m ρ = .ok (.d (.int 1)) ρ) : mAugF flds i "depth" (· - ·) m ρ = .nx (ρ.set i (.own io (rd l a (q - 1)))) := by
  have e : ((q - 1 : Nat) : Int) = (q : Int) - 1 := by omega
  unfold mAugF
  rw [h]
  show (if flds.contains (("CallReader" : Str), ("depth" : Str)) = true then _ else _) = _
  rw [if_pos (by decide)]
  simp [fldD, n_de_text, n_de_at, hm, R.st, h, putFD, n_text_de, n_at_de]
  show List.set ρ i (.own io (.ins "CallReader" [("text", T l), ("at", .int a), ("depth", .int ((q : Int) - 1))])) = List.set ρ i (.own io (.ins "CallReader" [("text", T l), ("at", .int a), ("depth", .int ((q - 1 : Nat) : Int))]))
  rw [e]
end
theorem one_nat : ∀ ρ : En, mC (.int 1) ρ = .ok (.d (.int ((1 : Nat) : Int))) ρ := fun _ => rfl
theorem apSlS_T {v : OB} {ρ : En} {l : List Nat} {lo hi : Option Int} (hv : v.get ρ = some (T l)) (hb : (S l).length ≤ BIG) : apSlS v lo hi ρ = .ok (.d (.str (L2.cutS (S l) lo hi))) ρ := by
  unfold apSlS
  rw [hv]
  exact if_pos hb
theorem slS_ok {ρ : En} {m ml mh : EM} {l : List Nat} {a b : Nat} (hm : m ρ = .ok (.d (T l)) ρ) (h1 : ml ρ = .ok (.d (.int a)) ρ) (h2 : mh ρ = .ok (.d (.int b)) ρ) (hl : l.length ≤ 100000) : mSlS m (mPart ml) (mPart mh) ρ = .ok (.d (T ((l.drop a).take (b - a)))) ρ := by
  have hb : (S l).length ≤ BIG := by rw [S_len]; unfold BIG; omega
  unfold mSlS
  rw [hm]
  simp only [R.bind]
  rw [part_ok h1]
  simp only [R.bind]
  rw [part_ok h2]
  show apSlS (.d (T l)) (some (a : Int)) (some (b : Int)) ρ = _
  rw [apSlS_T rfl hb, s_cut]
theorem sign_ok {l : List Nat} {a q : Nat} (hl : l.length ≤ 100000) : m_CallReader_sign [.own true (rd l a q)] = .ok (.v (T ((l.drop a).take 1))) [rd l a q] := by
  unfold m_CallReader_sign
  refine mDef_io (ρ := [.own true (rd l a q)]) (io := true) ?_ rfl
  show b_CallReader_sign [.own true (rd l a q)] = _
  have k := slS_ok (ρ := [.own true (rd l a q)]) (a := a) (b := a + 1) (fl_text (i := 0) rfl) (fl_at (i := 0) rfl) (add_ok (mb := mC (.int 1)) (b := 1) (fl_at (i := 0) rfl) rfl) hl
  have e : a + 1 - a = 1 := by omega
  rw [e] at k
  unfold b_CallReader_sign
  exact mRet_d k
def isD (c : Nat) : Bool := decide (48 ≤ c ∧ c ≤ 57)
theorem lit_digits : Str.ofString "0123456789" = S [48, 49, 50, 51, 52, 53, 54, 55, 56, 57] := by decide +kernel
theorem isD_mem {c : Nat} : decide (c ∈ [48, 49, 50, 51, 52, 53, 54, 55, 56, 57]) = isD c := by
  unfold isD
  congr 1
  simp
  omega
/-- the digits from here on -/
def digs (l : List Nat) (a : Nat) : List Nat := (l.drop a).takeWhile isD
noncomputable def digC : TM := (mAnd (mTst (mB (dOr dLt dLtS) (mVar 1) (mCB (g1 dLen) (mCons (mFld flds 0 "text") mNil)))) (mTst (mB (dInS false) (mB dIxS (mFld flds 0 "text") (mVar 1)) (mC (.str "0123456789")))))
noncomputable def digB : SM := mAug 1 dAddI (mC (.int 1))
theorem dig_c {l : List Nat} {a q s : Nat} (hl : l.length ≤ 100000) : digC [.own true (rd l a q), .val (.int s)] = .ok (match l[s]? with | some c => isD c | none => false) [.own true (rd l a q), .val (.int s)] := by
  have hlen := cb1 (g := dLen) (fl_text (ρ := [.own true (rd l a q), .val (.int s)]) (i := 0) rfl) (s_len (a := l) (by unfold BIG; omega))
  have hlt := tst_ok (op2 (g := dOr dLt dLtS) (ma := mVar 1) (var_val (d := .int s) rfl) hlen (z := .bl (decide ((s : Int) < l.length))) rfl)
  unfold digC
  by_cases c : s < l.length
  · rw [decide_eq_true (by omega)] at hlt
    have e : l[s]? = some l[s] := List.getElem?_eq_getElem c
    rw [e]
    refine and_tt hlt ?_
    have hin := s_in (c := l[s]) (b := [48, 49, 50, 51, 52, 53, 54, 55, 56, 57])
    rw [isD_mem] at hin
    refine tst_ok (op2 (op2 (fl_text (i := 0) rfl) (var_val (i := 1) (d := .int s) rfl) (s_ix c (by omega))) (y := T [48, 49, 50, 51, 52, 53, 54, 55, 56, 57]) ?_ hin)
    rw [lit_digits]
    rfl
  · rw [decide_eq_false (by omega)] at hlt
    have e : l[s]? = none := List.getElem?_eq_none (by omega)
    rw [e]
    exact and_ff hlt
theorem dig_loop {l : List Nat} {a q : Nat} (hl : l.length ≤ 100000) : ∀ {u : List Nat} {s : Nat}, l.drop s = u → ∃ n, mWhN digC digB n [.own true (rd l a q), .val (.int s)] = .nx [.own true (rd l a q), .val (.int ((s + (u.takeWhile isD).length : Nat) : Int))]
  | [], s, h => by
    have hs : l[s]? = none := List.getElem?_eq_none (by
      have := congrArg List.length h
      simp at this
      omega)
    refine ⟨1, ?_⟩
    rw [mWhN, dig_c hl, hs]
    rfl
  | c :: u, s, h => by
    have hlt : s < l.length := by
      have := congrArg List.length h
      simp at this
      omega
    have hc : l[s]? = some c := by
      rw [List.drop_eq_getElem_cons hlt] at h
      injection h with h1 h2
      rw [List.getElem?_eq_getElem hlt, h1]
    have hu : l.drop (s + 1) = u := by
      rw [List.drop_eq_getElem_cons hlt] at h
      injection h with h1 h2
    cases q1 : isD c with
    | false =>
      refine ⟨1, ?_⟩
      rw [mWhN, dig_c hl, hc]
      simp only [q1]
      rw [List.takeWhile_cons_of_neg (by simp [q1])]
      rfl
    | true =>
      obtain ⟨n, hn⟩ := dig_loop hl (a := a) (q := q) hu
      refine ⟨n + 1, ?_⟩
      rw [mWhN, dig_c hl, hc]
      simp only [q1]
      have hb : digB [.own true (rd l a q), .val (.int s)] = .nx [.own true (rd l a q), .val (.int ((s + 1 : Nat) : Int))] := by
        unfold digB
        simp [mAug, mC, R.st, OV.fz, OB.get, dAddI, canSet]
      rw [hb]
      simp only
      rw [hn, List.takeWhile_cons_of_pos q1, List.length_cons]
      have e : s + 1 + (u.takeWhile isD).length = s + ((u.takeWhile isD).length + 1) := by omega
      rw [e]
theorem take_tw (p : Nat → Bool) : ∀ u : List Nat, u.take (u.takeWhile p).length = u.takeWhile p
  | [] => rfl
  | c :: u => by
    cases h : p c with
    | false => rw [List.takeWhile_cons_of_neg (by simp [h])]; rfl
    | true => rw [List.takeWhile_cons_of_pos h, List.length_cons, List.take_succ_cons, take_tw p u]
theorem digits_ok {l : List Nat} {a q : Nat} (hl : l.length ≤ 100000) : m_CallReader_digits [.own true (rd l a q)] = .ok (.v (T (digs l a))) [rd l a q] := by
  obtain ⟨n, hn⟩ := dig_loop hl (a := a) (q := q) (s := a) (u := l.drop a) rfl
  have e1 : b_CallReader_digits_1 [.own true (rd l a q), .un] = .nx [.own true (rd l a q), .val (.int a)] := by
    unfold b_CallReader_digits_1
    exact set_d (fl_at (i := 0) rfl) rfl
  have e2 : b_CallReader_digits_2 [.own true (rd l a q), .val (.int a)] = .nx [.own true (rd l a q), .val (.int ((a + (digs l a).length : Nat) : Int))] := by
    have hne : mWhN digC digB n [.own true (rd l a q), .val (.int a)] ≠ .bad := by
      rw [hn]
      intro z
      cases z
    have := mWhile_eq hne
    rw [hn] at this
    exact this
  have k := slS_ok (ρ := [.own true (rd l a q), .val (.int ((a + (digs l a).length : Nat) : Int))]) (a := a) (b := a + (digs l a).length) (fl_text (i := 0) rfl) (fl_at (i := 0) rfl) (var_val (i := 1) rfl) hl
  have e : a + (digs l a).length - a = (digs l a).length := by omega
  rw [e] at k
  have e3 : (l.drop a).take (digs l a).length = digs l a := take_tw isD _
  rw [e3] at k
  unfold m_CallReader_digits
  refine mDef_io (ρ := [.own true (rd l a q), .val (.int ((a + (digs l a).length : Nat) : Int))]) (io := true) ?_ rfl
  show b_CallReader_digits [.own true (rd l a q), .un] = _
  unfold b_CallReader_digits
  rw [seq_nx e1, seq_nx e2]
  unfold b_CallReader_digits_3
  exact mRet_d k
theorem goin_ok {l : List Nat} {a q : Nat} (hq : q < 6) : m_CallReader_go_in [.own true (rd l a q)] = .ok (.v .non) [rd l (a + 1) (q + 1)] := by
  have e1 : b_CallReader_go_in_1 [.own true (rd l a q)] = .nx [.own true (rd l a q)] := by
    unfold b_CallReader_go_in_1
    refine skip_ok (tst_ok ?_)
    unfold mB
    rw [fl_depth (i := 0) rfl]
    simp only [R.bind, mC, OV.fz, ap2, OB.get, e_int, rz]
    rw [decide_eq_false (by omega)]
  have e2 : b_CallReader_go_in_2 [.own true (rd l a q)] = .nx [.own true (rd l a (q + 1))] := by
    unfold b_CallReader_go_in_2
    exact aug_in (i := 0) rfl rfl
  have e3 : b_CallReader_go_in_3 [.own true (rd l a (q + 1))] = .nx [.own true (rd l (a + 1) (q + 1))] := by
    unfold b_CallReader_go_in_3
    exact aug_at (i := 0) (b := 1) rfl rfl
  have e0 : b_CallReader_go_in [.own true (rd l a q)] = .nx [.own true (rd l (a + 1) (q + 1))] := by
    unfold b_CallReader_go_in
    rw [seq_nx e1, seq_nx e2, e3]
  unfold m_CallReader_go_in mDef
  show (match b_CallReader_go_in [.own true (rd l a q)] with | .rt r ρ => okD [0] r ρ | .nx ρ => okD [0] (.v .non) ρ | .ex x ρ => (match ioOf [0] ρ with | some os => .ex x os | none => .bad) | _ => .bad) = _
  rw [e0]
  rfl
theorem goout_ok {l : List Nat} {a q : Nat} (hq : 1 ≤ q) : m_CallReader_go_out [.own true (rd l a q)] = .ok (.v .non) [rd l (a + 1) (q - 1)] := by
  have e2 : b_CallReader_go_out_1 [.own true (rd l a q)] = .nx [.own true (rd l a (q - 1))] := by
    unfold b_CallReader_go_out_1
    exact aug_out (i := 0) rfl hq rfl
  have e3 : b_CallReader_go_out_2 [.own true (rd l a (q - 1))] = .nx [.own true (rd l (a + 1) (q - 1))] := by
    unfold b_CallReader_go_out_2
    exact aug_at (i := 0) (b := 1) rfl rfl
  have e0 : b_CallReader_go_out [.own true (rd l a q)] = .nx [.own true (rd l (a + 1) (q - 1))] := by
    unfold b_CallReader_go_out
    rw [seq_nx e2, e3]
  unfold m_CallReader_go_out mDef
  show (match b_CallReader_go_out [.own true (rd l a q)] with | .rt r ρ => okD [0] r ρ | .nx ρ => okD [0] (.v .non) ρ | .ex x ρ => (match ioOf [0] ρ with | some os => .ex x os | none => .bad) | _ => .bad) = _
  rw [e0]
  rfl
end K09
set_option Elab.async false
set_option linter.all false
set_option maxRecDepth 100000
set_option maxHeartbeats 4000000
namespace K09
open PySem Mi
/-! ### finite facts -/
def isI (r : DR) (k : Int) : Bool := match r with
  | .ok (.v (.int i)) [] => decide (i = k)
  | _ => false
theorem isI_eq {r : DR} {k : Int} (h : isI r k = true) : r = .ok (.v (.int k)) [] := by
  unfold isI at h
  split at h
  · rw [of_decide_eq_true h]
  · cases h
def isT (r : DR) : Bool := match r with
  | .ok (.v (.bl true)) [] => true
  | _ => false
theorem isT_eq {r : DR} (h : isT r = true) : r = .ok (.v (.bl true)) [] := by
  unfold isT at h
  split at h
  · rfl
  · cases h
theorem told_all : ∀ k : Fin 98, isI (m_number_told [.val (T (TL.numL (k.val + 2))), .val (.int 2), .val (.int 99)]) ((k.val : Int) + 2) = true := by decide +kernel
theorem letter_all : ∀ k : Fin 26, isT (m_is_letter [.val (T [k.val + 97])]) = true := by decide +kernel
end K09
set_option Elab.async false
set_option linter.all false
set_option maxRecDepth 100000
set_option maxHeartbeats 4000000
namespace K09
open PySem Mi
theorem lit_nil : Str.ofString "" = S [] := by decide +kernel
theorem lit_open : Str.ofString "(" = S [40] := by decide +kernel
theorem lit_close : Str.ofString ")" = S [41] := by decide +kernel
theorem numL_isD (k : Nat) : ∀ c ∈ TL.numL k, isD c = true := fun c hc => by
  have := TL.numL_digits k c hc
  unfold isD
  exact decide_eq_true (by omega)
theorem told_ok {k : Nat} (h2 : 2 ≤ k) (h9 : k ≤ 99) : m_number_told [.val (T (TL.numL k)), .val (.int 2), .val (.int 99)] = .ok (.v (.int k)) [] := by
  have h := isI_eq (told_all ⟨k - 2, by omega⟩)
  have e : k - 2 + 2 = k := by omega
  have e2 : (((k - 2 : Nat) : Int) + 2) = (k : Int) := by omega
  simp only [e] at h
  rw [e2] at h
  exact h
theorem letter_ok {c : Nat} (h : 97 ≤ c ∧ c ≤ 122) : m_is_letter [.val (T [c])] = .ok (.v (.bl true)) [] := by
  have h1 := isT_eq (letter_all ⟨c - 97, by omega⟩)
  have e : c - 97 + 97 = c := by omega
  simp only [e] at h1
  exact h1
theorem numL_two {k : Nat} (h9 : k ≤ 99) : (TL.numL k).length ≤ 2 := TL.numL_len (k := 2) (by omega) (by omega)
theorem no_mn {l : List Nat} {a q : Nat} {mn : Str} (h1 : ¬ mn = "text") (h2 : ¬ mn = "at") (h3 : ¬ mn = "depth") : (fldD [(("text" : Str), T l), (("at" : Str), D.int a), (("depth" : Str), D.int q)] mn).isNone = true := by
  simp [fldD, h1, h2, h3]
theorem takenum_ok {l : List Nat} {a q k : Nat} (hl : l.length ≤ 100000) (h2 : 2 ≤ k) (h9 : k ≤ 99) (hr : digs l a = TL.numL k) : m_CallReader_take_number [.own true (rd l a q), .val (.int 2), .val (.int 99)] = .ok (.v (.int k)) [rd l (a + (TL.numL k).length) q] := by
  have d0 := digits_ok (a := a) (q := q) hl
  rw [hr] at d0
  have e1 : b_CallReader_take_number_1 [.own true (rd l a q), .val (.int 2), .val (.int 99), .un, .un] = .nx [.own true (rd l a q), .val (.int 2), .val (.int 99), .val (T (TL.numL k)), .un] := by
    unfold b_CallReader_take_number_1
    exact set_d (meth0 (ρ := [.own true (rd l a q), .val (.int 2), .val (.int 99), .un, .un]) (io := true) rfl (no_mn (by decide) (by decide) (by decide)) d0) rfl
  have e2 : b_CallReader_take_number_2 [.own true (rd l a q), .val (.int 2), .val (.int 99), .val (T (TL.numL k)), .un] = .nx [.own true (rd l a q), .val (.int 2), .val (.int 99), .val (T (TL.numL k)), .val (.int k)] := by
    unfold b_CallReader_take_number_2
    exact set_d (call3 (f := m_number_told) (ρ := [.own true (rd l a q), .val (.int 2), .val (.int 99), .val (T (TL.numL k)), .un]) (v := .d (T (TL.numL k))) (u := .d (.int 2)) (t := .d (.int 99)) (var_val (i := 3) rfl) rfl (var_val (i := 1) rfl) rfl (var_val (i := 2) rfl) rfl (told_ok h2 h9)) rfl
  have e3 : b_CallReader_take_number_3 [.own true (rd l a q), .val (.int 2), .val (.int 99), .val (T (TL.numL k)), .val (.int k)] = .nx [.own true (rd l a q), .val (.int 2), .val (.int 99), .val (T (TL.numL k)), .val (.int k)] := by
    unfold b_CallReader_take_number_3
    exact skip_ok (tst_ok (op2 (g := dIsA false) (var_val (i := 4) rfl) rfl rfl))
  have e4 : b_CallReader_take_number_4 [.own true (rd l a q), .val (.int 2), .val (.int 99), .val (T (TL.numL k)), .val (.int k)] = .nx [.own true (rd l (a + (TL.numL k).length) q), .val (.int 2), .val (.int 99), .val (T (TL.numL k)), .val (.int k)] := by
    unfold b_CallReader_take_number_4
    exact aug_at (i := 0) (ρ := [.own true (rd l a q), .val (.int 2), .val (.int 99), .val (T (TL.numL k)), .val (.int k)]) rfl (cb1 (g := dLen) (var_val (i := 3) rfl) (s_len (by have := numL_two h9; unfold BIG; omega)))
  unfold m_CallReader_take_number
  refine mDef_io (ρ := [.own true (rd l (a + (TL.numL k).length) q), .val (.int 2), .val (.int 99), .val (T (TL.numL k)), .val (.int k)]) (io := true) ?_ rfl
  show b_CallReader_take_number [.own true (rd l a q), .val (.int 2), .val (.int 99), .un, .un] = _
  unfold b_CallReader_take_number
  rw [seq_nx e1, seq_nx e2, seq_nx e3, seq_nx e4]
  unfold b_CallReader_take_number_5
  exact mRet_d (var_val rfl)
theorem tw_app {u v : List Nat} {x : Nat} (hu : ∀ c ∈ u, isD c = true) (hx : isD x = false) : (u ++ x :: v).takeWhile isD = u := by
  induction u with
  | nil => rw [List.nil_append, List.takeWhile_cons_of_neg (by simp [hx])]
  | cons c u ih =>
    rw [List.cons_append, List.takeWhile_cons_of_pos (hu c (List.mem_cons_self ..)), ih fun d hd => hu d (List.mem_cons_of_mem _ hd)]
/-! ## rows of items: texts, and the letters for which they stand -/
def isL (c : Nat) : Prop := 97 ≤ c ∧ c ≤ 122
def repN (k : Nat) (W : List Nat) : List Nat := (List.replicate k W).flatten
def ItemP (R : List Nat → List Nat → Prop) (t W : List Nat) : Prop :=
  (∃ c, isL c ∧ t = [c] ∧ W = [c]) ∨ (∃ k c, (2 ≤ k ∧ k ≤ 99) ∧ isL c ∧ t = TL.numL k ++ [c] ∧ W = List.replicate k c) ∨ (∃ k t' W', (2 ≤ k ∧ k ≤ 99) ∧ R t' W' ∧ t' ≠ [] ∧ t = TL.numL k ++ 40 :: (t' ++ [41]) ∧ W = repN k W')
inductive RunI (I : List Nat → List Nat → Prop) : List Nat → List Nat → Prop
  | nil : RunI I [] []
  | cons {t1 W1 t2 W2 : List Nat} : I t1 W1 → RunI I t2 W2 → RunI I (t1 ++ t2) (W1 ++ W2)
def Row : Nat → List Nat → List Nat → Prop
  | 0 => RunI (ItemP fun _ _ => False)
  | d + 1 => RunI (ItemP (Row d))
def cap (W : List Nat) : List Nat := if W.length ≤ 400 then W else []
theorem isL_noD {c : Nat} (h : isL c) : isD c = false := by
  unfold isL at h
  unfold isD
  exact decide_eq_false (by omega)
theorem drop_plus {l t u : List Nat} {a : Nat} (h : l.drop a = t ++ u) : l.drop (a + t.length) = u := by
  rw [← List.drop_drop, h]
  simp
abbrev oi (l : List Nat) (a q : Nat) (s1 s2 s3 s4 : Sl) : En := [.own true (rd l a q), s1, s2, s3, s4]
theorem okS_drop {l : List Nat} (h : okS l) (a k : Nat) : okS ((l.drop a).take k) := fun c hc => h c (List.mem_of_mem_drop (List.mem_of_mem_take hc))
theorem okS_lit {l : List Nat} (h : ∀ c ∈ l, c < 1000) : okS l := fun c hc => Nat.lt_trans (h c hc) (by decide)
section
variable {l : List Nat} {a q : Nat} {self : List Sl → DR} (hl : l.length ≤ 100000) (ho : okS l)
include hl ho
/-- the last part of an item: one letter -/
theorem tail_ok {k c : Nat} {v : List Nat} {s2 s3 : Sl} (hk : 1 ≤ k ∧ k ≤ 99) (hc : isL c) (hd : l.drop a = c :: v) : mSeq (b_CallReader_one_item_3 self) (mSeq (b_CallReader_one_item_4 self) (mSeq (b_CallReader_one_item_5 self) (b_CallReader_one_item_6 self))) (oi l a q (.val (.int k)) s2 s3 .un) = .rt (.v (.tup [.int k, T (List.replicate k c)])) (oi l (a + 1) q (.val (.int k)) s2 s3 (.val (T [c]))) := by
  have sg := sign_ok (a := a) (q := q) hl
  rw [hd] at sg
  have e3 : b_CallReader_one_item_3 self (oi l a q (.val (.int k)) s2 s3 .un) = .nx (oi l a q (.val (.int k)) s2 s3 (.val (T [c]))) := by
    unfold b_CallReader_one_item_3
    exact set_d (meth0 (ρ := oi l a q (.val (.int k)) s2 s3 .un) (io := true) rfl (no_mn (by decide) (by decide) (by decide)) sg) rfl
  have e4 : b_CallReader_one_item_4 self (oi l a q (.val (.int k)) s2 s3 (.val (T [c]))) = .nx (oi l a q (.val (.int k)) s2 s3 (.val (T [c]))) := by
    unfold b_CallReader_one_item_4
    exact skip_ok (not_ok (tst_ok (call1 (f := m_is_letter) (v := .d (T [c])) (var_val (i := 4) rfl) rfl (letter_ok hc))))
  have e5 : b_CallReader_one_item_5 self (oi l a q (.val (.int k)) s2 s3 (.val (T [c]))) = .nx (oi l (a + 1) q (.val (.int k)) s2 s3 (.val (T [c]))) := by
    unfold b_CallReader_one_item_5
    exact aug_at (i := 0) (b := 1) (ρ := oi l a q (.val (.int k)) s2 s3 (.val (T [c]))) rfl rfl
  have hm : (dOr dMul dMulS) (T [c]) (.int k) = some (T (List.replicate k c)) := by
    have := s_mul (a := [c]) (n := (k : Int)) (by omega) (by omega) (by simp)
    have e : rep (k : Int) [c] = List.replicate k c := by
      unfold rep
      rw [Int.toNat_natCast]
      have : ∀ j : Nat, (List.replicate j [c]).flatten = List.replicate j c := by
        intro j
        induction j with
        | zero => rfl
        | succ j ih => rw [List.replicate_succ, List.flatten_cons, ih, List.replicate_succ]; rfl
      exact this k
    rw [e] at this
    unfold dOr
    have h0 : dMul (T [c]) (.int k) = none := rfl
    rw [h0]
    exact this
  rw [seq_nx e3, seq_nx e4, seq_nx e5]
  unfold b_CallReader_one_item_6
  exact mRet_d (tup2_ok (var_val (i := 1) rfl) (op2 (var_val (i := 4) rfl) (var_val (i := 1) rfl) hm))
end
end K09
set_option Elab.async false
set_option linter.all false
set_option maxRecDepth 100000
set_option maxHeartbeats 4000000
namespace K09
open PySem Mi
theorem repN_len (k : Nat) (W : List Nat) : (repN k W).length = k * W.length := by
  unfold repN
  rw [List.length_flatten, List.map_replicate, List.sum_replicate_nat]
theorem rep_eq (k : Nat) (W : List Nat) : rep (k : Int) W = repN k W := by
  unfold rep repN
  rw [Int.toNat_natCast]
theorem cap_le (W : List Nat) : (cap W).length ≤ 400 := by
  unfold cap
  by_cases c : W.length ≤ 400
  · rw [if_pos c]; exact c
  · rw [if_neg c]; simp
theorem mul_ii {a b : Int} (h1 : -(2 ^ 64) < a) (h2 : a < 2 ^ 64) : (dOr dMul dMulS) (.int a) (.int b) = some (.int (a * b)) := by
  unfold dOr
  rw [e_mull h1 h2]
theorem mul_si {W : List Nat} {k : Nat} (hk : k ≤ 1000) (hW : W.length ≤ 10000) : (dOr dMul dMulS) (T W) (.int k) = some (T (repN k W)) := by
  have := s_mul (a := W) (n := (k : Int)) (by omega) (by omega) hW
  rw [rep_eq] at this
  unfold dOr
  have h0 : dMul (T W) (.int k) = none := rfl
  rw [h0]
  exact this
def NestOK (R : List Nat → List Nat → Prop) (self : List Sl → DR) (l : List Nat) (q : Nat) : Prop := ∀ t' W' a' rest, R t' W' → t' ≠ [] → l.drop a' = t' ++ 41 :: rest → q < 6 ∧ self [.own true (rd l a' (q + 1)), .val (T [41])] = .ok (.v (.tup [.int W'.length, T (cap W')])) [rd l (a' + t'.length) (q + 1)]
section
variable {l : List Nat} {a q : Nat} {self : List Sl → DR} (hl : l.length ≤ 100000) (ho : okS l)
include hl ho
theorem one_1 : b_CallReader_one_item_1 self (oi l a q .un .un .un .un) = .nx (oi l a q (.val (.int 1)) .un .un .un) := by
  unfold b_CallReader_one_item_1
  exact set_d (ρ' := oi l a q .un .un .un .un) rfl rfl
theorem dig_ne (u : List Nat) (hr : digs l a = u) (hu : okS u) : mTst (mB dNe (mMeth "CallReader" "digits" 0 [0] m_CallReader_digits mNil) (mC (.str ""))) (oi l a q (.val (.int 1)) .un .un .un) = .ok (!decide (u = [])) (oi l a q (.val (.int 1)) .un .un .un) := by
  have d0 := digits_ok (a := a) (q := q) hl
  rw [hr] at d0
  refine tst_ok (op2 (meth0 (ρ := oi l a q (.val (.int 1)) .un .un .un) (io := true) rfl (no_mn (by decide) (by decide) (by decide)) d0) (y := T []) ?_ (s_ne hu (okS_lit (by simp))))
  rw [lit_nil]
  rfl
theorem item_ok {R : List Nat → List Nat → Prop} {t W post : List Nat} (hi : ItemP R t W) (hd : l.drop a = t ++ post) (hN : NestOK R self l q) : ∃ part, (W.length ≤ 400 → part = W) ∧ part.length ≤ 40000 ∧ m_CallReader_one_item self [.own true (rd l a q)] = .ok (.v (.tup [.int W.length, T part])) [rd l (a + t.length) q] := by
  have fin : ∀ {r : RV} {ρ : En} {a' : Nat}, b_CallReader_one_item self (oi l a q .un .un .un .un) = .rt r ρ → ρ[0]? = some (.own true (rd l a' q)) → m_CallReader_one_item self [.own true (rd l a q)] = .ok r [rd l a' q] := by
    intro r ρ a' h1 h2
    unfold m_CallReader_one_item
    exact mDef_io (io := true) h1 h2
  rcases hi with ⟨c, hc, rfl, rfl⟩ | ⟨k, c, ⟨k2, k9⟩, hc, rfl, rfl⟩ | ⟨k, t', W', ⟨k2, k9⟩, hR, hne, rfl, rfl⟩
  · have hd' : l.drop a = c :: post := hd
    have hr : digs l a = [] := by
      unfold digs
      rw [hd', List.takeWhile_cons_of_neg (by simp [isL_noD hc])]
    have e2 : b_CallReader_one_item_2 self (oi l a q (.val (.int 1)) .un .un .un) = .nx (oi l a q (.val (.int 1)) .un .un .un) := by
      have := dig_ne hl ho (a := a) (q := q) [] hr (okS_lit (by simp))
      unfold b_CallReader_one_item_2
      exact skip_ok this
    have tl := tail_ok (self := self) (a := a) (q := q) (s2 := .un) (s3 := .un) hl ho (k := 1) (by omega) hc hd'
    refine ⟨[c], fun _ => rfl, by simp, fin (a' := a + 1) (ρ := oi l (a + 1) q (.val (.int 1)) .un .un (.val (T [c]))) ?_ rfl⟩
    unfold b_CallReader_one_item
    rw [seq_nx (one_1 hl ho), seq_nx e2]
    exact tl
  · have hd' : l.drop a = TL.numL k ++ c :: post := by rw [hd]; simp
    have hr : digs l a = TL.numL k := by
      unfold digs
      rw [hd', tw_app (numL_isD k) (isL_noD hc)]
    have hnum : okS (TL.numL k) := okS_lit fun x hx => by
      have := TL.numL_digits k x hx
      omega
    have hnd := dig_ne hl ho (a := a) (q := q) (TL.numL k) hr hnum
    rw [decide_eq_false (TL.numL_ne k)] at hnd
    have hd2 : l.drop (a + (TL.numL k).length) = c :: post := drop_plus hd'
    have tk := takenum_ok (a := a) (q := q) hl k2 k9 hr
    have et : mSet 1 (mMeth "CallReader" "take_number" 0 [0] m_CallReader_take_number (mArg (mC (.int 2)) (mArg (mC (.int 99)) mNil))) (oi l a q (.val (.int 1)) .un .un .un) = .nx (oi l (a + (TL.numL k).length) q (.val (.int k)) .un .un .un) :=
      set_d (meth2 (ρ := oi l a q (.val (.int 1)) .un .un .un) (io := true) (a := .int 2) (b := .int 99) rfl (no_mn (by decide) (by decide) (by decide)) rfl rfl tk) rfl
    have sg := sign_ok (a := a + (TL.numL k).length) (q := q) hl
    rw [hd2] at sg
    have hsg : mTst (mB dEq (mMeth "CallReader" "sign" 0 [0] m_CallReader_sign mNil) (mC (.str "("))) (oi l (a + (TL.numL k).length) q (.val (.int k)) .un .un .un) = .ok false (oi l (a + (TL.numL k).length) q (.val (.int k)) .un .un .un) := by
      have hne : ¬ ([c] : List Nat) = [40] := by
        intro e
        injection e with e1
        unfold isL at hc
        omega
      have hok : okS [c] := okS_lit fun x hx => by
        have e : x = c := (by simpa using hx)
        unfold isL at hc
        omega
      have he := s_eq (a := [c]) (b := [40]) hok (okS_lit (by simp))
      rw [decide_eq_false hne] at he
      refine tst_ok (op2 (meth0 (ρ := oi l (a + (TL.numL k).length) q (.val (.int k)) .un .un .un) (io := true) rfl (no_mn (by decide) (by decide) (by decide)) sg) (y := T [40]) ?_ he)
      rw [lit_open]
      rfl
    have e2 : b_CallReader_one_item_2 self (oi l a q (.val (.int 1)) .un .un .un) = .nx (oi l (a + (TL.numL k).length) q (.val (.int k)) .un .un .un) := by
      unfold b_CallReader_one_item_2
      rw [if_tt hnd, seq_nx et]
      exact skip_ok hsg
    have tl := tail_ok (self := self) (a := a + (TL.numL k).length) (q := q) (s2 := .un) (s3 := .un) hl ho (k := k) (by omega) hc hd2
    have el : a + (TL.numL k ++ [c]).length = a + (TL.numL k).length + 1 := by simp; omega
    rw [el]
    refine ⟨List.replicate k c, fun _ => rfl, by simp; omega, fin (ρ := oi l (a + (TL.numL k).length + 1) q (.val (.int k)) .un .un (.val (T [c]))) ?_ rfl⟩
    unfold b_CallReader_one_item
    rw [seq_nx (one_1 hl ho), seq_nx e2, List.length_replicate]
    exact tl
  · have hd' : l.drop a = TL.numL k ++ 40 :: (t' ++ 41 :: post) := by rw [hd]; simp
    have hr : digs l a = TL.numL k := by
      unfold digs
      rw [hd', tw_app (numL_isD k) (by decide)]
    have hnum : okS (TL.numL k) := okS_lit fun x hx => by
      have := TL.numL_digits k x hx
      omega
    have hnd := dig_ne hl ho (a := a) (q := q) (TL.numL k) hr hnum
    rw [decide_eq_false (TL.numL_ne k)] at hnd
    have hd2 : l.drop (a + (TL.numL k).length) = 40 :: (t' ++ 41 :: post) := drop_plus hd'
    have hd3 : l.drop (a + (TL.numL k).length + 1) = t' ++ 41 :: post := drop_plus (t := [40]) hd2
    obtain ⟨hq, hin⟩ := hN t' W' _ post hR hne hd3
    have tk := takenum_ok (a := a) (q := q) hl k2 k9 hr
    generalize hb : a + (TL.numL k).length = b at *
    have et : mSet 1 (mMeth "CallReader" "take_number" 0 [0] m_CallReader_take_number (mArg (mC (.int 2)) (mArg (mC (.int 99)) mNil))) (oi l a q (.val (.int 1)) .un .un .un) = .nx (oi l b q (.val (.int k)) .un .un .un) :=
      set_d (meth2 (ρ := oi l a q (.val (.int 1)) .un .un .un) (io := true) (a := .int 2) (b := .int 99) rfl (no_mn (by decide) (by decide) (by decide)) rfl rfl tk) rfl
    have sg := sign_ok (a := b) (q := q) hl
    rw [hd2] at sg
    have hsg : mTst (mB dEq (mMeth "CallReader" "sign" 0 [0] m_CallReader_sign mNil) (mC (.str "("))) (oi l b q (.val (.int k)) .un .un .un) = .ok true (oi l b q (.val (.int k)) .un .un .un) := by
      have he := s_eq (a := [40]) (b := [40]) (okS_lit (by simp)) (okS_lit (by simp))
      rw [decide_eq_true rfl] at he
      refine tst_ok (op2 (meth0 (ρ := oi l b q (.val (.int k)) .un .un .un) (io := true) rfl (no_mn (by decide) (by decide) (by decide)) sg) (y := T [40]) ?_ he)
      rw [lit_open]
      rfl
    have ei : mDrop (mMeth "CallReader" "go_in" 0 [0] m_CallReader_go_in mNil) (oi l b q (.val (.int k)) .un .un .un) = .nx (oi l (b + 1) (q + 1) (.val (.int k)) .un .un .un) :=
      drop_ok (meth0 (ρ := oi l b q (.val (.int k)) .un .un .un) (io := true) rfl (no_mn (by decide) (by decide) (by decide)) (goin_ok hq))
    have ea : mAsg (gT [2, 3]) (mMeth "CallReader" "all_items" 0 [0] self (mArg (mC (.str ")")) mNil)) (oi l (b + 1) (q + 1) (.val (.int k)) .un .un .un) = .nx (oi l (b + 1 + t'.length) (q + 1) (.val (.int k)) (.val (.int W'.length)) (.val (T (cap W'))) .un) := by
      have hcl : mC (.str ")") (oi l (b + 1) (q + 1) (.val (.int k)) .un .un .un) = .ok (.d (T [41])) (oi l (b + 1) (q + 1) (.val (.int k)) .un .un .un) := by
        rw [lit_close]
        rfl
      exact asg2 (meth1 (ρ := oi l (b + 1) (q + 1) (.val (.int k)) .un .un .un) (io := true) rfl (no_mn (by decide) (by decide) (by decide)) hcl hin) rfl
    have eo : mDrop (mMeth "CallReader" "go_out" 0 [0] m_CallReader_go_out mNil) (oi l (b + 1 + t'.length) (q + 1) (.val (.int k)) (.val (.int W'.length)) (.val (T (cap W'))) .un) = .nx (oi l (b + 1 + t'.length + 1) q (.val (.int k)) (.val (.int W'.length)) (.val (T (cap W'))) .un) :=
      drop_ok (meth0 (ρ := oi l (b + 1 + t'.length) (q + 1) (.val (.int k)) (.val (.int W'.length)) (.val (T (cap W'))) .un) (io := true) rfl (no_mn (by decide) (by decide) (by decide)) (goout_ok (by omega)))
    have hc4 := cap_le W'
    have er : mRet (mTup (mCons (mB (dOr dMul dMulS) (mVar 1) (mVar 2)) (mCons (mB (dOr dMul dMulS) (mVar 3) (mVar 1)) mNil))) (oi l (b + 1 + t'.length + 1) q (.val (.int k)) (.val (.int W'.length)) (.val (T (cap W'))) .un) = .rt (.v (.tup [.int ((k : Int) * W'.length), T (repN k (cap W'))])) (oi l (b + 1 + t'.length + 1) q (.val (.int k)) (.val (.int W'.length)) (.val (T (cap W'))) .un) :=
      mRet_d (tup2_ok (op2 (var_val (i := 1) rfl) (var_val (i := 2) rfl) (mul_ii (by omega) (by omega))) (op2 (var_val (i := 3) rfl) (var_val (i := 1) rfl) (mul_si (by omega) (by omega))))
    have e2 : b_CallReader_one_item_2 self (oi l a q (.val (.int 1)) .un .un .un) = .rt (.v (.tup [.int ((k : Int) * W'.length), T (repN k (cap W'))])) (oi l (b + 1 + t'.length + 1) q (.val (.int k)) (.val (.int W'.length)) (.val (T (cap W'))) .un) := by
      unfold b_CallReader_one_item_2
      rw [if_tt hnd, seq_nx et, if_tt hsg, seq_nx ei, seq_nx ea, seq_nx eo]
      exact er
    have el : a + (TL.numL k ++ 40 :: (t' ++ [41])).length = b + 1 + t'.length + 1 := by simp; omega
    have en : (((repN k W').length : Nat) : Int) = (k : Int) * W'.length := by rw [repN_len]; exact Int.natCast_mul _ _
    rw [el, en]
    refine ⟨repN k (cap W'), fun hw => ?_, ?_, fin (ρ := oi l (b + 1 + t'.length + 1) q (.val (.int k)) (.val (.int W'.length)) (.val (T (cap W'))) .un) ?_ rfl⟩
    · rw [repN_len] at hw
      have h1 : W'.length ≤ k * W'.length := Nat.le_mul_of_pos_left _ (by omega)
      have : W'.length ≤ 400 := by omega
      unfold cap
      rw [if_pos this]
    · rw [repN_len]
      have : k * (cap W').length ≤ 99 * 400 := Nat.mul_le_mul k9 hc4
      omega
    · unfold b_CallReader_one_item
      rw [seq_nx (one_1 hl ho), seq_rt e2]
end
end K09
set_option Elab.async false
set_option linter.all false
set_option maxRecDepth 100000
set_option maxHeartbeats 4000000
namespace K09
open PySem Mi
/-- how an item begins -/
def Beg (x : Nat) : Prop := (48 ≤ x ∧ x ≤ 57) ∨ (97 ≤ x ∧ x ≤ 122)
theorem numL_beg {k : Nat} (u : List Nat) : ∃ x v, TL.numL k ++ u = x :: v ∧ Beg x := by
  cases h : TL.numL k with
  | nil => exact absurd h (TL.numL_ne k)
  | cons x v => exact ⟨x, v ++ u, rfl, .inl (TL.numL_digits k x (by rw [h]; exact List.mem_cons_self ..))⟩
theorem item_beg {R : List Nat → List Nat → Prop} {t W : List Nat} (h : ItemP R t W) : ∃ x v, t = x :: v ∧ Beg x := by
  rcases h with ⟨c, hc, rfl, rfl⟩ | ⟨k, c, _, hc, rfl, rfl⟩ | ⟨k, t', W', _, _, _, rfl, rfl⟩
  · exact ⟨c, [], rfl, .inr hc⟩
  · exact numL_beg _
  · exact numL_beg _
theorem run_beg {I : List Nat → List Nat → Prop} (hI : ∀ t W, I t W → ∃ x v, t = x :: v ∧ Beg x) {t W : List Nat} (h : RunI I t W) : (t = [] ∧ W = []) ∨ ∃ x v, t = x :: v ∧ Beg x := by
  cases h with
  | nil => exact .inl ⟨rfl, rfl⟩
  | cons h1 h2 =>
    obtain ⟨x, v, rfl, hb⟩ := hI _ _ h1
    exact .inr ⟨x, _, rfl, hb⟩
abbrev ai (l : List Nat) (a q : Nat) (cl : List Nat) (s2 s3 s4 s5 : Sl) : En := [.own true (rd l a q), .val (T cl), s2, s3, s4, s5]
noncomputable def alC : TM := mTst (mC (.bl true))
noncomputable def alB (self : List Sl → DR) : SM := (mSeq (mAsg (gT [4, 5]) (mMeth "CallReader" "one_item" 0 [0] (m_CallReader_one_item self) mNil)) (mSeq (mSet 2 (mB dAdd (mVar 2) (mVar 4))) (mSeq (mSet 3 (mIf (mTst (mB (dOr dLe dLeS) (mVar 2) (mC (.int 400)))) (mB dAdd (mVar 3) (mVar 5)) (mC (.str "")))) (mIfS (mTst (mB dEq (mMeth "CallReader" "sign" 0 [0] m_CallReader_sign mNil) (mVar 1))) (mRet (mTup (mCons (mVar 2) (mCons (mVar 3) mNil)))) mNext))))
theorem cap_add {W0 W1 part : List Nat} (h : W1.length ≤ 400 → part = W1) : (if ((W0.length : Int) + W1.length ≤ 400) then cap W0 ++ part else []) = cap (W0 ++ W1) := by
  unfold cap
  rw [List.length_append]
  by_cases c : W0.length + W1.length ≤ 400
  · rw [if_pos (by omega), if_pos c, if_pos (by omega), h (by omega)]
  · rw [if_neg (by omega), if_neg c]
section
variable {l : List Nat} {q : Nat} {self : List Sl → DR} {cl : List Nat} (hl : l.length ≤ 100000) (ho : okS l) (hcl : cl = [] ∨ cl = [41])
include hl ho hcl
/-- one turn of the loop, up to the sign behind the item -/
theorem turn_ok {R : List Nat → List Nat → Prop} {t1 W1 u W0 : List Nat} {a : Nat} {s4 s5 : Sl} (hi : ItemP R t1 W1) (hd : l.drop a = t1 ++ u) (hN : NestOK R self l q) (h4 : Pl s4) (h5 : Pl s5) :
    ∃ s4' s5', Pl s4' ∧ Pl s5' ∧ alB self (ai l a q cl (.val (.int W0.length)) (.val (T (cap W0))) s4 s5) = if u.take 1 = cl then .rt (.v (.tup [.int (W0 ++ W1).length, T (cap (W0 ++ W1))])) (ai l (a + t1.length) q cl (.val (.int (W0 ++ W1).length)) (.val (T (cap (W0 ++ W1)))) s4' s5') else .nx (ai l (a + t1.length) q cl (.val (.int (W0 ++ W1).length)) (.val (T (cap (W0 ++ W1)))) s4' s5') := by
  obtain ⟨part, hp1, hp2, hone⟩ := item_ok (a := a) (q := q) (self := self) hl ho hi hd hN
  refine ⟨.val (.int W1.length), .val (T part), .inr ⟨_, rfl⟩, .inr ⟨_, rfl⟩, ?_⟩
  have e1 : mAsg (gT [4, 5]) (mMeth "CallReader" "one_item" 0 [0] (m_CallReader_one_item self) mNil) (ai l a q cl (.val (.int W0.length)) (.val (T (cap W0))) s4 s5) = .nx (ai l (a + t1.length) q cl (.val (.int W0.length)) (.val (T (cap W0))) (.val (.int W1.length)) (.val (T part))) := by
    refine asg2 (meth0 (ρ := ai l a q cl (.val (.int W0.length)) (.val (T (cap W0))) s4 s5) (io := true) rfl (no_mn (by decide) (by decide) (by decide)) hone) ?_
    rcases h4 with rfl | ⟨v4, rfl⟩ <;> rcases h5 with rfl | ⟨v5, rfl⟩ <;> rfl
  have e2 : mSet 2 (mB dAdd (mVar 2) (mVar 4)) (ai l (a + t1.length) q cl (.val (.int W0.length)) (.val (T (cap W0))) (.val (.int W1.length)) (.val (T part))) = .nx (ai l (a + t1.length) q cl (.val (.int ((W0.length : Int) + W1.length))) (.val (T (cap W0))) (.val (.int W1.length)) (.val (T part))) :=
    set_d (op2 (g := dAdd) (var_val (i := 2) rfl) (var_val (i := 4) rfl) rfl) rfl
  have hle : mTst (mB (dOr dLe dLeS) (mVar 2) (mC (.int 400))) (ai l (a + t1.length) q cl (.val (.int ((W0.length : Int) + W1.length))) (.val (T (cap W0))) (.val (.int W1.length)) (.val (T part))) = .ok (decide ((W0.length : Int) + W1.length ≤ 400)) (ai l (a + t1.length) q cl (.val (.int ((W0.length : Int) + W1.length))) (.val (T (cap W0))) (.val (.int W1.length)) (.val (T part))) :=
    tst_ok (op2 (g := dOr dLe dLeS) (mb := mC (.int 400)) (y := .int 400) (var_val (i := 2) rfl) rfl rfl)
  have hc0 := cap_le W0
  have e3 : mSet 3 (mIf (mTst (mB (dOr dLe dLeS) (mVar 2) (mC (.int 400)))) (mB dAdd (mVar 3) (mVar 5)) (mC (.str ""))) (ai l (a + t1.length) q cl (.val (.int ((W0.length : Int) + W1.length))) (.val (T (cap W0))) (.val (.int W1.length)) (.val (T part))) = .nx (ai l (a + t1.length) q cl (.val (.int (W0 ++ W1).length)) (.val (T (cap (W0 ++ W1)))) (.val (.int W1.length)) (.val (T part))) := by
    have hcap := cap_add (W0 := W0) hp1
    have hlen : (((W0 ++ W1).length : Nat) : Int) = (W0.length : Int) + W1.length := by rw [List.length_append]; exact Int.natCast_add _ _
    rw [hlen]
    refine set_d (d := T (cap (W0 ++ W1))) (ρ' := ai l (a + t1.length) q cl (.val (.int ((W0.length : Int) + W1.length))) (.val (T (cap W0))) (.val (.int W1.length)) (.val (T part))) ?_ rfl
    rw [if_d hle]
    by_cases c : (W0.length : Int) + W1.length ≤ 400
    · rw [if_pos c] at hcap
      rw [if_pos (decide_eq_true c), ← hcap]
      exact op2 (g := dAdd) (var_val (i := 3) rfl) (var_val (i := 5) rfl) (s_add (by unfold BIG; omega))
    · rw [if_neg c] at hcap
      rw [if_neg (by simpa using c), ← hcap, lit_nil]
      rfl
  have sg := sign_ok (a := a + t1.length) (q := q) hl
  have hdu : l.drop (a + t1.length) = u := drop_plus hd
  have hou : okS (u.take 1) := by
    have := okS_drop ho (a + t1.length) 1
    rw [hdu] at this
    exact this
  have hocl : okS cl := by
    rcases hcl with rfl | rfl
    · exact okS_lit (by simp)
    · exact okS_lit (by simp)
  rw [hdu] at sg
  have hs : mTst (mB dEq (mMeth "CallReader" "sign" 0 [0] m_CallReader_sign mNil) (mVar 1)) (ai l (a + t1.length) q cl (.val (.int (W0 ++ W1).length)) (.val (T (cap (W0 ++ W1)))) (.val (.int W1.length)) (.val (T part))) = .ok (decide (u.take 1 = cl)) (ai l (a + t1.length) q cl (.val (.int (W0 ++ W1).length)) (.val (T (cap (W0 ++ W1)))) (.val (.int W1.length)) (.val (T part))) :=
    tst_ok (op2 (g := dEq) (meth0 (ρ := ai l (a + t1.length) q cl (.val (.int (W0 ++ W1).length)) (.val (T (cap (W0 ++ W1)))) (.val (.int W1.length)) (.val (T part))) (io := true) rfl (no_mn (by decide) (by decide) (by decide)) sg) (var_val (i := 1) rfl) (s_eq hou hocl))
  unfold alB
  rw [seq_nx e1, seq_nx e2, seq_nx e3]
  by_cases c : u.take 1 = cl
  · rw [decide_eq_true c] at hs
    rw [if_pos c, if_tt hs]
    exact mRet_d (tup2_ok (var_val (i := 2) rfl) (var_val (i := 3) rfl))
  · rw [decide_eq_false c] at hs
    rw [if_neg c]
    exact skip_ok hs
theorem loop_ok {R : List Nat → List Nat → Prop} (hN : NestOK R self l q) {t W : List Nat} (h : RunI (ItemP R) t W) : ∀ {a : Nat} {post W0 : List Nat} {s4 s5 : Sl}, t ≠ [] → l.drop a = t ++ post → post.take 1 = cl → Pl s4 → Pl s5 →
    ∃ m s4' s5', mWhN alC (alB self) m (ai l a q cl (.val (.int W0.length)) (.val (T (cap W0))) s4 s5) = .rt (.v (.tup [.int (W0 ++ W).length, T (cap (W0 ++ W))])) (ai l (a + t.length) q cl (.val (.int (W0 ++ W).length)) (.val (T (cap (W0 ++ W)))) s4' s5') := by
  induction h with
  | nil => intro a post W0 s4 s5 h0; exact absurd rfl h0
  | cons hi hr ih =>
    rename_i t1 W1 t2 W2
    intro a post W0 s4 s5 h0 hd hp h4 h5
    have hd' : l.drop a = t1 ++ (t2 ++ post) := by rw [hd, List.append_assoc]
    obtain ⟨u4, u5, g4, g5, e⟩ := turn_ok (self := self) (q := q) (W0 := W0) hl ho hcl hi hd' hN h4 h5
    rcases run_beg (fun _ _ => item_beg) hr with ⟨rfl, rfl⟩ | ⟨x, v, hx, hb⟩
    · rw [List.nil_append] at e
      rw [if_pos hp] at e
      refine ⟨1, u4, u5, ?_⟩
      rw [mWhN]
      show (match alB self _ with | .nx ρ => mWhN alC (alB self) 0 ρ | .ct ρ => mWhN alC (alB self) 0 ρ | .bk ρ => .nx ρ | r => r) = _
      rw [e, List.append_nil, List.append_nil]
    · have hne : ¬ (t2 ++ post).take 1 = cl := by
        rw [hx]
        intro z
        have z' : [x] = cl := z
        rcases hcl with rfl | rfl
        · cases z'
        · injection z' with z1
          unfold Beg at hb
          omega
      rw [if_neg hne] at e
      have hd2 : l.drop (a + t1.length) = t2 ++ post := drop_plus hd'
      obtain ⟨m, w4, w5, e2⟩ := ih (W0 := W0 ++ W1) (by rw [hx]; simp) hd2 hp g4 g5
      refine ⟨m + 1, w4, w5, ?_⟩
      rw [mWhN]
      show (match alB self _ with | .nx ρ => mWhN alC (alB self) m ρ | .ct ρ => mWhN alC (alB self) m ρ | .bk ρ => .nx ρ | r => r) = _
      rw [e]
      simp only
      rw [e2]
      have el : a + (t1 ++ t2).length = a + t1.length + t2.length := by simp; omega
      rw [el, List.append_assoc]
theorem all_in {R : List Nat → List Nat → Prop} (hN : NestOK R self l q) {t W : List Nat} (h : RunI (ItemP R) t W) {a : Nat} {post : List Nat} (h0 : t ≠ []) (hd : l.drop a = t ++ post) (hp : post.take 1 = cl) : mDef 6 [0] (b_CallReader_all_items self) [.own true (rd l a q), .val (T cl)] = .ok (.v (.tup [.int W.length, T (cap W)])) [rd l (a + t.length) q] := by
  obtain ⟨m, s4, s5, e⟩ := loop_ok (self := self) hl ho hcl hN h (W0 := []) (s4 := .un) (s5 := .un) h0 hd hp (.inl rfl) (.inl rfl)
  rw [List.nil_append] at e
  have hne : mWhN alC (alB self) m (ai l a q cl (.val (.int (([] : List Nat).length : Nat))) (.val (T (cap []))) .un .un) ≠ .bad := by
    rw [e]
    intro z
    cases z
  have ew := mWhile_eq hne
  rw [e] at ew
  refine mDef_io (ρ := ai l (a + t.length) q cl (.val (.int W.length)) (.val (T (cap W))) s4 s5) (io := true) ?_ rfl
  show b_CallReader_all_items self (ai l a q cl .un .un .un .un) = _
  have e1 : b_CallReader_all_items_1 self (ai l a q cl .un .un .un .un) = .nx (ai l a q cl (.val (.int 0)) .un .un .un) := by
    unfold b_CallReader_all_items_1
    exact set_d (ρ' := ai l a q cl .un .un .un .un) rfl rfl
  have e2 : b_CallReader_all_items_2 self (ai l a q cl (.val (.int 0)) .un .un .un) = .nx (ai l a q cl (.val (.int 0)) (.val (T (cap []))) .un .un) := by
    unfold b_CallReader_all_items_2
    rw [lit_nil]
    exact set_d (ρ' := ai l a q cl (.val (.int 0)) .un .un .un) rfl rfl
  unfold b_CallReader_all_items
  rw [seq_nx e1, seq_nx e2]
  exact ew
end
/-- the reader reads what stands for letters -/
theorem all_ok : ∀ (d f : Nat), d + 1 ≤ f → ∀ (l : List Nat) (q a : Nat) (cl t W post : List Nat), l.length ≤ 100000 → okS l → (cl = [] ∨ cl = [41]) → q + d ≤ 6 → Row d t W → t ≠ [] → l.drop a = t ++ post → post.take 1 = cl →
    m_CallReader_all_items f [.own true (rd l a q), .val (T cl)] = .ok (.v (.tup [.int W.length, T (cap W)])) [rd l (a + t.length) q]
  | d, 0, h => by omega
  | 0, f + 1, _ => by
    intro l q a cl t W post hl ho hcl hq h h0 hd hp
    exact all_in (R := fun _ _ => False) (self := m_CallReader_all_items f) hl ho hcl (fun _ _ _ _ hR => hR.elim) h h0 hd hp
  | d + 1, f + 1, hf => by
    intro l q a cl t W post hl ho hcl hq h h0 hd hp
    exact all_in (R := Row d) (self := m_CallReader_all_items f) hl ho hcl (fun t' W' a' rest hR hne hd' => ⟨by omega, all_ok d f (by omega) l (q + 1) a' [41] t' W' (41 :: rest) hl ho (.inr rfl) (by omega) hR hne hd' rfl⟩) h h0 hd hp
end K09
set_option Elab.async false
set_option linter.all false
set_option maxRecDepth 100000
set_option maxHeartbeats 4000000
namespace K09
open PySem Mi
theorem init_ok (t : List Nat) : m_CallReader___init__ [.own true (.ins "CallReader" []), .val (T t)] = .ok (.v .non) [rd t 0 0] := by
  have e1 : b_CallReader___init___1 [.own true (.ins "CallReader" []), .val (T t)] = .nx [.own true (.ins "CallReader" []), .val (T t)] := by
    unfold b_CallReader___init___1
    exact skip_ok (not_ok (tst_ok (isi_ok (x := T t) (b := true) (var_val (i := 1) rfl) rfl)))
  have e2 : b_CallReader___init___2 [.own true (.ins "CallReader" []), .val (T t)] = .nx [.own true (.ins "CallReader" [("text", T t)]), .val (T t)] := by
    unfold b_CallReader___init___2
    exact putF_ok (i := 0) (ρ := [.own true (.ins "CallReader" []), .val (T t)]) rfl (var_val (i := 1) rfl) (by decide) (by simp)
  have e3 : b_CallReader___init___3 [.own true (.ins "CallReader" [("text", T t)]), .val (T t)] = .nx [.own true (.ins "CallReader" [("text", T t), ("at", .int 0)]), .val (T t)] := by
    unfold b_CallReader___init___3
    refine (putF_ok (i := 0) (ρ := [.own true (.ins "CallReader" [("text", T t)]), .val (T t)]) (d := .int 0) rfl rfl (by decide) (by simp)).trans ?_
    simp [putFD, n_text_at]
  have e4 : b_CallReader___init___4 [.own true (.ins "CallReader" [("text", T t), ("at", .int 0)]), .val (T t)] = .nx [.own true (rd t 0 0), .val (T t)] := by
    unfold b_CallReader___init___4
    refine (putF_ok (i := 0) (ρ := [.own true (.ins "CallReader" [("text", T t), ("at", .int 0)]), .val (T t)]) (d := .int 0) rfl rfl (by decide) (by simp)).trans ?_
    simp [putFD, n_text_de, n_at_de]
  have e0 : b_CallReader___init__ [.own true (.ins "CallReader" []), .val (T t)] = .nx [.own true (rd t 0 0), .val (T t)] := by
    unfold b_CallReader___init__
    rw [seq_nx e1, seq_nx e2, seq_nx e3, e4]
  unfold m_CallReader___init__ mDef
  show (match b_CallReader___init__ [.own true (.ins "CallReader" []), .val (T t)] with | .rt r ρ => okD [0] r ρ | .nx ρ => okD [0] (.v .non) ρ | .ex x ρ => (match ioOf [0] ρ with | some os => .ex x os | none => .bad) | _ => .bad) = _
  rw [e0]
  rfl
/-- a text that stands for letters -/
structure Rdb (t W : List Nat) : Prop where
  row : ∃ d, d ≤ 6 ∧ Row d t W
  len : t.length ≤ 100000
  ok : okS t
  let_ : ∀ c ∈ W, isL c
section
variable {t W : List Nat}
theorem rc_2 (h : Rdb t W) : ∃ o, b_read_calling_2 [.val (T t), .own false (rd t 0 0), .un, .un] = .nx [.val (T t), .own false o, .val (.int W.length), .val (T (cap W))] := by
  obtain ⟨d, hd6, hrow⟩ := h.row
  have sg := sign_ok (a := 0) (q := 0) h.len
  have hou : okS ((t.drop 0).take 1) := okS_drop h.ok 0 1
  have hs : mTst (mB dEq (mMeth "CallReader" "sign" 1 [0] m_CallReader_sign mNil) (mC (.str ""))) [.val (T t), .own false (rd t 0 0), .un, .un] = .ok (decide ((t.drop 0).take 1 = [])) [.val (T t), .own false (rd t 0 0), .un, .un] := by
    refine tst_ok (op2 (g := dEq) (meth0 (ρ := [.val (T t), .own false (rd t 0 0), .un, .un]) (i := 1) (io := false) rfl (no_mn (by decide) (by decide) (by decide)) sg) (y := T []) ?_ (s_eq hou (okS_lit (by simp))))
    rw [lit_nil]
    rfl
  have hn : ∀ ρ : En, mC (.str "") ρ = .ok (.d (T [])) ρ := fun ρ => by rw [lit_nil]; rfl
  unfold b_read_calling_2
  by_cases c : t = []
  · subst c
    have hW : W = [] := by
      cases d with
      | zero =>
        rcases run_beg (fun _ _ => item_beg) hrow with ⟨_, e⟩ | ⟨x, v, e, _⟩
        · exact e
        · cases e
      | succ d =>
        rcases run_beg (fun _ _ => item_beg) hrow with ⟨_, e⟩ | ⟨x, v, e, _⟩
        · exact e
        · cases e
    subst hW
    rw [decide_eq_true (by simp)] at hs
    refine ⟨rd [] 0 0, asg2 (x := .int 0) (y := T []) (ρ1 := [.val (T []), .own false (rd [] 0 0), .un, .un]) ?_ rfl⟩
    rw [if_d hs, if_pos rfl]
    exact tup2_ok rfl (hn _)
  · have hne : ¬ (t.drop 0).take 1 = [] := by
      cases t with
      | nil => exact absurd rfl c
      | cons x v => simp
    rw [decide_eq_false hne] at hs
    have ha := all_ok d 8 (by omega) t 0 0 [] t W [] h.len h.ok (.inl rfl) (by omega) hrow c (by simp) rfl
    refine ⟨rd t (0 + t.length) 0, asg2 (x := .int W.length) (y := T (cap W)) (ρ1 := [.val (T t), .own false (rd t (0 + t.length) 0), .un, .un]) ?_ rfl⟩
    rw [if_d hs, if_neg (by simp)]
    exact meth1 (ρ := [.val (T t), .own false (rd t 0 0), .un, .un]) (i := 1) (io := false) rfl (no_mn (by decide) (by decide) (by decide)) (hn _) ha
theorem rc_1 : b_read_calling_1 [.val (T t), .un, .un, .un] = .nx [.val (T t), .own false (rd t 0 0), .un, .un] := by
  unfold b_read_calling_1
  exact set_n (make1 (ρ := [.val (T t), .un, .un, .un]) (var_val (i := 0) rfl) (init_ok t)) rfl
theorem gt_i {ma mb : EM} {ρ : En} {a b : Int} (h1 : ma ρ = .ok (.d (.int a)) ρ) (h2 : mb ρ = .ok (.d (.int b)) ρ) : mTst (mB dGt ma mb) ρ = .ok (decide (b < a)) ρ := tst_ok (op2 (g := dGt) h1 h2 rfl)
theorem read_ok (h : Rdb t W) (hw : W.length ≤ 400) : m_read_calling [.val (T t)] = .ok (.v (T W)) [] := by
  obtain ⟨o, e2⟩ := rc_2 h
  have hc : cap W = W := if_pos hw
  rw [hc] at e2
  have e3 : b_read_calling_3 [.val (T t), .own false o, .val (.int W.length), .val (T W)] = .nx [.val (T t), .own false o, .val (.int W.length), .val (T W)] := by
    have hg := gt_i (ρ := [.val (T t), .own false o, .val (.int W.length), .val (T W)]) (mb := mC (.int 400)) (b := 400) (var_val (i := 2) rfl) rfl
    rw [decide_eq_false (by omega)] at hg
    unfold b_read_calling_3
    exact skip_ok hg
  unfold m_read_calling
  refine mDef_rt (ρ := [.val (T t), .own false o, .val (.int W.length), .val (T W)]) ?_
  show b_read_calling [.val (T t), .un, .un, .un] = _
  unfold b_read_calling
  rw [seq_nx rc_1, seq_nx e2, seq_nx e3]
  unfold b_read_calling_4
  exact mRet_d (var_val rfl)
end
end K09
set_option Elab.async false
set_option linter.all false
set_option maxRecDepth 100000
set_option maxHeartbeats 4000000
namespace K09
open PySem Mi
/-! ### rows -/
theorem run_app {I : List Nat → List Nat → Prop} {t1 W1 t2 W2 : List Nat} (h1 : RunI I t1 W1) (h2 : RunI I t2 W2) : RunI I (t1 ++ t2) (W1 ++ W2) := by
  induction h1 with
  | nil => exact h2
  | cons hi _ ih =>
    rw [List.append_assoc, List.append_assoc]
    exact .cons hi ih
theorem run_mono {I J : List Nat → List Nat → Prop} (h : ∀ t W, I t W → J t W) {t W : List Nat} (r : RunI I t W) : RunI J t W := by
  induction r with
  | nil => exact .nil
  | cons hi _ ih => exact .cons (h _ _ hi) ih
theorem item_mono {R R' : List Nat → List Nat → Prop} (h : ∀ t W, R t W → R' t W) (t W : List Nat) (i : ItemP R t W) : ItemP R' t W := by
  rcases i with i | i | ⟨k, t', W', hk, hr, hn, e1, e2⟩
  · exact .inl i
  · exact .inr (.inl i)
  · exact .inr (.inr ⟨k, t', W', hk, h _ _ hr, hn, e1, e2⟩)
theorem row_up : ∀ (d : Nat) (t W : List Nat), Row d t W → Row (d + 1) t W
  | 0, _, _, h => run_mono (item_mono fun _ _ f => f.elim) h
  | d + 1, _, _, h => run_mono (item_mono (row_up d)) h
theorem row_le {d e : Nat} (h : d ≤ e) {t W : List Nat} (r : Row d t W) : Row e t W := by
  induction h with
  | refl => exact r
  | step _ ih => exact row_up _ _ _ ih
theorem row_app : ∀ {d : Nat} {t1 W1 t2 W2 : List Nat}, Row d t1 W1 → Row d t2 W2 → Row d (t1 ++ t2) (W1 ++ W2)
  | 0, _, _, _, _, h1, h2 => run_app h1 h2
  | _ + 1, _, _, _, _, h1, h2 => run_app h1 h2
theorem run_one {I : List Nat → List Nat → Prop} {t W : List Nat} (h : I t W) : RunI I t W := by
  have := RunI.cons h .nil
  simpa using this
theorem row_letters : ∀ {W : List Nat}, (∀ c ∈ W, isL c) → Row 0 W W
  | [], _ => .nil
  | c :: W, h => RunI.cons (t1 := [c]) (W1 := [c]) (.inl ⟨c, h c (List.mem_cons_self ..), rfl, rfl⟩) (row_letters fun e he => h e (List.mem_cons_of_mem _ he))
/-- a text of at most L signs, its letters, its depth -/
structure Bt (L : Nat) (t W : List Nat) (d : Nat) : Prop where
  row : Row d t W
  let_ : ∀ c ∈ W, isL c
  sgn : ∀ c ∈ t, c < 1000
  len : t.length ≤ L
theorem Bt.mono {L M d : Nat} {t W : List Nat} (h : Bt L t W d) (hl : L ≤ M) : Bt M t W d := ⟨h.row, h.let_, h.sgn, Nat.le_trans h.len hl⟩
theorem Bt.join {L M d1 d2 : Nat} {t1 W1 t2 W2 : List Nat} (h1 : Bt L t1 W1 d1) (h2 : Bt M t2 W2 d2) : Bt (L + M) (t1 ++ t2) (W1 ++ W2) (max d1 d2) where
  row := row_app (row_le (Nat.le_max_left ..) h1.row) (row_le (Nat.le_max_right ..) h2.row)
  let_ c hc := (List.mem_append.mp hc).elim (h1.let_ c) (h2.let_ c)
  sgn c hc := (List.mem_append.mp hc).elim (h1.sgn c) (h2.sgn c)
  len := by
    have := h1.len
    have := h2.len
    rw [List.length_append]
    omega
theorem numL_sgn {k : Nat} : ∀ c ∈ TL.numL k, c < 1000 := fun c hc => by
  have := TL.numL_digits k c hc
  omega
theorem rep_mem {k : Nat} {W : List Nat} {c : Nat} (h : c ∈ repN k W) : c ∈ W := by
  unfold repN at h
  obtain ⟨l, hl, hc⟩ := List.mem_flatten.mp h
  rw [(List.mem_replicate.mp hl).2] at hc
  exact hc
theorem Bt.rep {L d k : Nat} {t W : List Nat} (h : Bt L t W d) (ht : t ≠ []) (hk : 2 ≤ k ∧ k ≤ 99) : Bt (L + 4) (TL.numL k ++ 40 :: (t ++ [41])) (repN k W) (d + 1) where
  row := run_one (.inr (.inr ⟨k, t, W, hk, h.row, ht, rfl, rfl⟩))
  let_ c hc := h.let_ c (rep_mem hc)
  sgn c hc := by
    rcases List.mem_append.mp hc with h1 | h1
    · exact numL_sgn c h1
    · rcases List.mem_cons.mp h1 with rfl | h2
      · decide
      · rcases List.mem_append.mp h2 with h3 | h3
        · exact h.sgn c h3
        · rw [List.mem_singleton.mp h3]
          decide
  len := by
    have := h.len
    have := numL_two hk.2
    simp only [List.length_append, List.length_cons, List.length_nil]
    omega
theorem isL_sgn {c : Nat} (h : isL c) : c < 1000 := by
  unfold isL at h
  omega
theorem Bt.letter {c : Nat} (h : isL c) : Bt 1 [c] [c] 0 where
  row := run_one (.inl ⟨c, h, rfl, rfl⟩)
  let_ e he := by rw [List.mem_singleton.mp he]; exact h
  sgn e he := by rw [List.mem_singleton.mp he]; exact isL_sgn h
  len := Nat.le_refl 1
theorem Bt.num {c k : Nat} (h : isL c) (hk : 2 ≤ k ∧ k ≤ 99) : Bt 3 (TL.numL k ++ [c]) (List.replicate k c) 0 where
  row := run_one (.inr (.inl ⟨k, c, hk, h, rfl, rfl⟩))
  let_ e he := by rw [(List.mem_replicate.mp he).2]; exact h
  sgn e he := by
    rcases List.mem_append.mp he with h1 | h1
    · exact numL_sgn e h1
    · rw [List.mem_singleton.mp h1]; exact isL_sgn h
  len := by
    have := numL_two hk.2
    rw [List.length_append, List.length_singleton]
    omega
theorem Bt.many {c : Nat} (h : isL c) (n : Nat) : Bt n (List.replicate n c) (List.replicate n c) 0 where
  row := row_letters fun e he => by rw [(List.mem_replicate.mp he).2]; exact h
  let_ e he := by rw [(List.mem_replicate.mp he).2]; exact h
  sgn e he := by rw [(List.mem_replicate.mp he).2]; exact isL_sgn h
  len := by simp
theorem Bt.nil : Bt 0 [] [] 0 := ⟨.nil, (fun _ h => nomatch h), (fun _ h => nomatch h), Nat.le_refl 0⟩
end K09
set_option Elab.async false
set_option linter.all false
set_option maxRecDepth 100000
set_option maxHeartbeats 4000000
namespace K09
open PySem Mi
/-! ## the order of texts: shorter ones ahead, those of one length as strings -/
def slt (x y : List Nat) : Prop := x.length < y.length ∨ (x.length = y.length ∧ x < y)
instance (x y : List Nat) : Decidable (slt x y) := by unfold slt; infer_instance
def sle (x y : List Nat) : Prop := ¬ slt y x
theorem lt_app_left (z : List Nat) {x y : List Nat} : z ++ x < z ++ y ↔ x < y := by
  induction z with
  | nil => exact Iff.rfl
  | cons c z ih =>
    rw [List.cons_append, List.cons_append, List.cons_lt_cons_iff, ih]
    constructor
    · rintro (h | ⟨_, h⟩)
      · exact absurd h (Nat.lt_irrefl _)
      · exact h
    · exact fun h => .inr ⟨rfl, h⟩
theorem lt_app_right (z : List Nat) : ∀ {x y : List Nat}, x.length = y.length → (x ++ z < y ++ z ↔ x < y)
  | [], [], _ => by
    rw [List.nil_append]
    exact ⟨fun h => absurd h (List.lt_irrefl _), fun h => absurd h (List.lt_irrefl _)⟩
  | [], _ :: _, h => by simp at h
  | _ :: _, [], h => by simp at h
  | a :: x, b :: y, h => by
    rw [List.cons_append, List.cons_append, List.cons_lt_cons_iff, List.cons_lt_cons_iff, lt_app_right z (by simpa using h)]
theorem slt_left (z : List Nat) {x y : List Nat} : slt (z ++ x) (z ++ y) ↔ slt x y := by
  unfold slt
  rw [lt_app_left, List.length_append, List.length_append]
  constructor
  · rintro (h | ⟨h, k⟩)
    · exact .inl (by omega)
    · exact .inr ⟨by omega, k⟩
  · rintro (h | ⟨h, k⟩)
    · exact .inl (by omega)
    · exact .inr ⟨by omega, k⟩
theorem slt_right (z : List Nat) {x y : List Nat} : slt (x ++ z) (y ++ z) ↔ slt x y := by
  unfold slt
  rw [List.length_append, List.length_append]
  constructor
  · rintro (h | ⟨h, k⟩)
    · exact .inl (by omega)
    · have e : x.length = y.length := by omega
      exact .inr ⟨e, (lt_app_right z e).mp k⟩
  · rintro (h | ⟨h, k⟩)
    · exact .inl (by omega)
    · exact .inr ⟨by omega, (lt_app_right z h).mpr k⟩
theorem slt_irr (x : List Nat) : ¬ slt x x := by
  rintro (h | ⟨_, h⟩)
  · omega
  · exact List.lt_irrefl _ h
theorem slt_trans {x y z : List Nat} (h1 : slt x y) (h2 : slt y z) : slt x z := by
  rcases h1 with h1 | ⟨h1, k1⟩ <;> rcases h2 with h2 | ⟨h2, k2⟩
  · exact .inl (by omega)
  · exact .inl (by omega)
  · exact .inl (by omega)
  · exact .inr ⟨by omega, List.lt_trans k1 k2⟩
theorem slt_tri (x y : List Nat) : slt x y ∨ x = y ∨ slt y x := by
  rcases Nat.lt_trichotomy x.length y.length with h | h | h
  · exact .inl (.inl h)
  · by_cases k : x < y
    · exact .inl (.inr ⟨h, k⟩)
    · by_cases k2 : y < x
      · exact .inr (.inr (.inr ⟨h.symm, k2⟩))
      · exact .inr (.inl (List.le_antisymm (List.not_lt.mp k2) (List.not_lt.mp k)))
  · exact .inr (.inr (.inl h))
theorem sle_refl (x : List Nat) : sle x x := slt_irr x
theorem sle_trans {x y z : List Nat} (h1 : sle x y) (h2 : sle y z) : sle x z := fun h => by
  rcases slt_tri x y with k | k | k
  · exact h2 (slt_trans h k)
  · subst k
    exact h2 h
  · exact h1 k
theorem sle_anti {x y : List Nat} (h1 : sle x y) (h2 : sle y x) : x = y := by
  rcases slt_tri x y with k | k | k
  · exact absurd k h2
  · exact k
  · exact absurd k h1
theorem sle_of {x y : List Nat} (h : slt x y) : sle x y := fun k => slt_irr _ (slt_trans h k)
theorem sle_left (z : List Nat) {x y : List Nat} (h : sle x y) : sle (z ++ x) (z ++ y) := fun k => h ((slt_left z).mp k)
theorem sle_right (z : List Nat) {x y : List Nat} (h : sle x y) : sle (x ++ z) (y ++ z) := fun k => h ((slt_right z).mp k)
/-- the first of the least -/
def pickL (b y : List Nat) : List Nat := if slt y b then y else b
def mnL : List (List Nat) → List Nat
  | [] => []
  | x :: r => r.foldl pickL x
theorem fold_min : ∀ (r : List (List Nat)) (x : List Nat), (r.foldl pickL x = x ∨ r.foldl pickL x ∈ r) ∧ sle (r.foldl pickL x) x ∧ ∀ y ∈ r, sle (r.foldl pickL x) y
  | [], x => ⟨.inl rfl, sle_refl x, fun _ h => nomatch h⟩
  | z :: r, x => by
    obtain ⟨h1, h2, h3⟩ := fold_min r (pickL x z)
    have hp : sle (pickL x z) x ∧ sle (pickL x z) z ∧ (pickL x z = x ∨ pickL x z = z) := by
      unfold pickL
      by_cases c : slt z x
      · rw [if_pos c]
        exact ⟨sle_of c, sle_refl z, .inr rfl⟩
      · rw [if_neg c]
        exact ⟨sle_refl x, c, .inl rfl⟩
    refine ⟨?_, sle_trans h2 hp.1, fun y hy => ?_⟩
    · rw [List.foldl_cons]
      rcases h1 with h1 | h1
      · rw [h1]
        rcases hp.2.2 with e | e
        · exact .inl e
        · exact .inr (by rw [e]; exact List.mem_cons_self ..)
      · exact .inr (List.mem_cons_of_mem _ h1)
    · rw [List.foldl_cons]
      rcases List.mem_cons.mp hy with rfl | hy
      · exact sle_trans h2 hp.2.1
      · exact h3 y hy
theorem mnL_mem : ∀ {A : List (List Nat)}, A ≠ [] → mnL A ∈ A
  | [], h => absurd rfl h
  | x :: r, _ => by
    rcases (fold_min r x).1 with h | h
    · exact List.mem_cons.mpr (.inl h)
    · exact List.mem_cons_of_mem _ h
theorem mnL_le : ∀ {A : List (List Nat)} {y : List Nat}, y ∈ A → sle (mnL A) y
  | x :: r, y, h => by
    rcases List.mem_cons.mp h with rfl | h
    · exact (fold_min r y).2.1
    · exact (fold_min r x).2.2 y h
theorem mnL_eq {A B : List (List Nat)} (hA : A ≠ []) (hB : B ≠ []) (h1 : ∀ x ∈ A, ∃ y ∈ B, sle y x) (h2 : ∀ y ∈ B, ∃ x ∈ A, sle x y) : mnL A = mnL B := by
  obtain ⟨y, hy, e1⟩ := h1 _ (mnL_mem hA)
  obtain ⟨x, hx, e2⟩ := h2 _ (mnL_mem hB)
  exact sle_anti (sle_trans (mnL_le hx) e2) (sle_trans (mnL_le hy) e1)

/-! ## stretches -/
/-- n letters from a on -/
def sl (w : List Nat) (a n : Nat) : List Nat := (w.drop a).take n
theorem sl_len {w : List Nat} {a n : Nat} (h : a + n ≤ w.length) : (sl w a n).length = n := by
  unfold sl
  rw [List.length_take, List.length_drop]
  omega
theorem sl_take {w : List Nat} {a n m : Nat} (h : m ≤ n) : (sl w a n).take m = sl w a m := by
  unfold sl
  rw [List.take_take, Nat.min_eq_left h]
theorem sl_drop {w : List Nat} {a n m : Nat} : (sl w a n).drop m = sl w (a + m) (n - m) := by
  unfold sl
  rw [List.drop_take, List.drop_drop]
theorem sl_app {w : List Nat} {a n m : Nat} (h : m ≤ n) : sl w a n = sl w a m ++ sl w (a + m) (n - m) := by
  have := List.take_append_drop m (sl w a n)
  rw [sl_take h, sl_drop] at this
  exact this.symm
def at_ (w : List Nat) (a : Nat) : Nat := w.getD a 0
theorem sl_one {w : List Nat} {a : Nat} (h : a < w.length) : sl w a 1 = [at_ w a] := by
  unfold sl at_
  rw [List.drop_eq_getElem_cons h, List.take_succ_cons, List.take_zero, List.getD_eq_getElem?_getD, List.getElem?_eq_getElem h]
  rfl
theorem rep_succ (k : Nat) (v : List Nat) : repN (k + 1) v = v ++ repN k v := by
  unfold repN
  rw [List.replicate_succ, List.flatten_cons]
theorem rep_len (k : Nat) (v : List Nat) : (repN k v).length = k * v.length := by
  induction k with
  | zero => simp [repN]
  | succ k ih =>
    rw [rep_succ, List.length_append, ih, Nat.succ_mul]
    omega
theorem rep_comm (k : Nat) (v : List Nat) : v ++ repN k v = repN k v ++ v := by
  induction k with
  | zero => simp [repN]
  | succ k ih =>
    rw [rep_succ, List.append_assoc, ← ih]
/-- a text is so many times its beginning when it is alike to itself, moved -/
theorem per_iff (p : Nat) : ∀ (k : Nat) (u : List Nat), u.length = (k + 1) * p → (u.drop p = u.take (k * p) ↔ u = repN (k + 1) (u.take p))
  | 0, u, h => by
    have e : u.length = p := by omega
    rw [Nat.zero_mul, List.take_zero, rep_succ]
    have h0 : repN 0 (u.take p) = [] := rfl
    rw [h0, List.append_nil, List.take_of_length_le (by omega), List.drop_eq_nil_of_le (by omega)]
    exact ⟨fun _ => rfl, fun _ => rfl⟩
  | k + 1, u, h => by
    have hp : u.length = p + (k + 1) * p := by rw [h, Nat.succ_mul (k + 1) p]; omega
    have hsp := List.take_append_drop p u
    have hl : (u.take p).length = p := by rw [List.length_take]; omega
    constructor
    · intro e
      have hle : p ≤ (k + 1) * p := by rw [Nat.succ_mul]; omega
      -- what is left behind the first
      have h2 : (u.drop p).length = (k + 1) * p := by rw [List.length_drop]; omega
      have e3 : (k + 1) * p - p = k * p := by rw [Nat.succ_mul]; omega
      have e5 : k * p ≤ (k + 1) * p := by rw [Nat.succ_mul]; omega
      have a1 : (u.drop p).drop p = u.take (k * p) := by
        conv => lhs; rw [e]
        rw [List.drop_take, e3, e, List.take_take, Nat.min_eq_left e5]
      have a2 : (u.drop p).take (k * p) = u.take (k * p) := by rw [e, List.take_take, Nat.min_eq_left e5]
      have e2 : (u.drop p).drop p = (u.drop p).take (k * p) := a1.trans a2.symm
      have ih := (per_iff p k (u.drop p) h2).mp e2
      have e4 : (u.drop p).take p = u.take p := by
        rw [e, List.take_take, Nat.min_eq_left hle]
      rw [e4] at ih
      rw [rep_succ (k + 1), ← ih, hsp]
    · intro e
      have e1 : u.drop p = repN (k + 1) (u.take p) := by
        conv => lhs; rw [e]
        rw [rep_succ (k + 1), List.drop_append_of_le_length (by omega), List.drop_eq_nil_of_le (by omega), List.nil_append]
      have e2 : u.take ((k + 1) * p) = repN (k + 1) (u.take p) := by
        conv => lhs; rw [e]
        rw [rep_succ (k + 1), rep_comm, List.take_append_of_le_length (by rw [rep_len, hl]; omega), List.take_of_length_le (by rw [rep_len, hl]; omega)]
      rw [e1, e2]
theorem rep1 (k c : Nat) : repN k [c] = List.replicate k c := by
  induction k with
  | zero => rfl
  | succ k ih =>
    rw [rep_succ, ih]
    rfl
/-- the stretch is so many times its first p letters -/
def Per (w : List Nat) (a n p : Nat) : Prop := n % p = 0 ∧ sl w a n = repN (n / p) (sl w a p)
instance (w : List Nat) (a n p : Nat) : Decidable (Per w a n p) := by unfold Per; infer_instance
theorem per_eq {w : List Nat} {a n p : Nat} (h : a + n ≤ w.length) (hp : 1 ≤ p) (hn : p ≤ n) (hm : n % p = 0) : (sl w (a + p) (n - p) = sl w a (n - p)) ↔ sl w a n = repN (n / p) (sl w a p) := by
  have hk : n / p ≠ 0 := by
    have := Nat.div_pos hn hp
    omega
  obtain ⟨k, hk⟩ := Nat.exists_eq_succ_of_ne_zero hk
  have hnp : n = (k + 1) * p := by
    have := Nat.div_add_mod n p
    rw [hm, hk, Nat.add_zero, Nat.mul_comm] at this
    exact this.symm
  have := per_iff p k (sl w a n) (by rw [sl_len h]; exact hnp)
  rw [sl_drop, sl_take hn, sl_take (by rw [hnp, Nat.succ_mul]; omega)] at this
  have e : n - p = k * p := by rw [hnp, Nat.succ_mul]; omega
  rw [e] at this
  rw [hk, e]
  exact this
end K09
set_option Elab.async false
set_option linter.all false
set_option maxRecDepth 100000
set_option maxHeartbeats 4000000
namespace K09
open PySem Mi
def brk (k : Nat) (t : List Nat) : List Nat := TL.numL k ++ 40 :: (t ++ [41])
/-- the own table's texts of a stretch -/
def cands (w : List Nat) (f : Nat → Nat → List Nat) (n a : Nat) : List (List Nat) :=
  if n = 1 then [[at_ w a]] else
    ((List.range' 1 (n - 1)).map fun c => f c a ++ f (n - c) (a + c)) ++
    ((if sl w a n = List.replicate n (at_ w a) then [TL.numL n ++ [at_ w a]] else []) ++
    (((List.range' 1 (n - 1)).filter fun p => decide (Per w a n p)).map fun p => brk (n / p) (f p a)))
def tabN (w : List Nat) : Nat → Nat → Nat → List Nat
  | 0, _, _ => []
  | k + 1, n, a => mnL (cands w (tabN w k) n a)
def tab (w : List Nat) (n a : Nat) : List Nat := tabN w n n a
theorem mem_r {n c : Nat} : c ∈ List.range' 1 (n - 1) ↔ 1 ≤ c ∧ c < n := by
  rw [List.mem_range'_1]
  omega
theorem cands_congr {w : List Nat} {f g : Nat → Nat → List Nat} {n a : Nat} (h : ∀ m b, 1 ≤ m → m < n → f m b = g m b) : cands w f n a = cands w g n a := by
  have h1 : (List.range' 1 (n - 1)).map (fun c => f c a ++ f (n - c) (a + c)) = (List.range' 1 (n - 1)).map (fun c => g c a ++ g (n - c) (a + c)) := List.map_congr_left fun c hc => by
    obtain ⟨h1, h2⟩ := mem_r.mp hc
    rw [h c a h1 h2, h (n - c) (a + c) (by omega) (by omega)]
  have h2 : ((List.range' 1 (n - 1)).filter fun p => decide (Per w a n p)).map (fun p => brk (n / p) (f p a)) = ((List.range' 1 (n - 1)).filter fun p => decide (Per w a n p)).map (fun p => brk (n / p) (g p a)) := List.map_congr_left fun c hc => by
    obtain ⟨h1, h2⟩ := mem_r.mp (List.mem_filter.mp hc).1
    rw [h c a h1 h2]
  unfold cands
  rw [h1, h2]
theorem tabN_st (w : List Nat) (n : Nat) : ∀ k a, 1 ≤ n → n ≤ k → tabN w k n a = tab w n a := by
  induction n using Nat.strongRecOn with
  | ind n ih =>
    intro k a h1 hk
    obtain ⟨k, rfl⟩ : ∃ k', k = k' + 1 := ⟨k - 1, by omega⟩
    obtain ⟨n', hn⟩ : ∃ n', n = n' + 1 := ⟨n - 1, by omega⟩
    unfold tab
    rw [hn]
    show mnL (cands w (tabN w k) (n' + 1) a) = mnL (cands w (tabN w n') (n' + 1) a)
    rw [cands_congr fun m b h2 h3 => (ih m (by omega) k b h2 (by omega)).trans (ih m (by omega) n' b h2 (by omega)).symm]
theorem tab_eq {w : List Nat} {n a : Nat} (h : 1 ≤ n) : tab w n a = mnL (cands w (tab w) n a) := by
  obtain ⟨n', hn⟩ : ∃ n', n = n' + 1 := ⟨n - 1, by omega⟩
  have e : tab w n a = mnL (cands w (tabN w n') n a) := by
    unfold tab
    rw [hn]
    rfl
  rw [e, cands_congr fun m b h2 h3 => tabN_st w m n' b h2 (by omega)]
/-- the program's pieces -/
def pcs (w : List Nat) (n a : Nat) : List (List Nat) :=
  if n = 1 then [[at_ w a]] else ((List.range' 1 (n / 2)).filter fun p => decide (n % p = 0 ∧ sl w (a + p) (n - p) = sl w a (n - p))).map fun p => if p = 1 then TL.numL (n / p) ++ [at_ w a] else brk (n / p) (tab w p a)
def pc (w : List Nat) (n a : Nat) : Option (List Nat) := if pcs w n a = [] then none else some (mnL (pcs w n a))
def told (w : List Nat) (n a : Nat) : List (List Nat) := ((List.range' 1 (n - 1)).filterMap fun m => (pc w m a).map (· ++ tab w (n - m) (a + m))) ++ (pc w n a).toList
theorem pc_of {w : List Nat} {n a : Nat} {z : List Nat} (h : z ∈ pcs w n a) : ∃ q, pc w n a = some q ∧ q ∈ told w n a ∧ sle q z := by
  have hne : pcs w n a ≠ [] := fun e => by
    rw [e] at h
    cases h
  have e : pc w n a = some (mnL (pcs w n a)) := if_neg hne
  refine ⟨_, e, ?_, mnL_le h⟩
  unfold told
  rw [e]
  exact List.mem_append_right _ (List.mem_singleton.mpr rfl)
theorem pc_mem {w : List Nat} {n a : Nat} {q : List Nat} (h : pc w n a = some q) : q ∈ pcs w n a := by
  unfold pc at h
  by_cases c : pcs w n a = []
  · rw [if_pos c] at h
    cases h
  · rw [if_neg c] at h
    cases h
    exact mnL_mem c
theorem told_app {w : List Nat} {n a m : Nat} {q : List Nat} (h1 : 1 ≤ m) (h2 : m < n) (h : pc w m a = some q) : q ++ tab w (n - m) (a + m) ∈ told w n a := by
  unfold told
  refine List.mem_append_left _ (List.mem_filterMap.mpr ⟨m, mem_r.mpr ⟨h1, h2⟩, ?_⟩)
  rw [h]
  rfl
theorem told_cases {w : List Nat} {n a : Nat} {y : List Nat} (h : y ∈ told w n a) : (∃ m q, 1 ≤ m ∧ m < n ∧ pc w m a = some q ∧ y = q ++ tab w (n - m) (a + m)) ∨ pc w n a = some y := by
  unfold told at h
  rcases List.mem_append.mp h with h | h
  · obtain ⟨m, hm, e⟩ := List.mem_filterMap.mp h
    obtain ⟨h1, h2⟩ := mem_r.mp hm
    obtain ⟨q, e1, e2⟩ := Option.map_eq_some_iff.mp e
    exact .inl ⟨m, q, h1, h2, e1, e2.symm⟩
  · exact .inr (Option.mem_toList.mp h)
theorem cand_cut {w : List Nat} {n a c : Nat} (h1 : 1 ≤ c) (h2 : c < n) : tab w c a ++ tab w (n - c) (a + c) ∈ cands w (tab w) n a := by
  unfold cands
  rw [if_neg (by omega)]
  exact List.mem_append_left _ (List.mem_map.mpr ⟨c, mem_r.mpr ⟨h1, h2⟩, rfl⟩)
theorem tab_cut {w : List Nat} {n a c : Nat} (h1 : 1 ≤ c) (h2 : c < n) : sle (tab w n a) (tab w c a ++ tab w (n - c) (a + c)) := by
  rw [tab_eq (by omega)]
  exact mnL_le (cand_cut h1 h2)
theorem tab_one (w : List Nat) (a : Nat) : tab w 1 a = [at_ w a] := by
  rw [tab_eq (Nat.le_refl 1)]
  rfl
theorem pc_one (w : List Nat) (a : Nat) : pc w 1 a = some [at_ w a] := rfl
theorem told_one (w : List Nat) (a : Nat) : told w 1 a = [[at_ w a]] := rfl
theorem same_iff {w : List Nat} {n a : Nat} (h : a + n ≤ w.length) (hn : 1 ≤ n) : Per w a n 1 ↔ sl w a n = List.replicate n (at_ w a) := by
  unfold Per
  rw [Nat.div_one, sl_one (by omega), rep1]
  exact ⟨fun h => h.2, fun h => ⟨Nat.mod_one n, h⟩⟩
theorem pcs_of {w : List Nat} {n a p : Nat} (h : a + n ≤ w.length) (hn : 2 ≤ n) (hp : 1 ≤ p) (hpn : p < n) (hper : Per w a n p) : (if p = 1 then TL.numL (n / p) ++ [at_ w a] else brk (n / p) (tab w p a)) ∈ pcs w n a := by
  unfold pcs
  rw [if_neg (by omega)]
  refine List.mem_map.mpr ⟨p, List.mem_filter.mpr ⟨?_, decide_eq_true ⟨hper.1, (per_eq h hp (by omega) hper.1).mpr hper.2⟩⟩, rfl⟩
  rw [List.mem_range'_1]
  have hd : p ∣ n := Nat.dvd_of_mod_eq_zero hper.1
  obtain ⟨k, rfl⟩ := hd
  have hk : 2 ≤ k := by
    rcases Nat.lt_or_ge k 2 with z | z
    · have : p * k ≤ p * 1 := Nat.mul_le_mul_left _ (by omega)
      omega
    · exact z
  have : p * 2 ≤ p * k := Nat.mul_le_mul_left _ hk
  omega
theorem pcs_cases {w : List Nat} {n a : Nat} {z : List Nat} (h : a + n ≤ w.length) (hn : 2 ≤ n) (hz : z ∈ pcs w n a) : ∃ p, 1 ≤ p ∧ p < n ∧ Per w a n p ∧ z = if p = 1 then TL.numL (n / p) ++ [at_ w a] else brk (n / p) (tab w p a) := by
  unfold pcs at hz
  rw [if_neg (by omega)] at hz
  obtain ⟨p, hp, rfl⟩ := List.mem_map.mp hz
  obtain ⟨h1, h2⟩ := List.mem_filter.mp hp
  obtain ⟨h3, h4⟩ := of_decide_eq_true h2
  rw [List.mem_range'_1] at h1
  exact ⟨p, h1.1, by omega, ⟨h3, (per_eq h h1.1 (by omega) h3).mp h4⟩, rfl⟩
theorem cands_cases {w : List Nat} {n a : Nat} {x : List Nat} (hn : 2 ≤ n) (h : x ∈ cands w (tab w) n a) : (∃ c, 1 ≤ c ∧ c < n ∧ x = tab w c a ++ tab w (n - c) (a + c)) ∨ (sl w a n = List.replicate n (at_ w a) ∧ x = TL.numL n ++ [at_ w a]) ∨ ∃ p, 1 ≤ p ∧ p < n ∧ Per w a n p ∧ x = brk (n / p) (tab w p a) := by
  unfold cands at h
  rw [if_neg (by omega)] at h
  rcases List.mem_append.mp h with h | h
  · obtain ⟨c, hc, rfl⟩ := List.mem_map.mp h
    obtain ⟨h1, h2⟩ := mem_r.mp hc
    exact .inl ⟨c, h1, h2, rfl⟩
  · rcases List.mem_append.mp h with h | h
    · by_cases c : sl w a n = List.replicate n (at_ w a)
      · rw [if_pos c] at h
        exact .inr (.inl ⟨c, List.mem_singleton.mp h⟩)
      · rw [if_neg c] at h
        cases h
    · obtain ⟨p, hp, rfl⟩ := List.mem_map.mp h
      obtain ⟨h1, h2⟩ := List.mem_filter.mp hp
      obtain ⟨h3, h4⟩ := mem_r.mp h1
      exact .inr (.inr ⟨p, h3, h4, of_decide_eq_true h2, rfl⟩)
theorem cand_same {w : List Nat} {n a : Nat} (hn : 2 ≤ n) (h : sl w a n = List.replicate n (at_ w a)) : TL.numL n ++ [at_ w a] ∈ cands w (tab w) n a := by
  unfold cands
  rw [if_neg (by omega), if_pos h]
  exact List.mem_append_right _ (List.mem_append_left _ (List.mem_singleton.mpr rfl))
theorem cand_brk {w : List Nat} {n a p : Nat} (hn : 2 ≤ n) (h1 : 1 ≤ p) (h2 : p < n) (h : Per w a n p) : brk (n / p) (tab w p a) ∈ cands w (tab w) n a := by
  unfold cands
  rw [if_neg (by omega)]
  exact List.mem_append_right _ (List.mem_append_right _ (List.mem_map.mpr ⟨p, List.mem_filter.mpr ⟨mem_r.mpr ⟨h1, h2⟩, decide_eq_true h⟩, rfl⟩))
/-- the program's best text is the own table's -/
theorem told_tab (w : List Nat) (n : Nat) : ∀ a, 1 ≤ n → a + n ≤ w.length → told w n a ≠ [] ∧ mnL (told w n a) = tab w n a := by
  induction n using Nat.strongRecOn with
  | ind n ih =>
    intro a h1 hw
    by_cases h2 : n = 1
    · subst h2
      rw [told_one, tab_one]
      exact ⟨List.cons_ne_nil _ _, rfl⟩
    · have hn : 2 ≤ n := by omega
      have hne : told w n a ≠ [] := fun e => by
        have := told_app (w := w) (n := n) (a := a) (m := 1) (Nat.le_refl 1) (by omega) (pc_one w a)
        rw [e] at this
        cases this
      refine ⟨hne, ?_⟩
      rw [tab_eq h1]
      refine mnL_eq hne (fun e => by
        have := cand_cut (w := w) (n := n) (a := a) (c := 1) (Nat.le_refl 1) (by omega)
        rw [e] at this
        cases this) (fun y hy => ?_) (fun x hx => ?_)
      · rcases told_cases hy with ⟨m, q, m1, m2, hq, rfl⟩ | hy
        · refine ⟨_, cand_cut m1 m2, sle_right _ ?_⟩
          obtain ⟨_, e⟩ := ih m m2 a m1 (by omega)
          rw [← e]
          obtain ⟨q', hq', hm', _⟩ := pc_of (pc_mem hq)
          rw [hq] at hq'
          cases hq'
          exact mnL_le hm'
        · obtain ⟨p, p1, p2, hper, rfl⟩ := pcs_cases hw hn (pc_mem hy)
          by_cases c : p = 1
          · subst c
            rw [if_pos rfl, Nat.div_one]
            exact ⟨_, cand_same hn ((same_iff hw h1).mp hper), sle_refl _⟩
          · rw [if_neg c]
            exact ⟨_, cand_brk hn p1 p2 hper, sle_refl _⟩
      · rcases cands_cases hn hx with ⟨c, c1, c2, rfl⟩ | ⟨hs, rfl⟩ | ⟨p, p1, p2, hper, rfl⟩
        · obtain ⟨hnc, ec⟩ := ih c c2 a c1 (by omega)
          have hm := mnL_mem hnc
          rw [ec] at hm
          rcases told_cases hm with ⟨m, q, m1, m2, hq, e⟩ | hq
          · refine ⟨_, told_app m1 (by omega : m < n) hq, ?_⟩
            rw [e, List.append_assoc]
            refine sle_left _ ?_
            have := tab_cut (w := w) (n := n - m) (a := a + m) (c := c - m) (by omega) (by omega)
            rw [show n - m - (c - m) = n - c by omega, show a + m + (c - m) = a + c by omega] at this
            exact this
          · exact ⟨_, told_app c1 c2 hq, sle_refl _⟩
        · have := pcs_of hw hn (Nat.le_refl 1) (by omega) ((same_iff hw h1).mpr hs)
          rw [if_pos rfl, Nat.div_one] at this
          obtain ⟨q, _, hq, hle⟩ := pc_of this
          exact ⟨q, hq, hle⟩
        · have := pcs_of hw hn p1 p2 hper
          obtain ⟨q, _, hq, hle⟩ := pc_of this
          refine ⟨q, hq, sle_trans hle ?_⟩
          by_cases c : p = 1
          · subst c
            rw [if_pos rfl, tab_one]
            refine sle_of (.inl ?_)
            unfold brk
            simp only [List.length_append, List.length_cons, List.length_nil]
            omega
          · rw [if_neg c]
            exact sle_refl _
end K09
set_option Elab.async false
set_option linter.all false
set_option maxRecDepth 100000
set_option maxHeartbeats 4000000
namespace K09
open PySem Mi
/-! ## what is drawn: texts of few signs -/
def okL (W : List Nat) : Prop := ∀ c ∈ W, c < 1000
theorem okL_nil : okL [] := fun _ h => nomatch h
def TxD (L : Nat) (d : D) : Prop := ∃ l, d = T l ∧ l.length ≤ L ∧ okL l
theorem TxD.mono {L M : Nat} {d : D} (h : TxD L d) (hl : L ≤ M) : TxD M d := by
  obtain ⟨l, h1, h2, h3⟩ := h
  exact ⟨l, h1, Nat.le_trans h2 hl, h3⟩
def litOK (L : Nat) (x : Str) : Bool := decide (x.cps.toList.length ≤ L) && x.cps.toList.all fun c => decide (c < 1000)
theorem TxD.lit {L : Nat} {x : Str} (h : litOK L x = true) : TxD L (.str x) := by
  obtain ⟨h1, h2⟩ := Bool.and_eq_true_iff.mp h
  exact ⟨x.cps.toList, by rw [S_of (x := x) rfl]; rfl, of_decide_eq_true h1, fun c hc => of_decide_eq_true (List.all_eq_true.mp h2 c hc)⟩
theorem okL_app {a b : List Nat} (h1 : okL a) (h2 : okL b) : okL (a ++ b) := fun c hc => (List.mem_append.mp hc).elim (h1 c) (h2 c)
theorem okL_take {a : List Nat} (h : okL a) (k : Nat) : okL (a.take k) := fun c hc => h c (List.mem_of_mem_take hc)
theorem okL_drop {a : List Nat} (h : okL a) (k : Nat) : okL (a.drop k) := fun c hc => h c (List.mem_of_mem_drop hc)
theorem okL_ok {a : List Nat} (h : okL a) : okS a := okS_lit h
theorem txd_add {L M : Nat} {x y : D} (h1 : TxD L x) (h2 : TxD M y) (hb : L + M ≤ 100000) : ∃ z, dAdd x y = some z ∧ TxD (L + M) z := by
  obtain ⟨a, rfl, a1, a2⟩ := h1
  obtain ⟨b, rfl, b1, b2⟩ := h2
  exact ⟨T (a ++ b), s_add (by unfold BIG; omega), a ++ b, rfl, by rw [List.length_append]; omega, okL_app a2 b2⟩
theorem add_tx {L M : Nat} {x y : D} {ma mb : EM} {ρ ρ1 ρ2 : En} (h1 : ma ρ = .ok (.d x) ρ1) (h2 : mb ρ1 = .ok (.d y) ρ2) (hx : TxD L x) (hy : TxD M y) (hb : L + M ≤ 100000) : ∃ z, mB dAdd ma mb ρ = .ok (.d z) ρ2 ∧ TxD (L + M) z := by
  obtain ⟨z, hz, hz2⟩ := txd_add hx hy hb
  exact ⟨z, op2 h1 h2 hz, hz2⟩
theorem numL_okL (k : Nat) : okL (TL.numL k) := fun c hc => by
  have := TL.numL_digits k c hc
  omega
theorem num_tx {k : Nat} (h : k < 1000) : ∃ z, dStr (.int k) = some z ∧ TxD 3 z := ⟨T (TL.numL k), s_str h, _, rfl, TL.numL_len (k := 3) (by omega) (by omega), numL_okL k⟩
theorem joinL_nil : ∀ ps : List (List Nat), TL.joinL [] ps = ps.flatten
  | [] => rfl
  | [p] => by
    show p = _
    simp
  | p :: q :: r => by
    have h : TL.joinL [] (p :: q :: r) = p ++ ([] ++ TL.joinL [] (q :: r)) := rfl
    rw [h, joinL_nil (q :: r)]
    simp
/-- joining a list of texts -/
theorem join_tx {L : Nat} : ∀ {acc : List D}, (∀ d ∈ acc, TxD L d) → ∃ ys : List (List Nat), acc = ys.map T ∧ ∀ y ∈ ys, y.length ≤ L ∧ okL y
  | [], _ => ⟨[], rfl, fun _ h => by cases h⟩
  | d :: acc, h => by
    obtain ⟨l, rfl, h1, h2⟩ := h d (List.mem_cons_self ..)
    obtain ⟨ys, rfl, h3⟩ := join_tx fun e he => h e (List.mem_cons_of_mem _ he)
    exact ⟨l :: ys, rfl, fun y hy => by
      rcases List.mem_cons.mp hy with rfl | hy
      · exact ⟨h1, h2⟩
      · exact h3 y hy⟩
theorem flat_len {L : Nat} : ∀ {ys : List (List Nat)}, (∀ y ∈ ys, y.length ≤ L ∧ okL y) → ys.flatten.length ≤ ys.length * L ∧ okL ys.flatten
  | [], _ => ⟨by simp, okL_nil⟩
  | y :: ys, h => by
    obtain ⟨h1, h2⟩ := flat_len fun z hz => h z (List.mem_cons_of_mem _ hz)
    obtain ⟨h3, h4⟩ := h y (List.mem_cons_self ..)
    refine ⟨?_, okL_app h4 h2⟩
    rw [List.flatten_cons, List.length_append, List.length_cons, Nat.add_mul]
    omega
theorem djoin_tx {L N : Nat} {acc : List D} (h : ∀ d ∈ acc, TxD L d) (hn : acc.length ≤ N) (hb : N * L ≤ 100000) : ∃ z, dJoin "" (.lst acc) = some z ∧ TxD (N * L) z := by
  obtain ⟨ys, rfl, hy⟩ := join_tx h
  obtain ⟨h1, h2⟩ := flat_len hy
  have hl : ys.length ≤ N := by simpa using hn
  have hN : ys.length * L ≤ N * L := Nat.mul_le_mul_right _ hl
  have e : (ys.map T : List D) = (ys.map S).map D.str := by rw [List.map_map]; rfl
  have hs : ((ys.map S).map fun y => y.length).sum = ys.flatten.length := by
    rw [List.map_map, List.length_flatten]
    exact congrArg List.sum (List.map_congr_left fun y _ => S_len y)
  have hj : Txt.join "" (ys.map S) = S ys.flatten := by
    rw [TL.join_eq]
    refine S_of ?_
    have := TL.tl_join "" (ys.map S)
    have e1 : TL.tl (Str.ofString "") = [] := by decide +kernel
    rw [e1, joinL_nil, List.map_map] at this
    have e2 : ys.map (TL.tl ∘ S) = ys := by
      have : ∀ zs : List (List Nat), zs.map (TL.tl ∘ S) = zs := fun zs => by
        induction zs with
        | nil => rfl
        | cons z zs ih =>
          rw [List.map_cons, ih]
          rfl
      exact this ys
    rw [e2] at this
    exact this
  refine ⟨T ys.flatten, ?_, ys.flatten, rfl, by omega, h2⟩
  rw [e]
  show (strsD ((ys.map S).map D.str)).bind _ = _
  rw [strsD_of]
  have hz : (Str.ofString "").length = 0 := by decide +kernel
  show (if ((ys.map S).map fun y => y.length).sum + (ys.map S).length * (Str.ofString "").length ≤ BIG then some (D.str (Txt.join "" (ys.map S))) else none) = _
  rw [hs, hz, hj, if_pos (by unfold BIG; omega)]
theorem mjoin_tx {L N : Nat} {acc : List D} {ma : EM} {ρ ρ1 : En} (hm : ma ρ = .ok (.n (.lst acc)) ρ1) (h : ∀ d ∈ acc, TxD L d) (hn : acc.length ≤ N) (hb : N * L ≤ 100000) : ∃ z, mJoin (mC (.str "")) ma ρ = .ok (.d z) ρ1 ∧ TxD (N * L) z := by
  obtain ⟨z, h1, h2⟩ := djoin_tx h hn hb
  refine ⟨z, ?_, h2⟩
  unfold mJoin
  show (ma ρ).bind _ = _
  rw [hm]
  show (match dJoin "" (.lst acc) with | some z => R.ok (OV.d z) ρ1 | none => .bad) = _
  rw [h1]
theorem mjoin_own {L N : Nat} {acc : List D} {i : Nat} {io : Bool} {ρ : En} (hi : ρ[i]? = some (.own io (.lst acc))) (h : ∀ d ∈ acc, TxD L d) (hn : acc.length ≤ N) (hb : N * L ≤ 100000) : ∃ z, mJoin (mC (.str "")) (mVar i) ρ = .ok (.d z) ρ ∧ TxD (N * L) z := by
  obtain ⟨z, h1, h2⟩ := djoin_tx h hn hb
  refine ⟨z, ?_, h2⟩
  have hv : mVar i ρ = .ok (.o i) ρ := by simp [mVar, hi]
  unfold mJoin
  show (mVar i ρ).bind _ = _
  rw [hv]
  show apJ "" (.o i) ρ = _
  have hg : (OB.o i).get ρ = some (.lst acc) := by simp [OB.get, hi, Ow.d]
  unfold apJ
  rw [hg]
  show (match dJoin "" (.lst acc) with | some z => R.ok (OV.d z) ρ | none => .bad) = _
  rw [h1]
/-! ### comprehensions whose elements draw -/
theorem compL_inv {v : Nat} {te : EM} (I : Nat → En → Prop) (Pd : D → Prop) (N : Nat) (hs : ∀ j ρ, j < N → I j ρ → ∃ ρ1 ρ2 d, gN v (.one (.int (j : Int))) ρ = some ρ1 ∧ te ρ1 = .ok (.d d) ρ2 ∧ Pd d ∧ canSet ρ2 v = true ∧ I (j + 1) (ρ2.set v .un)) :
    ∀ (k j : Nat) (acc : List D) (ρ : En), j + k ≤ N → acc.length + k ≤ 1000 → (∀ d ∈ acc, Pd d) → I j ρ → ∃ acc' ρ', compL [v] (gN v) mYes te ((List.range' j k).map fun (i : Nat) => IV.one (.int (i : Int))) acc ρ = .ok acc' ρ' ∧ acc'.length = acc.length + k ∧ (∀ d ∈ acc', Pd d) ∧ I (j + k) ρ'
  | 0, j, acc, ρ, _, _, ha, h => ⟨acc, ρ, rfl, rfl, ha, h⟩
  | k + 1, j, acc, ρ, hl, hb, ha, h => by
    obtain ⟨ρ1, ρ2, d, hg, he, hd, hc, hi⟩ := hs j ρ (by omega) h
    obtain ⟨acc', ρ', e, e2, e3, e4⟩ := compL_inv I Pd N hs k (j + 1) (acc ++ [d]) (ρ2.set v .un) (by omega) (by rw [List.length_append, List.length_singleton]; omega) (fun x hx => by
      rcases List.mem_append.mp hx with hx | hx
      · exact ha x hx
      · rw [List.mem_singleton.mp hx]
        exact hd) hi
    refine ⟨acc', ρ', ?_, by rw [e2, List.length_append, List.length_singleton]; omega, e3, by rw [show j + (k + 1) = j + 1 + k from by omega]; exact e4⟩
    have hl2 : acc.length < BIG := Nat.lt_of_lt_of_le (show acc.length < 1001 by omega) (by unfold BIG; omega)
    have g2 : [v].all (canSet ρ2) = true := by simp [hc]
    have g3 : wipeE ρ2 [v] = ρ2.set v .un := rfl
    rw [List.range'_succ, List.map_cons]
    unfold compL
    simp only [hg, mYes, he, OV.fz, esc, if_pos hl2]
    rw [if_pos g2, g3]
    exact e
/-! ### turns, draws -/
theorem forL_inv {v : Nat} {b : SM} (I : Nat → En → Prop) (N : Nat) (hs : ∀ j ρ, j < N → I j ρ → ∃ ρ1 ρ2, gN v (.one (.int (j : Int))) ρ = some ρ1 ∧ b ρ1 = .nx ρ2 ∧ I (j + 1) ρ2) : ∀ (k j : Nat) (ρ : En), j + k ≤ N → I j ρ → ∃ ρ', mForL (gN v) b ((List.range' j k).map fun (i : Nat) => IV.one (.int (i : Int))) ρ = .nx ρ' ∧ I (j + k) ρ'
  | 0, j, ρ, _, h => ⟨ρ, rfl, h⟩
  | k + 1, j, ρ, hl, h => by
    obtain ⟨ρ1, ρ2, hg, hb, hi⟩ := hs j ρ (by omega) h
    obtain ⟨ρ', e, hi'⟩ := forL_inv I N hs k (j + 1) ρ2 (by omega) hi
    refine ⟨ρ', ?_, by rw [show j + (k + 1) = j + 1 + k from by omega]; exact hi'⟩
    rw [List.range'_succ, List.map_cons]
    unfold mForL
    simp only [hg, hb]
    exact e
theorem rng1k' {me : EM} {ρ ρ1 : En} {k : Int} (h0 : 0 ≤ k) (h8 : k ≤ 1000) (h : me ρ = .ok (.d (.int k)) ρ1) : mRng1 me ρ = .ok ((rgD 0 k).map .one) ρ1 := by
  unfold mRng1
  rw [h]
  simp only [R.bind, rgI]
  rw [if_pos (by omega)]
theorem rng1' {me : EM} {ρ ρ1 : En} {n : Nat} (h8 : n ≤ 1000) (h : me ρ = .ok (.d (.int n)) ρ1) : mRng1 me ρ = .ok ((List.range' 0 n).map fun (i : Nat) => IV.one (.int (i : Int))) ρ1 :=
  (rng1k' (by omega) (by omega) h).trans (congrArg (fun z => R.ok z ρ1) (rgD_0 n))
theorem comp_inv {v : Nat} {te me : EM} {ρ ρ1 : En} {n : Nat} (hn : n ≤ 500) (hm : me ρ = .ok (.d (.int n)) ρ1) (hno : noOw ρ1 v = true) (I : Nat → En → Prop) (Pd : D → Prop) (h0 : I 0 (ρ1.set v .un)) (hs : ∀ j ρ, j < n → I j ρ → ∃ ρ1 ρ2 d, gN v (.one (.int (j : Int))) ρ = some ρ1 ∧ te ρ1 = .ok (.d d) ρ2 ∧ Pd d ∧ canSet ρ2 v = true ∧ I (j + 1) (ρ2.set v .un)) :
    ∃ acc ρ', mComp [v] (mRng1 me) (gN v) mYes te ρ = .ok (.n (.lst acc)) (ρ'.set v (ρ1.getD v .un)) ∧ acc.length = n ∧ (∀ d ∈ acc, Pd d) ∧ I n ρ' := by
  obtain ⟨acc, ρ', e, e2, e3, e4⟩ := compL_inv I Pd n hs n 0 [] (ρ1.set v .un) (by omega) (by simp; omega) (fun _ h => by cases h) h0
  rw [Nat.zero_add] at e4
  refine ⟨acc, ρ', ?_, by simpa using e2, e3, e4⟩
  have hr := rng1' (by omega) hm
  unfold mComp
  rw [hr]
  simp only [R.bind]
  rw [if_pos (by simp [hno])]
  show (match compL [v] (gN v) mYes te _ [] (ρ1.set v .un) with | .ok acc ρ2 => R.ok (OV.n (.lst acc)) (restE ρ1 ρ2 [v]) | _ => .bad) = _
  rw [e]
  rfl
theorem for_inv {v : Nat} {b : SM} {me : EM} {ρ ρ1 : En} {n : Nat} (h8 : n ≤ 1000) (h : me ρ = .ok (.d (.int n)) ρ1) (I : Nat → En → Prop) (h0 : I 0 ρ1) (hs : ∀ j ρ, j < n → I j ρ → ∃ ρ1 ρ2, gN v (.one (.int (j : Int))) ρ = some ρ1 ∧ b ρ1 = .nx ρ2 ∧ I (j + 1) ρ2) : ∃ ρ', mFor (mRng1 me) (gN v) b ρ = .nx ρ' ∧ I n ρ' := by
  obtain ⟨ρ', e, hi⟩ := forL_inv I n hs n 0 ρ1 (by omega) h0
  rw [Nat.zero_add] at hi
  refine ⟨ρ', ?_, hi⟩
  unfold mFor
  rw [rng1' h8 h]
  exact e
theorem pk {ns : List Int} {w : Ow} {io : Bool} {ρ : En} {i : Nat} {m : EM} {many : Int} (hw : Dr ns w) (h1 : 1 ≤ many) (hn : many ≤ 1000) (h : ρ[i]? = some (.own io w)) (hm : m ρ = .ok (.d (.int many)) ρ) : ∃ (p : Nat) (w' : Ow), Dr ns w' ∧ (p : Int) < many ∧ mCall [0] m__law_pick [] (mLend i (mArg m mNil)) ρ = .ok (.d (.int p)) (ρ.set i (.own io w')) := by
  obtain ⟨p, w', hw', p0, p1, hp⟩ := pick_ok hw h1 hn
  obtain ⟨k, rfl⟩ := Int.eq_ofNat_of_zero_le p0
  exact ⟨k, w', hw', p1, call_io h hm rfl h hp⟩
theorem lend0 {f : List Sl → DR} {i : Nat} {io : Bool} {ρ : En} {w w' : Ow} {d : D} (h0 : ρ[i]? = some (.own io w)) (hf : f [.own true w] = .ok (.v d) [w']) : mCall [0] f [] (mLend i mNil) ρ = .ok (.d d) (ρ.set i (.own io w')) := by
  simp [mCall, mLend, h0, isOw, mNil, R.bind, toArgs, ioPos, ioSl, hf, putO, rvOV]
theorem lto_i {ma mb : EM} {ρ ρ1 : En} {a b : Int} (h1 : ma ρ = .ok (.d (.int a)) ρ1) (h2 : mb ρ1 = .ok (.d (.int b)) ρ1) : mTst (mB (dOr dLt dLtS) ma mb) ρ = .ok (decide (a < b)) ρ1 := tst_ok (op2 (g := dOr dLt dLtS) h1 h2 rfl)
theorem eq_t {ma mb : EM} {ρ ρ1 : En} {a b : Int} (h1 : ma ρ = .ok (.d (.int a)) ρ1) (h2 : mb ρ1 = .ok (.d (.int b)) ρ1) : mTst (mB dEq ma mb) ρ = .ok (decide (a = b)) ρ1 := tst_ok (op2 h1 h2 e_int)
/-- an entry of a list that was just made, by a draw -/
theorem ix_tx {L : Nat} {es : List D} {k : Nat} {ma m : EM} {ρ ρ1 ρ2 : En} (h1 : ma ρ = .ok (.n (.lst es)) ρ1) (hm : m ρ1 = .ok (.d (.int k)) ρ2) (hk : k < es.length) (h : ∀ d ∈ es, TxD L d) : ∃ z, mB dIx ma m ρ = .ok (.d z) ρ2 ∧ TxD L z := by
  have he : es[k]? = some es[k] := List.getElem?_eq_getElem hk
  have hat : L2.atI es (k : Int) = some es[k] := by
    unfold L2.atI L2.ixN
    rw [if_pos (by omega), if_pos (by omega)]
    simpa using he
  refine ⟨es[k], ?_, h _ (List.getElem_mem hk)⟩
  unfold mB
  rw [h1]
  simp only [R.bind]
  rw [hm]
  simp only [R.bind, OV.fz, Ow.d, ap2, OB.get, dIx]
  rw [hat]
  rfl
/-- a sign of a text, by a draw -/
theorem sg_tx {l : List Nat} {k : Nat} {ma m : EM} {ρ ρ1 ρ2 : En} (h1 : ma ρ = .ok (.d (T l)) ρ1) (hm : m ρ1 = .ok (.d (.int k)) ρ2) (hk : k < l.length) (h8 : l.length ≤ 1000) (h : okL l) : ∃ z, mB dIxS ma m ρ = .ok (.d z) ρ2 ∧ TxD 1 z :=
  ⟨T [l[k]], op2 h1 hm (s_ix hk (by omega)), [l[k]], rfl, by simp, fun c hc => by
    rw [List.mem_singleton.mp hc]
    exact h _ (List.getElem_mem hk)⟩
theorem pl_set {s : Sl} (h : Pl s) {ρ : En} {i : Nat} (hi : ρ[i]? = some s) : canSet ρ i = true := by
  unfold canSet
  rw [hi]
  rcases h with rfl | ⟨v, rfl⟩ <;> rfl
theorem gN_pl {s : Sl} (h : Pl s) {ρ : En} {i : Nat} {d : D} (hi : ρ[i]? = some s) : gN i (.one d) ρ = some (ρ.set i (.val d)) := if_pos (pl_set h hi)
end K09
set_option Elab.async false
set_option linter.all false
set_option maxRecDepth 100000
set_option maxHeartbeats 4000000
namespace K09
open PySem Mi
/-! ## what the own table's texts stand for -/
theorem tab_mem {w : List Nat} {n a : Nat} (h : 1 ≤ n) : tab w n a ∈ cands w (tab w) n a := by
  rw [tab_eq h]
  refine mnL_mem fun e => ?_
  by_cases h1 : n = 1
  · subst h1
    cases e
  · have := cand_cut (w := w) (n := n) (a := a) (c := 1) (Nat.le_refl 1) (by omega)
    rw [e] at this
    cases this
theorem at_let {w : List Nat} (hw : ∀ c ∈ w, isL c) {a : Nat} (h : a < w.length) : isL (at_ w a) := by
  unfold at_
  rw [List.getD_eq_getElem?_getD, List.getElem?_eq_getElem h]
  exact hw _ (List.getElem_mem h)
theorem tab_row {w : List Nat} (hw : ∀ c ∈ w, isL c) (n : Nat) : ∀ d a, 1 ≤ n → n < 2 ^ (d + 1) → n ≤ 99 → a + n ≤ w.length → Row d (tab w n a) (sl w a n) ∧ tab w n a ≠ [] ∧ (tab w n a).length ≤ n ∧ ∀ c ∈ tab w n a, c < 1000 := by
  induction n using Nat.strongRecOn with
  | ind n ih =>
    intro d a h1 hd h9 ha
    by_cases h2 : n = 1
    · subst h2
      have hl := at_let hw (a := a) (by omega)
      rw [tab_one, sl_one (by omega)]
      refine ⟨row_le (Nat.zero_le d) (Bt.letter hl).row, List.cons_ne_nil _ _, Nat.le_refl 1, (Bt.letter hl).sgn⟩
    · have hlen : (tab w n a).length ≤ n := by
        have h3 := tab_cut (w := w) (n := n) (a := a) (c := 1) (Nat.le_refl 1) (by omega)
        have h4 := (ih (n - 1) (by omega) d (a + 1) (by omega) (by omega) (by omega) (by omega)).2.2.1
        have h5 : (tab w 1 a ++ tab w (n - 1) (a + 1)).length ≤ n := by
          rw [List.length_append, tab_one, List.length_singleton]
          omega
        refine Nat.le_trans ?_ h5
        rcases Nat.lt_or_ge (tab w 1 a ++ tab w (n - 1) (a + 1)).length (tab w n a).length with z | z
        · exact absurd (.inl z) h3
        · exact z
      rcases cands_cases (by omega) (tab_mem (w := w) (a := a) h1) with ⟨c, c1, c2, e⟩ | ⟨hs, e⟩ | ⟨p, p1, p2, hper, e⟩
      · obtain ⟨r1, r2, r3, r4⟩ := ih c c2 d a c1 (by omega) (by omega) (by omega)
        obtain ⟨q1, q2, q3, q4⟩ := ih (n - c) (by omega) d (a + c) (by omega) (by omega) (by omega) (by omega)
        rw [sl_app (w := w) (a := a) (n := n) (m := c) (by omega)]
        refine ⟨by rw [e]; exact row_app r1 q1, fun z => ?_, hlen, fun x hx => ?_⟩
        · rw [e] at z
          exact r2 (List.append_eq_nil_iff.mp z).1
        · rw [e] at hx
          exact (List.mem_append.mp hx).elim (r4 x) (q4 x)
      · have hb := Bt.num (at_let hw (a := a) (by omega)) (k := n) ⟨by omega, h9⟩
        exact ⟨by rw [hs, e]; exact row_le (Nat.zero_le d) hb.row, fun z => by rw [e] at z; simp at z, hlen, fun x hx => hb.sgn x (by rw [e] at hx; exact hx)⟩
      · obtain ⟨hm, hsl⟩ := hper
        obtain ⟨k, hk⟩ := Nat.dvd_of_mod_eq_zero hm
        have hkd : n / p = k := by rw [hk]; exact Nat.mul_div_cancel_left k p1
        have hk2 : 2 ≤ k := by
          rcases Nat.lt_or_ge k 2 with z | z
          · have : p * k ≤ p * 1 := Nat.mul_le_mul_left _ (by omega)
            omega
          · exact z
        have hp2 : p * 2 ≤ n := by
          rw [hk]
          exact Nat.mul_le_mul_left _ hk2
        have hk9 : k ≤ 99 := by
          have : 1 * k ≤ p * k := Nat.mul_le_mul_right _ p1
          omega
        obtain ⟨d, rfl⟩ : ∃ e, d = e + 1 := by
          cases d with
          | zero => exfalso; simp at hd; omega
          | succ d => exact ⟨d, rfl⟩
        have hpd : p < 2 ^ (d + 1) := by
          have : 2 ^ (d + 1 + 1) = 2 ^ (d + 1) * 2 := Nat.pow_succ ..
          omega
        obtain ⟨r1, r2, r3, r4⟩ := ih p p2 d a p1 hpd (by omega) (by omega)
        rw [hkd] at e hsl
        rw [hsl]
        refine ⟨?_, fun z => ?_, hlen, fun x hx => ?_⟩
        · rw [e]
          exact run_one (.inr (.inr ⟨k, tab w p a, sl w a p, ⟨hk2, hk9⟩, r1, r2, rfl, rfl⟩))
        · rw [e] at z
          unfold brk at z
          simp at z
        · rw [e] at hx
          unfold brk at hx
          rcases List.mem_append.mp hx with h | h
          · exact numL_sgn x h
          · rcases List.mem_cons.mp h with rfl | h
            · decide
            · rcases List.mem_append.mp h with h | h
              · exact r4 x h
              · rw [List.mem_singleton.mp h]
                decide
theorem tab_ok {w : List Nat} (hw : ∀ c ∈ w, isL c) {n a : Nat} (h1 : 1 ≤ n) (h4 : n ≤ 40) (ha : a + n ≤ w.length) : Rdb (tab w n a) (sl w a n) ∧ (tab w n a).length ≤ 40 ∧ ∀ c ∈ tab w n a, c < 1000 := by
  obtain ⟨r1, r2, r3, r4⟩ := tab_row hw n 5 a h1 (by omega) (by omega) ha
  refine ⟨⟨⟨5, by omega, r1⟩, by omega, okS_lit r4, fun c hc => hw c ?_⟩, by omega, r4⟩
  unfold sl at hc
  exact List.mem_of_mem_drop (List.mem_of_mem_take hc)
theorem rdb_nil : Rdb [] [] := ⟨⟨0, by omega, .nil⟩, Nat.zero_le _, (fun _ h => nomatch h), (fun _ h => nomatch h)⟩
/-! ## steps -/
theorem lookT_put (kvs : List (List L2.Key × D)) (k j : List L2.Key) (v : D) : lookT (putD kvs k v) j = if j = k then some v else lookT kvs j := by
  unfold putD
  by_cases e : (kvs.any fun kv => decide (kv.1 = k)) = true
  · rw [if_pos e]
    unfold lookT
    induction kvs with
    | nil => cases e
    | cons kv r ih =>
      rw [List.map_cons, List.find?_cons, List.find?_cons]
      by_cases c : kv.1 = k
      · rw [if_pos c]
        by_cases hj : j = k
        · subst hj
          rw [if_pos rfl]
          simp [c]
        · have h1 : ¬ kv.1 = j := fun z => hj (z.symm.trans c)
          rw [if_neg hj]
          simp only [h1, decide_false]
          by_cases e2 : (r.any fun kv => decide (kv.1 = k)) = true
          · rw [ih e2, if_neg hj]
          · have hid : (r.map fun kv => if kv.1 = k then (kv.1, v) else kv) = r := by
              have : ∀ x ∈ r, (if x.1 = k then (x.1, v) else x) = x := fun x hx => by
                refine if_neg fun z => e2 (List.any_eq_true.mpr ⟨x, hx, decide_eq_true z⟩)
              exact (List.map_congr_left this).trans (List.map_id r)
            rw [hid]
      · have e2 : (r.any fun kv => decide (kv.1 = k)) = true := by
          rw [List.any_cons] at e
          simpa [c] using e
        rw [if_neg c]
        by_cases hj : kv.1 = j
        · have hjk : ¬ j = k := fun z => c (hj.trans z)
          rw [if_neg hjk]
          simp [hj]
        · simp only [hj, decide_false]
          exact ih e2
  · rw [if_neg e]
    unfold lookT
    rw [List.find?_append]
    by_cases hj : j = k
    · subst hj
      have : (kvs.find? fun kv => decide (kv.1 = j)) = none := List.find?_eq_none.mpr fun x hx z => e (List.any_eq_true.mpr ⟨x, hx, z⟩)
      rw [this, if_pos rfl]
      simp
    · rw [if_neg hj]
      cases q : kvs.find? fun kv => decide (kv.1 = j) with
      | some x => simp
      | none =>
        have : ¬ k = j := fun z => hj z.symm
        simp [this]
theorem putD_len (kvs : List (List L2.Key × D)) (k : List L2.Key) (v : D) : (putD kvs k v).length ≤ kvs.length + 1 := by
  unfold putD
  split
  · rw [List.length_map]
    omega
  · rw [List.length_append]
    simp
/-- the key of a stretch -/
abbrev ky (a n : Nat) : List L2.Key := [.inl (a : Int), .inl ((a + n : Nat) : Int)]
theorem ky_inj {a n b m : Nat} : ky a n = ky b m ↔ a = b ∧ n = m := by
  unfold ky
  constructor
  · intro h
    injection h with h1 h2
    injection h2 with h3 _
    injection h1 with h1
    injection h3 with h3
    omega
  · rintro ⟨rfl, rfl⟩
    rfl
theorem getT_ok {ρ : En} {i : Nat} {io : Bool} {kvs : List (List L2.Key × D)} {ma mb : EM} {a b : Int} {d : D} (h : ρ[i]? = some (.own io (.dt kvs))) (ha : ma ρ = .ok (.d (.int a)) ρ) (hb : mb ρ = .ok (.d (.int b)) ρ) (hl : lookT kvs [.inl a, .inl b] = some d) :
    mGetT (mVar i) (mCons ma (mCons mb mNil)) ρ = .ok (.d d) ρ := by
  have e1 : mVar i ρ = .ok (.o i) ρ := by simp [mVar, h]
  have e2 : mCons ma (mCons mb mNil) ρ = .ok [.d (.int a), .d (.int b)] ρ := by simp [mCons, mNil, ha, hb, R.bind, OV.fz]
  have e3 : (OB.o i).get ρ = some (.dt kvs) := by simp [OB.get, h, Ow.d]
  unfold mGetT
  rw [e1]
  simp only [R.bind, e2, OV.fz, keysB, keyB, keyD, Option.map]
  rw [if_pos (show ([.inl a, .inl b] : List L2.Key).length ≤ BIG by show 2 ≤ BIG; unfold BIG; omega), e3]
  simp only [hl, rz]
theorem putT_ok {ρ ρ1 : En} {s : Nat} {io : Bool} {kvs : List (List L2.Key × D)} {ma mb me : EM} {a b : Int} {d : D} (he : me ρ = .ok (.d d) ρ1) (h : ρ1[s]? = some (.own io (.dt kvs))) (ha : ma ρ1 = .ok (.d (.int a)) ρ1) (hb : mb ρ1 = .ok (.d (.int b)) ρ1) (hz : kvs.length < BIG) :
    mPutT s (mCons ma (mCons mb mNil)) me ρ = .nx (ρ1.set s (.own io (.dt (putD kvs [.inl a, .inl b] d)))) := by
  have e2 : mCons ma (mCons mb mNil) ρ1 = .ok [.d (.int a), .d (.int b)] ρ1 := by simp [mCons, mNil, ha, hb, R.bind, OV.fz]
  unfold mPutT
  rw [he]
  simp only [R.st, OV.fz, esc, h, isOw, if_true, e2, keysB, keyB, keyD, Option.map]
  rw [if_pos (show ([.inl a, .inl b] : List L2.Key).length ≤ BIG by show 2 ≤ BIG; unfold BIG; omega)]
  simp only [if_pos hz]
theorem rgD_n (a n : Nat) : (rgD (a : Int) ((a + n : Nat) : Int)).map IV.one = (List.range' a n).map fun (i : Nat) => IV.one (.int (i : Int)) := by
  unfold rgD
  have : (((a + n : Nat) : Int) - (a : Int)).toNat = n := by omega
  rw [this, List.map_map, List.range'_eq_map_range, List.map_map]
  refine List.map_congr_left fun i _ => ?_
  show IV.one (.int _) = IV.one (.int _)
  congr 2
theorem rng2_n {ma mb : EM} {ρ : En} {a n : Nat} (h1 : ma ρ = .ok (.d (.int a)) ρ) (h2 : mb ρ = .ok (.d (.int ((a + n : Nat) : Int))) ρ) (h8 : a + n ≤ 1000) : mRng2 ma mb ρ = .ok ((List.range' a n).map fun (i : Nat) => IV.one (.int (i : Int))) ρ := by
  rw [rng2_k (by omega) (by omega) h1 h2, rgD_n]
theorem rng2_e {ma mb : EM} {ρ : En} {a b : Nat} (h1 : ma ρ = .ok (.d (.int a)) ρ) (h2 : mb ρ = .ok (.d (.int (b : Int))) ρ) (h8 : a ≤ 1000 ∧ b ≤ 1000) : mRng2 ma mb ρ = .ok ((List.range' a (b - a)).map fun (i : Nat) => IV.one (.int (i : Int))) ρ := by
  rw [rng2_k (by omega) (by omega) h1 h2]
  rcases Nat.le_total a b with h | h
  · have := rgD_n a (b - a)
    rw [show a + (b - a) = b by omega] at this
    rw [this]
  · have e : rgD (a : Int) (b : Int) = [] := by
      unfold rgD
      have : ((b : Int) - (a : Int)).toNat = 0 := by omega
      rw [this]
      rfl
    rw [e, show b - a = 0 by omega]
    rfl
/-- turns over stretches of numbers -/
theorem for_rng {v : Nat} {b : SM} {m : IM} {ρ ρ1 : En} {s n : Nat} (h : m ρ = .ok ((List.range' s n).map fun (i : Nat) => IV.one (.int (i : Int))) ρ1) (I : Nat → En → Prop) (h0 : I s ρ1) (hs : ∀ j ρ, s ≤ j → j < s + n → I j ρ → ∃ ρ1 ρ2, gN v (.one (.int (j : Int))) ρ = some ρ1 ∧ b ρ1 = .nx ρ2 ∧ I (j + 1) ρ2) :
    ∃ ρ', mFor m (gN v) b ρ = .nx ρ' ∧ I (s + n) ρ' := by
  obtain ⟨ρ', e, hs2, hi⟩ := forL_inv (v := v) (b := b) (fun j ρ => s ≤ j ∧ I j ρ) (s + n) (fun j ρ hj hi => by
    obtain ⟨ρ1, ρ2, h1, h2, h3⟩ := hs j ρ hi.1 hj hi.2
    exact ⟨ρ1, ρ2, h1, h2, by omega, h3⟩) n s ρ1 (Nat.le_refl _) ⟨Nat.le_refl _, h0⟩
  refine ⟨ρ', ?_, hi⟩
  unfold mFor
  rw [h]
  exact e
end K09
set_option Elab.async false
set_option linter.all false
set_option maxRecDepth 100000
set_option maxHeartbeats 4000000
namespace K09
open PySem Mi
/-! ## small steps -/
theorem addN {ma mb : EM} {ρ ρ1 ρ2 : En} {a b : Nat} (h1 : ma ρ = .ok (.d (.int (a : Int))) ρ1) (h2 : mb ρ1 = .ok (.d (.int (b : Int))) ρ2) : mB dAdd ma mb ρ = .ok (.d (.int ((a + b : Nat) : Int))) ρ2 := by
  rw [Int.natCast_add]
  exact add2 h1 h2
theorem subN {ma mb : EM} {ρ ρ1 ρ2 : En} {a b : Nat} (h : b ≤ a) (h1 : ma ρ = .ok (.d (.int (a : Int))) ρ1) (h2 : mb ρ1 = .ok (.d (.int (b : Int))) ρ2) : mB dSub ma mb ρ = .ok (.d (.int ((a - b : Nat) : Int))) ρ2 := by
  rw [Int.ofNat_sub h]
  exact sub2 h1 h2
theorem divN {ma mb : EM} {ρ ρ1 ρ2 : En} {a b : Nat} (h : 0 < b ∧ b < 1000) (h1 : ma ρ = .ok (.d (.int (a : Int))) ρ1) (h2 : mb ρ1 = .ok (.d (.int (b : Int))) ρ2) : mB dDiv ma mb ρ = .ok (.d (.int ((a / b : Nat) : Int))) ρ2 := by
  rw [Int.natCast_ediv]
  exact op2 h1 h2 (e_div (by omega) (by omega))
theorem modN {ma mb : EM} {ρ ρ1 ρ2 : En} {a b : Nat} (h : 0 < b) (h1 : ma ρ = .ok (.d (.int (a : Int))) ρ1) (h2 : mb ρ1 = .ok (.d (.int (b : Int))) ρ2) : mB dMod ma mb ρ = .ok (.d (.int ((a % b : Nat) : Int))) ρ2 := by
  rw [Int.natCast_emod]
  exact mod2 (by omega) h1 h2
theorem eqN {ma mb : EM} {ρ ρ1 ρ2 : En} {a b : Nat} (h1 : ma ρ = .ok (.d (.int (a : Int))) ρ1) (h2 : mb ρ1 = .ok (.d (.int (b : Int))) ρ2) : mTst (mB dEq ma mb) ρ = .ok (decide (a = b)) ρ2 := by
  rw [show decide (a = b) = decide ((a : Int) = b) from decide_eq_decide.mpr (by omega)]
  exact tst_ok (op2 h1 h2 e_int)
theorem eqS {ma mb : EM} {ρ ρ1 ρ2 : En} {a b : List Nat} (ha : okS a) (hb : okS b) (h1 : ma ρ = .ok (.d (T a)) ρ1) (h2 : mb ρ1 = .ok (.d (T b)) ρ2) : mTst (mB dEq ma mb) ρ = .ok (decide (a = b)) ρ2 := tst_ok (op2 h1 h2 (s_eq ha hb))
theorem cN {ρ : En} (n : Nat) : mC (.int (n : Int)) ρ = .ok (.d (.int (n : Int))) ρ := rfl
theorem append_ok {i : Nat} {io : Bool} {m : EM} {ρ ρ1 : En} {xs : List D} {d : D} (h0 : isOwL ρ[i]? = true) (hm : m ρ = .ok (.d d) ρ1) (h : ρ1[i]? = some (.own io (.lst xs))) (hl : xs.length ≤ 1000) : mAppend i m ρ = .ok (.d .non) (ρ1.set i (.own io (.lst (xs ++ [d])))) := by
  have hb : xs.length < BIG := by unfold BIG; omega
  unfold mAppend
  rw [if_pos h0, hm]
  simp only [R.bind, OV.fz, esc, chg, h, fApp, if_pos hb]
theorem forL_gen {α : Type} {g : α → IV} {gm : GM} {b : SM} (N : Nat) (P : α → Prop) (I : List α → En → Prop) (hs : ∀ pre x ρ, pre.length < N → P x → I pre ρ → ∃ ρ1 ρ2, gm (g x) ρ = some ρ1 ∧ b ρ1 = .nx ρ2 ∧ I (pre ++ [x]) ρ2) :
    ∀ (l pre : List α) (ρ : En), pre.length + l.length ≤ N → (∀ x ∈ l, P x) → I pre ρ → ∃ ρ', mForL gm b (l.map g) ρ = .nx ρ' ∧ I (pre ++ l) ρ'
  | [], pre, ρ, _, _, h => ⟨ρ, rfl, by rw [List.append_nil]; exact h⟩
  | x :: l, pre, ρ, hn, hp, h => by
    rw [List.length_cons] at hn
    obtain ⟨ρ1, ρ2, h1, h2, h3⟩ := hs pre x ρ (by omega) (hp x (List.mem_cons_self ..)) h
    obtain ⟨ρ', e, hi⟩ := forL_gen N P I hs l (pre ++ [x]) ρ2 (by rw [List.length_append, List.length_singleton]; omega) (fun y hy => hp y (List.mem_cons_of_mem _ hy)) h3
    refine ⟨ρ', ?_, by rw [List.append_assoc] at hi; exact hi⟩
    rw [List.map_cons]
    unfold mForL
    simp only [h1, h2]
    exact e
theorem for_gen {α : Type} {g : α → IV} {gm : GM} {b : SM} {m : IM} {ρ ρ1 : En} {l : List α} (h : m ρ = .ok (l.map g) ρ1) (P : α → Prop) (I : List α → En → Prop) (hP : ∀ x ∈ l, P x) (h0 : I [] ρ1) (hs : ∀ pre x ρ, pre.length < l.length → P x → I pre ρ → ∃ ρ1 ρ2, gm (g x) ρ = some ρ1 ∧ b ρ1 = .nx ρ2 ∧ I (pre ++ [x]) ρ2) :
    ∃ ρ', mFor m gm b ρ = .nx ρ' ∧ I l ρ' := by
  obtain ⟨ρ', e, hi⟩ := forL_gen (gm := gm) (b := b) l.length P I hs l [] ρ1 (by simp) hP h0
  refine ⟨ρ', ?_, hi⟩
  unfold mFor
  rw [h]
  exact e
/-! ## the repeats -/
abbrev pg (n p : Nat) : D := .tup [.int ((n / p : Nat) : Int), .int (p : Int)]
abbrev rpC (w : List Nat) (n a p : Nat) : Bool := decide (n % p = 0 ∧ sl w (a + p) (n - p) = sl w a (n - p))
abbrev rps (w : List Nat) (n a : Nat) : List Nat := (List.range' 1 (n / 2)).filter (rpC w n a)
theorem okS_sl {w : List Nat} (h : okS w) (a n : Nat) : okS (sl w a n) := okS_drop h a n
theorem repeats_ok {w : List Nat} {n a : Nat} (hw : okS w) (hl : w.length ≤ 1000) (hn : 1 ≤ n) (h : a + n ≤ w.length) : m_repeats [.val (T w), .val (.int (a : Int)), .val (.int ((a + n : Nat) : Int))] = .ok (.w (.lst ((rps w n a).map (pg n)))) [] := by
  let rs := fun (acc : List D) (x : Sl) => ([.val (T w), .val (.int (a : Int)), .val (.int ((a + n : Nat) : Int)), .val (.int (n : Int)), .own false (.lst acc), x] : En)
  have e1 : b_repeats_1 [.val (T w), .val (.int (a : Int)), .val (.int ((a + n : Nat) : Int)), .un, .un, .un] = .nx [.val (T w), .val (.int (a : Int)), .val (.int ((a + n : Nat) : Int)), .val (.int (n : Int)), .un, .un] := by
    unfold b_repeats_1
    have := subN (ρ := [.val (T w), .val (.int (a : Int)), .val (.int ((a + n : Nat) : Int)), .un, .un, .un]) (ma := mVar 2) (mb := mVar 1) (show a ≤ a + n by omega) (var_val rfl) (var_val rfl)
    rw [show a + n - a = n by omega] at this
    exact set_d this rfl
  have e2 : b_repeats_2 [.val (T w), .val (.int (a : Int)), .val (.int ((a + n : Nat) : Int)), .val (.int (n : Int)), .un, .un] = .nx (rs [] .un) := by
    unfold b_repeats_2
    exact set_n nil_lst rfl
  have e3 : ∃ ρ', b_repeats_3 (rs [] .un) = .nx ρ' ∧ ∃ x, Pl x ∧ ρ' = rs ((rps w n a).map (pg n)) x := by
    have hr := rng2_n (ma := mC (.int 1)) (mb := mB dAdd (mB dDiv (mVar 3) (mC (.int 2))) (mC (.int 1))) (ρ := rs [] .un) (a := 1) (n := n / 2) rfl (by
      have := addN (divN (b := 2) (by omega) (var_val (i := 3) (d := .int (n : Int)) (ρ := rs [] .un) rfl) (cN 2)) (cN (ρ := rs [] .un) 1)
      rw [Nat.add_comm] at this
      exact this) (by omega)
    unfold b_repeats_3
    refine for_gen (gm := gN 5) hr (fun p => 1 ≤ p ∧ p ≤ n / 2) (fun pre ρ => ∃ x, Pl x ∧ ρ = rs ((pre.filter (rpC w n a)).map (pg n)) x) (fun p hp => by
      rw [List.mem_range'_1] at hp
      omega) ⟨.un, .inl rfl, rfl⟩ (fun pre p ρ hpre hp hi => by
      obtain ⟨x, hx, rfl⟩ := hi
      rw [List.length_range'] at hpre
      have hc : (mAnd (mTst (mB dEq (mB dMod (mVar 3) (mVar 5)) (mC (.int 0)))) (mTst (mB dEq (mSlS (mVar 0) (mPart (mB dAdd (mVar 1) (mVar 5))) (mPart (mVar 2))) (mSlS (mVar 0) (mPart (mVar 1)) (mPart (mB dSub (mVar 2) (mVar 5))))))) (rs ((pre.filter (rpC w n a)).map (pg n)) (.val (.int (p : Int)))) = .ok (rpC w n a p) (rs ((pre.filter (rpC w n a)).map (pg n)) (.val (.int (p : Int)))) := by
        have g1 := eqN (ρ := rs ((pre.filter (rpC w n a)).map (pg n)) (.val (.int (p : Int)))) (modN (a := n) (b := p) (by omega) (var_val (i := 3) rfl) (var_val (i := 5) rfl)) (cN 0)
        by_cases c : n % p = 0
        · rw [decide_eq_true c] at g1
          have s1 := slS_ok (ρ := rs ((pre.filter (rpC w n a)).map (pg n)) (.val (.int (p : Int)))) (m := mVar 0) (l := w) (var_val rfl) (addN (a := a) (b := p) (var_val (i := 1) rfl) (var_val (i := 5) rfl)) (var_val (i := 2) (d := .int ((a + n : Nat) : Int)) rfl) (by omega)
          have s2 := slS_ok (ρ := rs ((pre.filter (rpC w n a)).map (pg n)) (.val (.int (p : Int)))) (m := mVar 0) (l := w) (var_val rfl) (var_val (i := 1) (d := .int (a : Int)) rfl) (subN (a := a + n) (b := p) (by omega) (var_val (i := 2) rfl) (var_val (i := 5) rfl)) (by omega)
          rw [show a + n - (a + p) = n - p by omega] at s1
          rw [show a + n - p - a = n - p by omega] at s2
          have g2 := eqS (okS_sl hw (a + p) (n - p)) (okS_sl hw a (n - p)) s1 s2
          rw [show rpC w n a p = decide (sl w (a + p) (n - p) = sl w a (n - p)) from decide_eq_decide.mpr ⟨fun z => z.2, fun z => ⟨c, z⟩⟩]
          exact and_tt g1 g2
        · rw [decide_eq_false c] at g1
          rw [show rpC w n a p = false from decide_eq_false fun z => c z.1]
          exact and_ff g1
      by_cases c : rpC w n a p = true
      · rw [c] at hc
        refine ⟨_, _, gN_pl hx rfl, (if_tt hc).trans (drop_ok (append_ok rfl (tup2_ok (divN (a := n) (b := p) (by omega) (var_val (i := 3) rfl) (var_val (i := 5) rfl)) (var_val (i := 5) rfl)) rfl ?_)), .val (.int (p : Int)), .inr ⟨_, rfl⟩, ?_⟩
        · rw [List.length_map]
          exact Nat.le_trans (List.length_filter_le _ _) (by omega)
        · rw [List.filter_append, List.map_append, List.filter_cons_of_pos c]
          rfl
      · rw [Bool.eq_false_iff.mpr c] at hc
        refine ⟨_, _, gN_pl hx rfl, skip_ok hc, .val (.int (p : Int)), .inr ⟨_, rfl⟩, ?_⟩
        rw [List.filter_append, List.filter_cons_of_neg c, List.filter_nil, List.append_nil])
  obtain ⟨_, e3, x, _, rfl⟩ := e3
  unfold m_repeats
  refine mDef_rt (ρ := (rs ((rps w n a).map (pg n)) x).set 4 .un) ?_
  show b_repeats [.val (T w), .val (.int (a : Int)), .val (.int ((a + n : Nat) : Int)), .un, .un, .un] = _
  unfold b_repeats
  rw [seq_nx e1, seq_nx e2, seq_nx e3]
  rfl
end K09
set_option Elab.async false
set_option linter.all false
set_option maxRecDepth 100000
set_option maxHeartbeats 4000000
namespace K09
open PySem Mi
theorem mDef_os {n : Nat} {ios : List Nat} {b : SM} {as : List Sl} {r : RV} {ρ : En} {os : List Ow} (h : b (as ++ List.replicate (n - as.length) .un) = .rt r ρ) (ho : ioOf ios ρ = some os) : mDef n ios b as = .ok r os := by
  unfold mDef
  rw [h]
  simp only [okD, ho]
theorem js_cons {m : EM} {ms : List EM} {ρ ρ1 : En} {a b : List Nat} (h : m ρ = .ok (.d (T b)) ρ1) (hl : a.length + b.length ≤ 100000) : mJs (m :: ms) (S a) ρ = mJs ms (S (a ++ b)) ρ1 := by
  show (m ρ).bind _ = _
  rw [h]
  show (if (S a ++ S b).length ≤ BIG then mJs ms (S a ++ S b) ρ1 else .bad) = _
  rw [S_app, if_pos (by rw [S_len, List.length_append]; unfold BIG; omega)]
theorem fmt_num {m : EM} {ρ ρ1 : En} {k : Nat} (h : m ρ = .ok (.d (.int (k : Int))) ρ1) (hk : k ≤ 1000) : mFmt m ρ = .ok (.d (T (TL.numL k))) ρ1 := by
  unfold mFmt
  rw [h]
  show (if ((k : Int)).natAbs.log2 < 1920 then R.ok (OV.d (.str (toString (k : Int)))) ρ1 else .bad) = _
  have hz : ((k : Int)).natAbs.log2 < 1920 := by
    rw [Int.natAbs_natCast]
    by_cases h0 : k = 0
    · subst h0
      decide
    · have := (Nat.log2_lt h0 (k := 1920)).mpr (Nat.lt_of_le_of_lt hk (by decide +kernel))
      exact this
  rw [if_pos hz]
  exact congrArg (fun z => R.ok (OV.d (.str z)) ρ1) (S_num k)
theorem fmt_str {m : EM} {ρ ρ1 : En} {l : List Nat} (h : m ρ = .ok (.d (T l)) ρ1) (hl : l.length ≤ 100000) : mFmt m ρ = .ok (.d (T l)) ρ1 := by
  unfold mFmt
  rw [h]
  show (if (S l).length ≤ BIG then R.ok (OV.d (.str (S l))) ρ1 else .bad) = _
  rw [if_pos (by rw [S_len]; unfold BIG; omega)]
theorem c_open {ρ : En} : mC (.str "(") ρ = .ok (.d (T [40])) ρ := by
  show R.ok (OV.d (.str (Str.ofString "("))) ρ = _
  rw [lit_open]
theorem c_close {ρ : En} : mC (.str ")") ρ = .ok (.d (T [41])) ρ := by
  show R.ok (OV.d (.str (Str.ofString ")"))) ρ = _
  rw [lit_close]
theorem c_nil {ρ : En} : mC (.str "") ρ = .ok (.d (T [])) ρ := by
  show R.ok (OV.d (.str (Str.ofString ""))) ρ = _
  rw [lit_nil]
theorem ix_at {w : List Nat} {a : Nat} {m m2 : EM} {ρ ρ1 : En} (h : m ρ = .ok (.d (T w)) ρ) (h2 : m2 ρ = .ok (.d (.int (a : Int))) ρ1) (ha : a < w.length) (hl : w.length ≤ 1000) : mB dIxS m m2 ρ = .ok (.d (T [at_ w a])) ρ1 := by
  have := s_ix (a := w) (i := a) ha (by omega)
  have e : at_ w a = w[a] := by
    unfold at_
    rw [List.getD_eq_getElem?_getD, List.getElem?_eq_getElem ha]
    rfl
  rw [e]
  exact op2 h h2 this
theorem lst1_ok {m : EM} {ρ ρ1 : En} {d : D} (h : m ρ = .ok (.d d) ρ1) : mLst (mCons m mNil) ρ = .ok (.n (.lst [d])) ρ1 := by
  simp [mLst, mCons, mNil, h, R.bind, OV.fz, escs, esc, BIG]
/-- the dict holds the best texts of the shorter stretches -/
def Holds (w : List Nat) (kvs : List (List L2.Key × D)) (n : Nat) : Prop := ∀ m b, 1 ≤ m → m < n → b + m ≤ w.length → lookT kvs (ky b m) = some (T (tab w m b))
abbrev pT (w : List Nat) (n a p : Nat) : List Nat := if p = 1 then TL.numL (n / p) ++ [at_ w a] else brk (n / p) (tab w p a)
theorem pcs_eq {w : List Nat} {n a : Nat} (h : n ≠ 1) : pcs w n a = (rps w n a).map (pT w n a) := if_neg h
section
variable {w : List Nat} (hL : ∀ c ∈ w, isL c) (hl : w.length ≤ 40) {kvs : List (List L2.Key × D)} {n a : Nat}
include hL hl
theorem okW : okS w := okS_lit fun c hc => isL_sgn (hL c hc)
theorem tab_len {m b : Nat} (h1 : 1 ≤ m) (hb : b + m ≤ w.length) : (tab w m b).length ≤ 40 := (tab_ok hL h1 (by omega) hb).2.1
theorem cpieces_ok (hh : Holds w kvs n) (hn : 1 ≤ n) (h : a + n ≤ w.length) : m_call_pieces [.val (T w), .own true (.dt kvs), .val (.int (a : Int)), .val (.int ((a + n : Nat) : Int))] = .ok (.w (.lst ((pcs w n a).map T))) [.dt kvs] := by
  let cp := fun (s : Sl) (x y : Sl) => ([.val (T w), .own true (.dt kvs), .val (.int (a : Int)), .val (.int ((a + n : Nat) : Int)), s, x, y] : En)
  have g1 : mTst (mB dEq (mB dSub (mVar 3) (mVar 2)) (mC (.int 1))) (cp .un .un .un) = .ok (decide (n = 1)) (cp .un .un .un) := by
    have := eqN (subN (a := a + n) (b := a) (by omega) (var_val (ρ := cp .un .un .un) (i := 3) rfl) (var_val (i := 2) rfl)) (cN 1)
    rw [show a + n - a = n by omega] at this
    exact this
  unfold m_call_pieces
  by_cases c : n = 1
  · subst c
    refine mDef_os (ρ := cp .un .un .un) ?_ rfl
    show b_call_pieces (cp .un .un .un) = _
    have e1 : b_call_pieces_1 (cp .un .un .un) = .rt (.w (.lst [T [at_ w a]])) (cp .un .un .un) := by
      unfold b_call_pieces_1
      rw [if_tt g1]
      exact ret_n (lst1_ok (ix_at (var_val (i := 0) rfl) (var_val (i := 2) rfl) (by omega) (by omega)))
    unfold b_call_pieces
    exact seq_rt e1
  · rw [decide_eq_false c] at g1
    have e1 : b_call_pieces_1 (cp .un .un .un) = .nx (cp .un .un .un) := by
      unfold b_call_pieces_1
      exact skip_ok g1
    have e2 : b_call_pieces_2 (cp .un .un .un) = .nx (cp (.own false (.lst [])) .un .un) := by
      unfold b_call_pieces_2
      exact set_n nil_lst rfl
    have e3 : ∃ ρ', b_call_pieces_3 (cp (.own false (.lst [])) .un .un) = .nx ρ' ∧ ∃ x y, Pl x ∧ Pl y ∧ ρ' = cp (.own false (.lst ((rps w n a).map fun p => T (pT w n a p)))) x y := by
      have hr : mSeqI (mCall [] m_repeats [] (mArg (mVar 0) (mArg (mVar 2) (mArg (mVar 3) mNil)))) (cp (.own false (.lst [])) .un .un) = .ok ((rps w n a).map fun p => IV.one (pg n p)) (cp (.own false (.lst [])) .un .un) := by
        have hc : mCall [] m_repeats [] (mArg (mVar 0) (mArg (mVar 2) (mArg (mVar 3) mNil))) (cp (.own false (.lst [])) .un .un) = .ok (.n (.lst ((rps w n a).map (pg n)))) (cp (.own false (.lst [])) .un .un) :=
          call3n (var_val rfl) (var_val rfl) rfl (var_val rfl) rfl (repeats_ok (okW hL hl) (by omega) hn h)
        unfold mSeqI
        rw [hc]
        show R.ok (((rps w n a).map (pg n)).map IV.one) _ = _
        rw [List.map_map]
        rfl
      unfold b_call_pieces_3
      refine for_gen (gm := gT [5, 6]) hr (fun p => p ∈ rps w n a) (fun pre ρ => ∃ x y, Pl x ∧ Pl y ∧ ρ = cp (.own false (.lst (pre.map fun p => T (pT w n a p)))) x y) (fun p hp => hp) ⟨.un, .un, .inl rfl, .inl rfl, rfl⟩ (fun pre p ρ hpre hp hi => ?_)
      obtain ⟨x, y, hx, hy, rfl⟩ := hi
      obtain ⟨hp1, hp2⟩ := List.mem_filter.mp hp
      rw [List.mem_range'_1] at hp1
      have hpl : pre.length ≤ 1000 := by
        have h1 : (rps w n a).length ≤ n / 2 := Nat.le_trans (List.length_filter_le _ _) (Nat.le_of_eq List.length_range')
        omega
      let σ := cp (.own false (.lst (pre.map fun p => T (pT w n a p)))) (.val (.int ((n / p : Nat) : Int))) (.val (.int (p : Int)))
      have hs : gT [5, 6] (IV.one (pg n p)) (cp (.own false (.lst (pre.map fun p => T (pT w n a p)))) x y) = some σ := by
        rcases hx with rfl | ⟨v, rfl⟩ <;> rcases hy with rfl | ⟨u, rfl⟩ <;> rfl
      have hk : n / p ≤ 1000 := Nat.le_trans (Nat.div_le_self _ _) (by omega)
      have hnl : (TL.numL (n / p)).length ≤ 2 := numL_two (Nat.le_trans (Nat.div_le_self _ _) (by omega))
      have hq : mTst (mB dEq (mVar 6) (mC (.int 1))) σ = .ok (decide (p = 1)) σ := eqN (var_val (i := 6) rfl) (cN 1)
      have f1 : mFmt (mVar 5) σ = .ok (.d (T (TL.numL (n / p)))) σ := fmt_num (var_val (i := 5) rfl) hk
      by_cases cp1 : p = 1
      · rw [decide_eq_true cp1] at hq
        have hv : mJs [(mFmt (mVar 5)), (mFmt (mB dIxS (mVar 0) (mVar 2)))] Str.empty σ = .ok (.d (T (pT w n a p))) σ := by
          show mJs _ (S []) σ = _
          rw [js_cons f1 (by simp; omega), js_cons (fmt_str (ix_at (var_val (i := 0) rfl) (var_val (i := 2) rfl) (by omega) (by omega)) (by simp)) (by simp; omega), List.nil_append]
          unfold pT
          rw [if_pos cp1]
          rfl
        refine ⟨σ, _, hs, (if_tt hq).trans (drop_ok (append_ok rfl hv rfl (by rw [List.length_map]; exact hpl))), .val (.int ((n / p : Nat) : Int)), .val (.int (p : Int)), .inr ⟨_, rfl⟩, .inr ⟨_, rfl⟩, ?_⟩
        rw [List.map_append]
        rfl
      · rw [decide_eq_false cp1] at hq
        have hpn : p < n := by omega
        have hg : mGetT (mVar 1) (mCons (mVar 2) (mCons (mB dAdd (mVar 2) (mVar 6)) mNil)) σ = .ok (.d (T (tab w p a))) σ := getT_ok rfl (var_val (i := 2) rfl) (addN (a := a) (b := p) (var_val (i := 2) rfl) (var_val (i := 6) rfl)) (hh p a (by omega) hpn (by omega))
        have htl := tab_len hL hl (m := p) (b := a) (by omega) (by omega)
        have hv : mJs [(mFmt (mVar 5)), (mC (.str "(")), (mFmt (mGetT (mVar 1) (mCons (mVar 2) (mCons (mB dAdd (mVar 2) (mVar 6)) mNil)))), (mC (.str ")"))] Str.empty σ = .ok (.d (T (pT w n a p))) σ := by
          show mJs _ (S []) σ = _
          rw [js_cons f1 (by simp; omega), js_cons c_open (by simp; omega), js_cons (fmt_str hg (by omega)) (by simp; omega), js_cons c_close (by simp; omega)]
          unfold pT brk
          rw [if_neg cp1]
          show R.ok (OV.d (T _)) σ = _
          simp
        refine ⟨σ, _, hs, (if_ff hq).trans (drop_ok (append_ok rfl hv rfl (by rw [List.length_map]; exact hpl))), .val (.int ((n / p : Nat) : Int)), .val (.int (p : Int)), .inr ⟨_, rfl⟩, .inr ⟨_, rfl⟩, ?_⟩
        rw [List.map_append]
        rfl
    obtain ⟨_, e3, x, y, _, _, rfl⟩ := e3
    rw [pcs_eq c, List.map_map]
    refine mDef_os (ρ := cp .un x y) ?_ rfl
    show b_call_pieces (cp .un .un .un) = _
    unfold b_call_pieces
    rw [seq_nx e1, seq_nx e2, seq_nx e3]
    rfl
end
end K09
set_option Elab.async false
set_option linter.all false
set_option maxRecDepth 100000
set_option maxHeartbeats 4000000
namespace K09
open PySem Mi
/-! ## the least of texts -/
theorem keyLt_S (x y : List Nat) : keyLt (S x) (S y) = decide (slt x y) := by
  have hb : (S x == S y) = decide (x = y) := by
    by_cases c : x = y
    · subst c
      simp
    · rw [decide_eq_false c]
      exact beq_false_of_ne fun z => c (S_inj.mp z)
  unfold keyLt slt
  rw [S_len, S_len, hb, S_tl, S_tl]
  by_cases h1 : (x.length : Int) = y.length
  · rw [decide_eq_true h1, if_pos rfl]
    by_cases h2 : x = y
    · rw [decide_eq_true h2, if_pos rfl]
      subst h2
      refine (decide_eq_false ?_).symm
      rintro (h | ⟨_, h⟩)
      · omega
      · exact List.lt_irrefl _ h
    · rw [decide_eq_false h2, if_neg (by simp)]
      refine decide_eq_decide.mpr ⟨fun h => .inr ⟨by omega, h⟩, ?_⟩
      rintro (h | ⟨_, h⟩)
      · omega
      · exact h
  · rw [decide_eq_false h1, if_neg (by simp)]
    refine decide_eq_decide.mpr ⟨fun h => .inl (by omega), ?_⟩
    rintro (h | ⟨h, _⟩) <;> omega
theorem fold_S : ∀ (r : List (List Nat)) (x : List Nat), (r.map S).foldl pickS (S x) = S (r.foldl pickL x)
  | [], _ => rfl
  | y :: r, x => by
    rw [List.map_cons, List.foldl_cons, List.foldl_cons]
    have : pickS (S x) (S y) = S (pickL x y) := by
      unfold pickS pickL
      rw [keyLt_S]
      by_cases c : slt y x
      · rw [decide_eq_true c, if_pos rfl, if_pos c]
      · rw [decide_eq_false c, if_neg (by simp), if_neg c]
    rw [this, fold_S r]
theorem minS_S {A : List (List Nat)} (h : A ≠ []) : minS (A.map S) = some (S (mnL A)) := by
  cases A with
  | nil => exact absurd rfl h
  | cons x r => exact congrArg some (fold_S r x)
theorem minL_ok {i : Nat} {io : Bool} {ρ : En} {A : List (List Nat)} (hi : ρ[i]? = some (.own io (.lst (A.map T)))) (h : A ≠ []) (hl : ∀ x ∈ A, x.length ≤ 100000) : mMinL (mVar i) ρ = .ok (.d (T (mnL A))) ρ := by
  have e1 : mVar i ρ = .ok (.o i) ρ := by simp [mVar, hi]
  have e3 : (OB.o i).get ρ = some (.lst (A.map T)) := by simp [OB.get, hi, Ow.d]
  have e4 : strsD (A.map T) = some (A.map S) := by
    have : A.map T = (A.map S).map D.str := by rw [List.map_map]; rfl
    rw [this]
    exact strsD_of _
  unfold mMinL
  rw [e1]
  show finML (.o i) ρ = _
  unfold finML
  rw [e3]
  simp only [e4]
  rw [if_pos (List.all_eq_true.mpr fun x hx => by
    obtain ⟨y, hy, rfl⟩ := List.mem_map.mp hx
    have := hl y hy
    exact decide_eq_true (by rw [S_len]; unfold BIG; omega)), minS_S h]
/-! ## what the dicts hold -/
def Hld (w : List Nat) (f : Nat → Nat → D) (kvs : List (List L2.Key × D)) (j s : Nat) : Prop := ∀ m b, 1 ≤ m → (m < j ∨ (m = j ∧ b < s)) → b + m ≤ w.length → lookT kvs (ky b m) = some (f m b)
theorem Hld.put {w : List Nat} {f : Nat → Nat → D} {kvs : List (List L2.Key × D)} {j s : Nat} (h : Hld w f kvs j s) : Hld w f (putD kvs (ky s j) (f j s)) j (s + 1) := fun m b h1 h2 h3 => by
  rw [lookT_put]
  by_cases c : ky b m = ky s j
  · obtain ⟨rfl, rfl⟩ := ky_inj.mp c
    rw [if_pos rfl]
  · rw [if_neg c]
    refine h m b h1 ?_ h3
    rcases h2 with h2 | ⟨rfl, h2⟩
    · exact .inl h2
    · refine .inr ⟨rfl, ?_⟩
      rcases Nat.lt_or_ge b s with z | z
      · exact z
      · exact absurd (by rw [show b = s by omega]) c
theorem Hld.next {w : List Nat} {f : Nat → Nat → D} {kvs : List (List L2.Key × D)} {j s : Nat} (h : Hld w f kvs j s) (hs : w.length < j + s) : Hld w f kvs (j + 1) 0 := fun m b h1 h2 h3 => by
  refine h m b h1 ?_ h3
  rcases h2 with h2 | ⟨_, h2⟩
  · rcases Nat.lt_or_ge m j with z | z
    · exact .inl z
    · exact .inr ⟨by omega, by omega⟩
  · omega
def tbD (w : List Nat) (m b : Nat) : D := T (tab w m b)
def pcD (w : List Nat) (m b : Nat) : D := match pc w m b with
  | none => .non
  | some q => T q
theorem Hld.holds {w : List Nat} {kvs : List (List L2.Key × D)} {j s : Nat} (h : Hld w (tbD w) kvs j s) : Holds w kvs j := fun m b h1 h2 h3 => h m b h1 (.inl h2) h3
section
variable {w : List Nat} (hL : ∀ c ∈ w, isL c) (hl : w.length ≤ 40)
include hL hl
theorem pcs_len {n a : Nat} (hn : 1 ≤ n) (h : a + n ≤ w.length) {q : List Nat} (hq : q ∈ pcs w n a) : q.length ≤ 50 := by
  by_cases c : n = 1
  · subst c
    have : q = [at_ w a] := List.mem_singleton.mp hq
    rw [this]
    simp
  · obtain ⟨p, p1, p2, _, rfl⟩ := pcs_cases h (by omega) hq
    have hk := numL_two (k := n / p) (Nat.le_trans (Nat.div_le_self _ _) (by omega))
    by_cases c1 : p = 1
    · rw [if_pos c1, List.length_append, List.length_singleton]
      omega
    · rw [if_neg c1]
      have ht := tab_len hL hl (m := p) (b := a) p1 (by omega)
      unfold brk
      simp only [List.length_append, List.length_cons, List.length_nil]
      omega
theorem told_len {n a : Nat} (hn : 1 ≤ n) (h : a + n ≤ w.length) {q : List Nat} (hq : q ∈ told w n a) : q.length ≤ 100 := by
  rcases told_cases hq with ⟨m, q, m1, m2, e, rfl⟩ | e
  · have h1 := pcs_len hL hl (n := m) (a := a) m1 (by omega) (pc_mem e)
    have h2 := tab_len hL hl (m := n - m) (b := a + m) (by omega) (by omega)
    rw [List.length_append]
    omega
  · have := pcs_len hL hl hn h (pc_mem e)
    omega
theorem best_ok {kb kp : List (List L2.Key × D)} {n a : Nat} (hb : Holds w kb n) (hp : ∀ m, 1 ≤ m → m ≤ n → lookT kp (ky a m) = some (pcD w m a)) (hn : 1 ≤ n) (h : a + n ≤ w.length) :
    m_best_row [.own true (.dt kb), .own true (.dt kp), .val (T []), .val (.int (a : Int)), .val (.int ((a + n : Nat) : Int))] = .ok (.v (T (tab w n a))) [.dt kb, .dt kp] := by
  let br := fun (s x : Sl) => ([.own true (.dt kb), .own true (.dt kp), .val (T []), .val (.int (a : Int)), .val (.int ((a + n : Nat) : Int)), s, x] : En)
  let cut := fun (m : Nat) => (pc w m a).map (· ++ tab w (n - m) (a + m))
  have e1 : b_best_row_1 (br .un .un) = .nx (br (.own false (.lst [])) .un) := by
    unfold b_best_row_1
    exact set_n nil_lst rfl
  have e2 : ∃ ρ', b_best_row_2 (br (.own false (.lst [])) .un) = .nx ρ' ∧ ∃ x, Pl x ∧ ρ' = br (.own false (.lst (((List.range' 1 (n - 1)).filterMap cut).map T))) x := by
    have hr : mRng2 (mB dAdd (mVar 3) (mC (.int 1))) (mVar 4) (br (.own false (.lst [])) .un) = .ok ((List.range' 1 (n - 1)).map fun (m : Nat) => IV.one (.int ((a + m : Nat) : Int))) (br (.own false (.lst [])) .un) := by
      have r0 := rng2_e (ma := mB dAdd (mVar 3) (mC (.int 1))) (mb := mVar 4) (ρ := br (.own false (.lst [])) .un) (a := a + 1) (b := a + n) (addN (a := a) (b := 1) (var_val (i := 3) rfl) (cN 1)) (var_val (i := 4) rfl) (by omega)
      rw [show a + n - (a + 1) = n - 1 by omega] at r0
      refine r0.trans (congrArg (fun z => R.ok z _) ?_)
      rw [List.range'_eq_map_range, List.range'_eq_map_range, List.map_map, List.map_map]
      refine List.map_congr_left fun i _ => ?_
      show IV.one (.int ((a + 1 + i : Nat) : Int)) = IV.one (.int ((a + (1 + i) : Nat) : Int))
      rw [Nat.add_assoc]
    unfold b_best_row_2
    refine for_gen (gm := gN 6) hr (fun m => 1 ≤ m ∧ m < n) (fun pre ρ => ∃ x, Pl x ∧ ρ = br (.own false (.lst ((pre.filterMap cut).map T))) x) (fun m hm => mem_r.mp hm) ⟨.un, .inl rfl, rfl⟩ (fun pre m ρ hpre hm hi => ?_)
    obtain ⟨x, hx, rfl⟩ := hi
    rw [List.length_range'] at hpre
    let σ := br (.own false (.lst ((pre.filterMap cut).map T))) (.val (.int ((a + m : Nat) : Int)))
    have hpl : ((pre.filterMap cut).map T).length ≤ 1000 := by
      rw [List.length_map]
      exact Nat.le_trans (List.length_filterMap_le _ _) (by omega)
    have hg : mGetT (mVar 1) (mCons (mVar 3) (mCons (mVar 6) mNil)) σ = .ok (.d (pcD w m a)) σ := getT_ok rfl (var_val (i := 3) rfl) (var_val (i := 6) rfl) (hp m hm.1 (by omega))
    cases q : pc w m a with
    | none =>
      have e : pcD w m a = .non := by unfold pcD; rw [q]
      rw [e] at hg
      refine ⟨σ, _, gN_pl hx rfl, skip_ok (tst_ok (op2 hg rfl (show dIsA true .non .non = some (.bl false) from rfl))), .val (.int ((a + m : Nat) : Int)), .inr ⟨_, rfl⟩, ?_⟩
      have : cut m = none := by show (pc w m a).map _ = _; rw [q]; rfl
      rw [List.filterMap_append, List.filterMap_cons_none this, List.filterMap_nil, List.append_nil]
    | some z =>
      have e : pcD w m a = T z := by unfold pcD; rw [q]
      rw [e] at hg
      have hz := pcs_len hL hl (n := m) (a := a) hm.1 (by omega) (pc_mem q)
      have ht := tab_len hL hl (m := n - m) (b := a + m) (by omega) (by omega)
      have g2 : mGetT (mVar 0) (mCons (mVar 6) (mCons (mVar 4) mNil)) σ = .ok (.d (T (tab w (n - m) (a + m)))) σ := by
        refine getT_ok rfl (var_val (i := 6) rfl) (var_val (i := 4) rfl) ?_
        have := hb (n - m) (a + m) (by omega) (by omega) (by omega)
        rw [show ky (a + m) (n - m) = [.inl ((a + m : Nat) : Int), .inl ((a + n : Nat) : Int)] by unfold ky; rw [show a + m + (n - m) = a + n by omega]] at this
        exact this
      have g3 : mB dAdd (mB dAdd (mGetT (mVar 1) (mCons (mVar 3) (mCons (mVar 6) mNil))) (mVar 2)) (mGetT (mVar 0) (mCons (mVar 6) (mCons (mVar 4) mNil))) σ = .ok (.d (T (z ++ tab w (n - m) (a + m)))) σ := by
        have k1 : mB dAdd (mGetT (mVar 1) (mCons (mVar 3) (mCons (mVar 6) mNil))) (mVar 2) σ = .ok (.d (T z)) σ := by
          have := op2 (g := dAdd) hg (var_val (i := 2) (d := T []) rfl) (s_add (a := z) (b := []) (by unfold BIG; simp; omega))
          rw [List.append_nil] at this
          exact this
        exact op2 k1 g2 (s_add (by unfold BIG; omega))
      refine ⟨σ, _, gN_pl hx rfl, (if_tt (tst_ok (op2 hg rfl (show dIsA true (T z) .non = some (.bl true) from rfl)))).trans (drop_ok (append_ok rfl g3 rfl hpl)), .val (.int ((a + m : Nat) : Int)), .inr ⟨_, rfl⟩, ?_⟩
      have : cut m = some (z ++ tab w (n - m) (a + m)) := by show (pc w m a).map _ = _; rw [q]; rfl
      rw [List.filterMap_append, List.filterMap_cons_some this, List.filterMap_nil, List.map_append]
      rfl
  obtain ⟨_, e2, x, hx, rfl⟩ := e2
  have hpl : (((List.range' 1 (n - 1)).filterMap cut).map T).length ≤ 1000 := by
    rw [List.length_map]
    exact Nat.le_trans (List.length_filterMap_le _ _) (by rw [List.length_range']; omega)
  have e3 : b_best_row_3 (br (.own false (.lst (((List.range' 1 (n - 1)).filterMap cut).map T))) x) = .nx (br (.own false (.lst ((told w n a).map T))) x) := by
    have hg : mGetT (mVar 1) (mCons (mVar 3) (mCons (mVar 4) mNil)) (br (.own false (.lst (((List.range' 1 (n - 1)).filterMap cut).map T))) x) = .ok (.d (pcD w n a)) (br (.own false (.lst (((List.range' 1 (n - 1)).filterMap cut).map T))) x) := getT_ok rfl (var_val (i := 3) rfl) (var_val (i := 4) rfl) (hp n hn (Nat.le_refl n))
    unfold b_best_row_3
    cases q : pc w n a with
    | none =>
      have e : pcD w n a = .non := by unfold pcD; rw [q]
      rw [e] at hg
      have et : told w n a = (List.range' 1 (n - 1)).filterMap cut := by unfold told; rw [q]; simp [cut]
      rw [et]
      exact skip_ok (tst_ok (op2 hg rfl (show dIsA true .non .non = some (.bl false) from rfl)))
    | some z =>
      have e : pcD w n a = T z := by unfold pcD; rw [q]
      rw [e] at hg
      have et : told w n a = (List.range' 1 (n - 1)).filterMap cut ++ [z] := by unfold told; rw [q]; rfl
      rw [et, List.map_append]
      exact (if_tt (tst_ok (op2 hg rfl (show dIsA true (T z) .non = some (.bl true) from rfl)))).trans (drop_ok (append_ok rfl hg rfl hpl))
  obtain ⟨hne, ht⟩ := told_tab w n a hn h
  unfold m_best_row
  refine mDef_os (ρ := br (.own false (.lst ((told w n a).map T))) x) ?_ rfl
  show b_best_row (br .un .un) = _
  unfold b_best_row
  rw [seq_nx e1, seq_nx e2, seq_nx e3]
  unfold b_best_row_4
  rw [← ht]
  exact mRet_d (minL_ok rfl hne fun q hq => Nat.le_trans (told_len hL hl hn h hq) (by omega))
end
end K09
set_option Elab.async false
set_option linter.all false
set_option maxRecDepth 100000
set_option maxHeartbeats 4000000
namespace K09
open PySem Mi
theorem callV4 {f : List Sl → DR} {ma mb mc : EM} {ρ : En} {i k : Nat} {y : Str} {io : Bool} {w w' o : Ow} {a b c : D} (h : ρ[i]? = some (.val (.fn y))) (ha : ma ρ = .ok (.d a) ρ) (hk : ρ[k]? = some (.own io w)) (hb : mb ρ = .ok (.d b) ρ) (hc : mc ρ = .ok (.d c) ρ) (hf : f [.val a, .own true w, .val b, .val c] = .ok (.w o) [w']) :
    mCallV i y [1] f (mArg ma (mLend k (mArg mb (mArg mc mNil)))) ρ = .ok (.n o) (ρ.set k (.own io w')) := by
  simp [mCallV, h, mCall, mArg, mLend, mNil, ha, hk, hb, hc, isOw, R.bind, OV.fz, esc, toArgs, ioPos, ioSl, hf, putO, rvOV]
theorem call01 {f : List Sl → DR} {ma mb mc : EM} {ρ : En} {i k : Nat} {io jo : Bool} {w u w' u' : Ow} {a b c r : D} (hne : i ≠ k) (hi : ρ[i]? = some (.own io w)) (hk : ρ[k]? = some (.own jo u)) (ha : ma ρ = .ok (.d a) ρ) (hb : mb ρ = .ok (.d b) ρ) (hc : mc ρ = .ok (.d c) ρ) (hf : f [.own true w, .own true u, .val a, .val b, .val c] = .ok (.v r) [w', u']) :
    mCall [0, 1] f [] (mLend i (mLend k (mArg ma (mArg mb (mArg mc mNil))))) ρ = .ok (.d r) ((ρ.set i (.own io w')).set k (.own jo u')) := by
  have h2 : (ρ.set i (.own io w'))[k]? = some (.own jo u) := by
    rw [List.getElem?_set_ne hne]
    exact hk
  simp [mCall, mArg, mLend, mNil, hi, hk, ha, hb, hc, isOw, R.bind, OV.fz, esc, toArgs, ioPos, ioSl, hf, putO, rvOV, h2, hne]
theorem tru_ok {i : Nat} {io : Bool} {ρ : En} {ds : List D} (hi : ρ[i]? = some (.own io (.lst ds))) : mTru (mVar i) ρ = .ok (!ds.isEmpty) ρ := by
  have e1 : mVar i ρ = .ok (.o i) ρ := by simp [mVar, hi]
  have e3 : (OB.o i).get ρ = some (.lst ds) := by simp [OB.get, hi, Ow.d]
  unfold mTru
  rw [e1]
  show finTru (.o i) ρ = _
  unfold finTru
  rw [e3]
theorem cs_set {s : Sl} (h : Cs s) {ρ : En} {i : Nat} (hi : ρ[i]? = some s) : canSet ρ i = true := by
  unfold canSet
  rw [hi]
  rcases h with rfl | ⟨v, rfl⟩ | ⟨o, rfl⟩ <;> rfl
theorem len_T {w : List Nat} {i : Nat} {ρ : En} (h : ρ[i]? = some (.val (T w))) (hl : w.length ≤ 100000) : mCB (g1 dLen) (mCons (mVar i) mNil) ρ = .ok (.d (.int (w.length : Int))) ρ := cb1 (g := dLen) (var_val h) (s_len (by unfold BIG; omega))
section
variable {w : List Nat} (hL : ∀ c ∈ w, isL c) (hl : w.length ≤ 40)
include hL hl
theorem folded_ok (h1 : 1 ≤ w.length) : m_folded [.val (T w), .val (T []), .val (.fn "call_pieces")] = .ok (.v (T (tab w w.length 0))) [] := by
  let fo := fun (kb kp : List (List L2.Key × D)) (x5 x6 x7 x8 : Sl) => ([.val (T w), .val (T []), .val (.fn "call_pieces"), .own false (.dt kb), .own false (.dt kp), x5, x6, x7, x8] : En)
  have e1 : b_folded_1 [.val (T w), .val (T []), .val (.fn "call_pieces"), .un, .un, .un, .un, .un, .un] = .nx [.val (T w), .val (T []), .val (.fn "call_pieces"), .own false (.dt []), .un, .un, .un, .un, .un] := by
    unfold b_folded_1
    exact set_n rfl rfl
  have e2 : b_folded_2 [.val (T w), .val (T []), .val (.fn "call_pieces"), .own false (.dt []), .un, .un, .un, .un, .un] = .nx (fo [] [] .un .un .un .un) := by
    unfold b_folded_2
    exact set_n rfl rfl
  have e3 : ∃ ρ', b_folded_3 (fo [] [] .un .un .un .un) = .nx ρ' ∧ ∃ kb kp x5 x6 x7 x8, Hld w (tbD w) kb (w.length + 1) 0 ∧ Hld w (pcD w) kp (w.length + 1) 0 ∧ kb.length ≤ 41 * (w.length + 1) ∧ kp.length ≤ 41 * (w.length + 1) ∧ Pl x5 ∧ Pl x6 ∧ Pl x7 ∧ Cs x8 ∧ ρ' = fo kb kp x5 x6 x7 x8 := by
    have hr := rng2_e (ma := mC (.int 1)) (mb := mB dAdd (mCB (g1 dLen) (mCons (mVar 0) mNil)) (mC (.int 1))) (ρ := fo [] [] .un .un .un .un) (a := 1) (b := w.length + 1) rfl (addN (len_T rfl (by omega)) (cN 1)) (by omega)
    rw [show w.length + 1 - 1 = w.length by omega] at hr
    unfold b_folded_3
    have fr := for_rng (v := 5) (b := mFor (mRng1 (mB dAdd (mB dSub (mCB (g1 dLen) (mCons (mVar 0) mNil)) (mVar 5)) (mC (.int 1)))) (gN 6) (mSeq (mSet 7 (mB dAdd (mVar 6) (mVar 5))) (mSeq (mSet 8 (mCallV 2 "call_pieces" [1] m_call_pieces (mArg (mVar 0) (mLend 3 (mArg (mVar 6) (mArg (mVar 7) mNil)))))) (mSeq (mPutT 4 (mCons (mVar 6) (mCons (mVar 7) mNil)) (mIf (mTru (mVar 8)) (mMinL (mVar 8)) (mC .non))) (mPutT 3 (mCons (mVar 6) (mCons (mVar 7) mNil)) (mCall [0, 1] m_best_row [] (mLend 3 (mLend 4 (mArg (mVar 1) (mArg (mVar 6) (mArg (mVar 7) mNil))))))))))) hr
      (fun j ρ => ∃ kb kp x5 x6 x7 x8, Hld w (tbD w) kb j 0 ∧ Hld w (pcD w) kp j 0 ∧ kb.length ≤ 41 * j ∧ kp.length ≤ 41 * j ∧ Pl x5 ∧ Pl x6 ∧ Pl x7 ∧ Cs x8 ∧ ρ = fo kb kp x5 x6 x7 x8)
      ⟨[], [], .un, .un, .un, .un, fun m b h1 h2 _ => by omega, fun m b h1 h2 _ => by omega, by simp, by simp, .inl rfl, .inl rfl, .inl rfl, .inl rfl, rfl⟩ (fun j ρ j1 j2 hi => ?_)
    · rw [Nat.add_comm 1] at fr
      exact fr
    obtain ⟨kb, kp, x5, x6, x7, x8, hb, hp, lb, lp, p5, p6, p7, c8, rfl⟩ := hi
    have hr2 := rng1' (me := mB dAdd (mB dSub (mCB (g1 dLen) (mCons (mVar 0) mNil)) (mVar 5)) (mC (.int 1))) (ρ := fo kb kp (.val (.int (j : Int))) x6 x7 x8) (n := w.length - j + 1) (by omega) (addN (subN (a := w.length) (b := j) (by omega) (len_T rfl (by omega)) (var_val (i := 5) rfl)) (cN 1))
    obtain ⟨ρ', e, kb', kp', y6, y7, y8, hb', hp', lb', lp', q6, q7, d8, rfl⟩ := for_rng (v := 6) (b := (mSeq (mSet 7 (mB dAdd (mVar 6) (mVar 5))) (mSeq (mSet 8 (mCallV 2 "call_pieces" [1] m_call_pieces (mArg (mVar 0) (mLend 3 (mArg (mVar 6) (mArg (mVar 7) mNil)))))) (mSeq (mPutT 4 (mCons (mVar 6) (mCons (mVar 7) mNil)) (mIf (mTru (mVar 8)) (mMinL (mVar 8)) (mC .non))) (mPutT 3 (mCons (mVar 6) (mCons (mVar 7) mNil)) (mCall [0, 1] m_best_row [] (mLend 3 (mLend 4 (mArg (mVar 1) (mArg (mVar 6) (mArg (mVar 7) mNil))))))))))) hr2
      (fun s ρ => ∃ kb kp x6 x7 x8, Hld w (tbD w) kb j s ∧ Hld w (pcD w) kp j s ∧ kb.length ≤ 41 * j + s ∧ kp.length ≤ 41 * j + s ∧ Pl x6 ∧ Pl x7 ∧ Cs x8 ∧ ρ = fo kb kp (.val (.int (j : Int))) x6 x7 x8)
      ⟨kb, kp, x6, x7, x8, hb, hp, lb, lp, p6, p7, c8, rfl⟩ (fun s ρ s1 s2 hi => by
        obtain ⟨kb, kp, x6, x7, x8, hb, hp, lb, lp, p6, p7, c8, rfl⟩ := hi
        have hs : s + j ≤ w.length := by omega
        have t1 : mSet 7 (mB dAdd (mVar 6) (mVar 5)) (fo kb kp (.val (.int (j : Int))) (.val (.int (s : Int))) x7 x8) = .nx (fo kb kp (.val (.int (j : Int))) (.val (.int (s : Int))) (.val (.int ((s + j : Nat) : Int))) x8) :=
          set_d (addN (var_val (i := 6) rfl) (var_val (i := 5) rfl)) (pl_set p7 rfl)
        have t2 : mSet 8 (mCallV 2 "call_pieces" [1] m_call_pieces (mArg (mVar 0) (mLend 3 (mArg (mVar 6) (mArg (mVar 7) mNil))))) (fo kb kp (.val (.int (j : Int))) (.val (.int (s : Int))) (.val (.int ((s + j : Nat) : Int))) x8) = .nx (fo kb kp (.val (.int (j : Int))) (.val (.int (s : Int))) (.val (.int ((s + j : Nat) : Int))) (.own false (.lst ((pcs w j s).map T)))) :=
          set_n (callV4 (i := 2) (k := 3) rfl (var_val (i := 0) rfl) rfl (var_val (i := 6) rfl) (var_val (i := 7) rfl) (cpieces_ok hL hl hb.holds j1 hs)) (cs_set c8 rfl)
        let σ := fo kb kp (.val (.int (j : Int))) (.val (.int (s : Int))) (.val (.int ((s + j : Nat) : Int))) (.own false (.lst ((pcs w j s).map T)))
        have t3v : mIf (mTru (mVar 8)) (mMinL (mVar 8)) (mC .non) σ = .ok (.d (pcD w j s)) σ := by
          rw [if_d (tru_ok (i := 8) rfl)]
          by_cases c : pcs w j s = []
          · have e : pcD w j s = .non := by unfold pcD pc; rw [if_pos c]
            rw [c, e]
            rfl
          · have e : pcD w j s = T (mnL (pcs w j s)) := by unfold pcD pc; rw [if_neg c]
            have e2 : (!((pcs w j s).map T).isEmpty) = true := by
              cases q : pcs w j s with
              | nil => exact absurd q c
              | cons z r => rfl
            rw [e2, if_pos rfl, e]
            exact minL_ok (i := 8) rfl c fun q hq => Nat.le_trans (pcs_len hL hl j1 hs hq) (by omega)
        have t3 : mPutT 4 (mCons (mVar 6) (mCons (mVar 7) mNil)) (mIf (mTru (mVar 8)) (mMinL (mVar 8)) (mC .non)) σ = .nx (fo kb (putD kp (ky s j) (pcD w j s)) (.val (.int (j : Int))) (.val (.int (s : Int))) (.val (.int ((s + j : Nat) : Int))) (.own false (.lst ((pcs w j s).map T)))) :=
          putT_ok t3v rfl (var_val (i := 6) rfl) (var_val (i := 7) rfl) (by unfold BIG; omega)
        have hp' := hp.put (j := j) (s := s)
        have t4v := call01 (f := m_best_row) (i := 3) (k := 4) (ρ := fo kb (putD kp (ky s j) (pcD w j s)) (.val (.int (j : Int))) (.val (.int (s : Int))) (.val (.int ((s + j : Nat) : Int))) (.own false (.lst ((pcs w j s).map T)))) (by decide) rfl rfl (var_val (i := 1) rfl) (var_val (i := 6) rfl) (var_val (i := 7) rfl) (best_ok hL hl hb.holds (fun m m1 m2 => hp' m s m1 (by omega) (by omega)) j1 hs)
        have t4 : mPutT 3 (mCons (mVar 6) (mCons (mVar 7) mNil)) (mCall [0, 1] m_best_row [] (mLend 3 (mLend 4 (mArg (mVar 1) (mArg (mVar 6) (mArg (mVar 7) mNil)))))) (fo kb (putD kp (ky s j) (pcD w j s)) (.val (.int (j : Int))) (.val (.int (s : Int))) (.val (.int ((s + j : Nat) : Int))) (.own false (.lst ((pcs w j s).map T)))) = .nx (fo (putD kb (ky s j) (T (tab w j s))) (putD kp (ky s j) (pcD w j s)) (.val (.int (j : Int))) (.val (.int (s : Int))) (.val (.int ((s + j : Nat) : Int))) (.own false (.lst ((pcs w j s).map T)))) :=
          putT_ok t4v rfl (var_val (i := 6) rfl) (var_val (i := 7) rfl) (by unfold BIG; omega)
        refine ⟨_, _, gN_pl p6 rfl, (seq_nx t1).trans ((seq_nx t2).trans ((seq_nx t3).trans t4)), _, _, _, _, _, hb.put, hp', ?_, ?_, .inr ⟨_, rfl⟩, .inr ⟨_, rfl⟩, .inr (.inr ⟨_, rfl⟩), rfl⟩
        · have := putD_len kb (ky s j) (tbD w j s)
          omega
        · have := putD_len kp (ky s j) (pcD w j s)
          omega)
    exact ⟨_, _, gN_pl p5 rfl, e, _, _, _, _, _, _, hb'.next (by omega), hp'.next (by omega), by omega, by omega, .inr ⟨_, rfl⟩, q6, q7, d8, rfl⟩
  obtain ⟨_, e3, kb, kp, x5, x6, x7, x8, hb, _, _, _, _, _, _, _, rfl⟩ := e3
  unfold m_folded
  refine mDef_rt (ρ := fo kb kp x5 x6 x7 x8) ?_
  show b_folded [.val (T w), .val (T []), .val (.fn "call_pieces"), .un, .un, .un, .un, .un, .un] = _
  unfold b_folded
  rw [seq_nx e1, seq_nx e2, seq_nx e3]
  unfold b_folded_4
  have := hb w.length 0 h1 (.inl (by omega)) (by omega)
  refine mRet_d (getT_ok (a := ((0 : Nat) : Int)) (b := (w.length : Int)) rfl rfl (len_T rfl (by omega)) ?_)
  rw [show ky 0 w.length = [.inl ((0 : Nat) : Int), .inl (w.length : Int)] by unfold ky; rw [Nat.zero_add]] at this
  exact this
end
end K09
set_option Elab.async false
set_option linter.all false
set_option maxRecDepth 100000
set_option maxHeartbeats 4000000
namespace K09
open PySem Mi
theorem lit_a : Str.ofString "a" = S [97] := by decide +kernel
theorem lit_z : Str.ofString "z" = S [122] := by decide +kernel
theorem mC_s {x : Str} {l : List Nat} (h : x = S l) {ρ : En} : mC (.str x) ρ = .ok (.d (T l)) ρ := by rw [h]; rfl
theorem is1 {c : Nat} : m_is_letter [.val (T [c])] = .ok (.v (.bl (decide (97 ≤ c ∧ c ≤ 122)))) [] := by
  unfold m_is_letter
  refine mDef_rt (ρ := [.val (T [c])]) ?_
  show b_is_letter [.val (T [c])] = _
  unfold b_is_letter
  refine mRet_d (andV_tt (isi_ok (t := tst_str) (b := true) (var_val (i := 0) rfl) rfl) (andV_tt (op2 (g := dEq) (cb1 (g := dLen) (var_val (i := 0) rfl) (s_len (a := [c]) (by unfold BIG; simp))) rfl (z := .bl true) ?_) ?_))
  · rw [e_int]
    rfl
  · unfold mChain
    rw [mC_s lit_a]
    simp only [R.bind]
    rw [var_val (i := 0) (d := T [c]) rfl]
    simp only [R.bind, OV.fz]
    have h1 : opD (dOr dLe dLeS) (.d (T [97])) (.d (T [c])) [.val (T [c])] = some (.bl (decide (97 ≤ c))) := by
      show (dOr dLe dLeS) (T [97]) (T [c]) = _
      unfold dOr
      have h0 : dLe (T [97]) (T [c]) = none := rfl
      rw [h0]
      exact s_le1
    rw [h1]
    by_cases k : 97 ≤ c
    · rw [decide_eq_true k]
      simp only []
      rw [mC_s lit_z]
      simp only [R.bind]
      have h2 : (dOr dLe dLeS) (T [c]) (T [122]) = some (.bl (decide (c ≤ 122))) := by
        unfold dOr
        have h0 : dLe (T [c]) (T [122]) = none := rfl
        rw [h0]
        exact s_le1
      show (match (dOr dLe dLeS) (T [c]) (T [122]) with | some z => R.ok (OV.d z) _ | none => .bad) = _
      rw [h2]
      simp [k]
    · rw [decide_eq_false k]
      simp [k]
/-! ### folding -/
abbrev XB (k : Int) : Xc := ⟨"BadCalling", [("number", .int k)]⟩
abbrev XL (k : Int) : Xc := ⟨"TooLong", [("number", .int k)]⟩
noncomputable abbrev fB : SM := mIfS (mNot (mTst (mCall [] m_is_letter [] (mArg (mVar 2) mNil)))) (mRaise "BadCalling" "number" (mCons (mVar 1) mNil)) mNext
theorem fB_ok {d : D} {k : Nat} {c : Nat} (h : isL c) : fB [.val d, .val (.int (k : Int)), .val (T [c])] = .nx [.val d, .val (.int (k : Int)), .val (T [c])] := by
  have := call1 (f := m_is_letter) (ρ := [.val d, .val (.int (k : Int)), .val (T [c])]) (v := .d (T [c])) (var_val (i := 2) rfl) rfl is1
  rw [decide_eq_true (show 97 ≤ c ∧ c ≤ 122 from h)] at this
  exact skip_ok (not_ok (tst_ok this))
theorem fB_bad {d : D} {k : Nat} {c : Nat} (h : ¬ isL c) : fB [.val d, .val (.int (k : Int)), .val (T [c])] = .ex (XB k) [.val d, .val (.int (k : Int)), .val (T [c])] := by
  have := call1 (f := m_is_letter) (ρ := [.val d, .val (.int (k : Int)), .val (T [c])]) (v := .d (T [c])) (var_val (i := 2) rfl) rfl is1
  rw [decide_eq_false (show ¬(97 ≤ c ∧ c ≤ 122) from h)] at this
  exact (if_tt (not_ok (tst_ok this))).trans rfl
theorem gT_pl {d : D} {x y : Sl} (hx : Pl x) (hy : Pl y) {k : Nat} {e : D} : gT [1, 2] (.pair (.int (k : Int)) e) [.val d, x, y] = some [.val d, .val (.int (k : Int)), .val e] := by
  rcases hx with rfl | ⟨v, rfl⟩ <;> rcases hy with rfl | ⟨u, rfl⟩ <;> rfl
theorem enum_ok {d : D} : ∀ (v : List Nat) (k : Nat) (x y : Sl), (∀ c ∈ v, isL c) → Pl x → Pl y → ∃ x' y', mForL (gT [1, 2]) fB (enumL k (v.map fun c => T [c])) [.val d, x, y] = .nx [.val d, x', y']
  | [], _, x, y, _, _, _ => ⟨x, y, rfl⟩
  | c :: v, k, x, y, h, hx, hy => by
    obtain ⟨x', y', e⟩ := enum_ok (d := d) v (k + 1) (.val (.int (k : Int))) (.val (T [c])) (fun e he => h e (List.mem_cons_of_mem _ he)) (.inr ⟨_, rfl⟩) (.inr ⟨_, rfl⟩)
    refine ⟨x', y', ?_⟩
    rw [List.map_cons]
    unfold enumL mForL
    rw [gT_pl hx hy]
    simp only [fB_ok (d := d) (k := k) (h c (List.mem_cons_self ..))]
    exact e
theorem enum_bad {d : D} {c : Nat} {r : List Nat} (hc : ¬ isL c) : ∀ (u : List Nat) (k : Nat) (x y : Sl), (∀ e ∈ u, isL e) → Pl x → Pl y → ∃ ρ, mForL (gT [1, 2]) fB (enumL k ((u ++ c :: r).map fun c => T [c])) [.val d, x, y] = .ex (XB ((k + u.length : Nat) : Int)) ρ
  | [], k, x, y, _, hx, hy => by
    refine ⟨[.val d, .val (.int (k : Int)), .val (T [c])], ?_⟩
    rw [List.nil_append, List.map_cons]
    unfold enumL mForL
    rw [gT_pl hx hy]
    simp only [fB_bad (d := d) (k := k) hc]
    rfl
  | e :: u, k, x, y, h, hx, hy => by
    obtain ⟨ρ, q⟩ := enum_bad (d := d) (r := r) hc u (k + 1) (.val (.int (k : Int))) (.val (T [e])) (fun z hz => h z (List.mem_cons_of_mem _ hz)) (.inr ⟨_, rfl⟩) (.inr ⟨_, rfl⟩)
    refine ⟨ρ, ?_⟩
    rw [List.cons_append, List.map_cons]
    unfold enumL mForL
    rw [gT_pl hx hy]
    simp only [fB_ok (d := d) (k := k) (h e (List.mem_cons_self ..))]
    rw [show k + (e :: u).length = k + 1 + u.length by rw [List.length_cons]; omega]
    exact q
theorem f2_step {w : List Nat} {r : SR} (h : mForL (gT [1, 2]) fB (enumL 0 (w.map fun c => T [c])) [.val (T w), .un, .un] = r) : b_fold_calling_2 [.val (T w), .un, .un] = r := by
  unfold b_fold_calling_2
  have e : mEnumS (mVar 0) [.val (T w), .un, .un] = .ok (enumL 0 (w.map fun c => T [c])) [.val (T w), .un, .un] := rfl
  unfold mFor
  rw [e]
  exact h
theorem f1_str {w : List Nat} : b_fold_calling_1 [.val (T w), .un, .un] = .nx [.val (T w), .un, .un] := by
  unfold b_fold_calling_1
  exact skip_ok (not_ok (tst_ok (isi_ok (x := T w) (b := true) (var_val (i := 0) rfl) rfl)))
theorem fold_non {d : D} (h : tst_str.of d = some false) : m_fold_calling [.val d] = .ex (XB (-1)) [] := by
  unfold m_fold_calling
  refine mDef_ex (ρ := [.val d, .un, .un]) ?_
  show b_fold_calling [.val d, .un, .un] = _
  unfold b_fold_calling
  refine seq_x ?_
  unfold b_fold_calling_1
  rw [if_tt (not_ok (tst_ok (isi_ok (x := d) (b := false) (var_val (i := 0) rfl) h)))]
  rfl
theorem fold_bad {u r : List Nat} {c : Nat} (hu : ∀ e ∈ u, isL e) (hc : ¬ isL c) : m_fold_calling [.val (T (u ++ c :: r))] = .ex (XB (u.length : Int)) [] := by
  obtain ⟨ρ, q⟩ := enum_bad (d := T (u ++ c :: r)) (r := r) hc u 0 .un .un hu (.inl rfl) (.inl rfl)
  rw [Nat.zero_add] at q
  unfold m_fold_calling
  refine mDef_ex (ρ := ρ) ?_
  show b_fold_calling [.val (T (u ++ c :: r)), .un, .un] = _
  unfold b_fold_calling
  rw [seq_nx f1_str]
  exact seq_x (f2_step q)
section
variable {w : List Nat} (hL : ∀ c ∈ w, isL c)
include hL
theorem gt_len {x y : Sl} (hl : w.length ≤ 100000) : mTst (mB dGt (mCB (g1 dLen) (mCons (mVar 0) mNil)) (mC (.int 40))) [.val (T w), x, y] = .ok (decide (40 < w.length)) [.val (T w), x, y] := by
  have := gt_i (ρ := [.val (T w), x, y]) (ma := mCB (g1 dLen) (mCons (mVar 0) mNil)) (mb := mC (.int 40)) (b := 40) (len_T (w := w) (i := 0) rfl hl) rfl
  rw [show decide (40 < w.length) = decide ((40 : Int) < w.length) from decide_eq_decide.mpr (by omega)]
  exact this
theorem fold_long (hl : w.length ≤ 100000) (h4 : 40 < w.length) : m_fold_calling [.val (T w)] = .ex (XL (w.length : Int)) [] := by
  obtain ⟨x, y, e2⟩ := enum_ok (d := T w) w 0 .un .un hL (.inl rfl) (.inl rfl)
  have hg := gt_len hL (x := x) (y := y) hl
  rw [decide_eq_true h4] at hg
  unfold m_fold_calling
  refine mDef_ex (ρ := [.val (T w), x, y]) ?_
  show b_fold_calling [.val (T w), .un, .un] = _
  unfold b_fold_calling
  rw [seq_nx f1_str, seq_nx (f2_step e2)]
  refine seq_x ?_
  unfold b_fold_calling_3
  rw [if_tt hg]
  unfold mRaise
  have hn := len_T (w := w) (i := 0) (ρ := [.val (T w), x, y]) rfl hl
  simp only [mCons, mNil, hn, R.bind, OV.fz, R.st]
/-- the text that is due -/
def due (w : List Nat) : List Nat := if w = [] then [] else tab w w.length 0
theorem fold_ok (h4 : w.length ≤ 40) : m_fold_calling [.val (T w)] = .ok (.v (T (due w))) [] := by
  obtain ⟨x, y, e2⟩ := enum_ok (d := T w) w 0 .un .un hL (.inl rfl) (.inl rfl)
  have hg := gt_len hL (x := x) (y := y) (by omega)
  rw [decide_eq_false (by omega)] at hg
  have e3 : b_fold_calling_3 [.val (T w), x, y] = .nx [.val (T w), x, y] := by
    unfold b_fold_calling_3
    exact skip_ok hg
  have hok : okS w := okS_lit fun c hc => isL_sgn (hL c hc)
  have hq := eqS (ρ := [.val (T w), x, y]) hok (b := []) (fun _ h => nomatch h) (var_val (i := 0) rfl) (c_nil)
  unfold m_fold_calling
  refine mDef_rt (ρ := [.val (T w), x, y]) ?_
  show b_fold_calling [.val (T w), .un, .un] = _
  unfold b_fold_calling
  rw [seq_nx f1_str, seq_nx (f2_step e2), seq_nx e3]
  unfold due
  by_cases c : w = []
  · rw [decide_eq_true c] at hq
    rw [if_pos c]
    refine seq_rt ?_
    unfold b_fold_calling_4
    rw [if_tt hq]
    exact mRet_d c_nil
  · rw [decide_eq_false c] at hq
    rw [if_neg c]
    have e4 : b_fold_calling_4 [.val (T w), x, y] = .nx [.val (T w), x, y] := by
      unfold b_fold_calling_4
      exact skip_ok hq
    have h1 : 1 ≤ w.length := by
      cases w with
      | nil => exact absurd rfl c
      | cons => simp
    rw [seq_nx e4]
    unfold b_fold_calling_5
    exact mRet_d (call3 (f := m_folded) (v := .d (T w)) (u := .d (T [])) (t := .d (.fn "call_pieces")) (var_val rfl) rfl c_nil rfl rfl rfl (folded_ok hL h4 h1))
end
/-! ### what was told -/
theorem told_t {d : D} {t : List Nat} (h : m_fold_calling [.val d] = .ok (.v (T t)) []) : m__law_told [.val d] = .ok (.v (.tup [.str "text", T t])) [] := by
  have e1 : b__law_told_1 [.val d, .un] = .rt (.v (.tup [.str "text", T t])) [.val d, .un] := by
    unfold b__law_told_1
    exact try_ok (mRet_d (tup2_ok (ma := mC (.str "text")) (x := .str "text") rfl (call1 (f := m_fold_calling) (v := .d d) (var_val (i := 0) rfl) rfl h)))
  unfold m__law_told
  refine mDef_rt (ρ := [.val d, .un]) ?_
  show b__law_told [.val d, .un] = _
  unfold b__law_told
  rw [seq_rt e1]
theorem tup_x {ma mb : EM} {ρ ρ1 ρ2 : En} {x : D} {r : Xc} (h1 : ma ρ = .ok (.d x) ρ1) (h2 : mb ρ1 = .ex r ρ2) : mTup (mCons ma (mCons mb mNil)) ρ = .ex r ρ2 := by
  simp [mTup, mCons, mNil, h1, h2, R.bind]
theorem told_b {d : D} {k : Int} (h : m_fold_calling [.val d] = .ex (XB k) []) : m__law_told [.val d] = .ok (.v (.tup [.str "calling", .int k])) [] := by
  have hd := ret_x (tup_x (ρ := [.val d, .un]) (ma := mC (.str "text")) (x := .str "text") rfl (call1x (f := m_fold_calling) (v := .d d) (var_val (i := 0) rfl) rfl h))
  have i1 := isE_ok (tbl := tblOf exs sub ["BadCalling"]) (k := ⟨0, 0, "BadCalling"⟩) (ρ := [.val d, .val (.exc 0 0 "BadCalling" [("number", .int k)])]) (i := 1) (b := true) rfl (by decide)
  have i2 := isE_ok (tbl := tblOf exs sub ["TooLong"]) (k := ⟨0, 0, "BadCalling"⟩) (ρ := [.val d, .val (.exc 0 0 "BadCalling" [("number", .int k)])]) (i := 1) (b := false) rfl (by decide)
  have i4 := xf_ok (tbl := exs) (k := ⟨0, 0, "BadCalling"⟩) (f := "number") (ρ := [.val d, .val (.exc 0 0 "BadCalling" [("number", .int k)])]) (i := 1) (y := .int k) rfl (by decide) (cl "BadCalling" "number" (.int k))
  have hsu : su__law_told ⟨0, 0, "BadCalling"⟩ [.val d, .val (.exc 0 0 "BadCalling" [("number", .int k)])] = .rt (.v (.tup [.str "calling", .int k])) [.val d, .val (.exc 0 0 "BadCalling" [("number", .int k)])] := by
    unfold su__law_told
    refine seq_rt ?_
    rw [if_tt (and_tt (tst_ok i1) (not_ok (tst_ok i2)))]
    exact mRet_d (tup2_ok (ma := mC (.str "calling")) (x := .str "calling") rfl i4)
  have e1 : b__law_told_1 [.val d, .un] = .rt (.v (.tup [.str "calling", .int k])) [.val d, .un] := by
    unfold b__law_told_1
    exact try_x (i := 1) (ρ1 := [.val d, .un]) (ρ2 := [.val d, .val (.exc 0 0 "BadCalling" [("number", .int k)])]) hd (show (catOf exs).lookup ("BadCalling" : Str) = some true from by decide) rfl hsu rfl
  unfold m__law_told
  refine mDef_rt (ρ := [.val d, .un]) ?_
  show b__law_told [.val d, .un] = _
  unfold b__law_told
  rw [seq_rt e1]
theorem told_l {d : D} {k : Int} (h : m_fold_calling [.val d] = .ex (XL k) []) : m__law_told [.val d] = .ok (.v (.tup [.str "long", .int k])) [] := by
  have hd := ret_x (tup_x (ρ := [.val d, .un]) (ma := mC (.str "text")) (x := .str "text") rfl (call1x (f := m_fold_calling) (v := .d d) (var_val (i := 0) rfl) rfl h))
  have i1 := isE_ok (tbl := tblOf exs sub ["BadCalling"]) (k := ⟨0, 0, "TooLong"⟩) (ρ := [.val d, .val (.exc 0 0 "TooLong" [("number", .int k)])]) (i := 1) (b := false) rfl (by decide)
  have i2 := isE_ok (tbl := tblOf exs sub ["TooLong"]) (k := ⟨0, 0, "TooLong"⟩) (ρ := [.val d, .val (.exc 0 0 "TooLong" [("number", .int k)])]) (i := 1) (b := true) rfl (by decide)
  have i4 := xf_ok (tbl := exs) (k := ⟨0, 0, "TooLong"⟩) (f := "number") (ρ := [.val d, .val (.exc 0 0 "TooLong" [("number", .int k)])]) (i := 1) (y := .int k) rfl (by decide) (cl "TooLong" "number" (.int k))
  have hsu : su__law_told ⟨0, 0, "TooLong"⟩ [.val d, .val (.exc 0 0 "TooLong" [("number", .int k)])] = .rt (.v (.tup [.str "long", .int k])) [.val d, .val (.exc 0 0 "TooLong" [("number", .int k)])] := by
    unfold su__law_told
    rw [seq_nx (skip_ok (and_ff (tst_ok i1))), if_tt (and_tt (tst_ok i2) (not_ok (tst_ok i1)))]
    exact mRet_d (tup2_ok (ma := mC (.str "long")) (x := .str "long") rfl i4)
  have e1 : b__law_told_1 [.val d, .un] = .rt (.v (.tup [.str "long", .int k])) [.val d, .un] := by
    unfold b__law_told_1
    exact try_x (i := 1) (ρ1 := [.val d, .un]) (ρ2 := [.val d, .val (.exc 0 0 "TooLong" [("number", .int k)])]) hd (show (catOf exs).lookup ("TooLong" : Str) = some true from by decide) rfl hsu rfl
  unfold m__law_told
  refine mDef_rt (ρ := [.val d, .un]) ?_
  show b__law_told [.val d, .un] = _
  unfold b__law_told
  rw [seq_rt e1]
/-! ### the two judges -/
theorem folded_true {w t : List Nat} (h : Rdb t w) (hw : w.length ≤ 400) (ht : m__law_told [.val (T w)] = .ok (.v (.tup [.str "text", T t])) []) : m__law_is_folded [.val (T w), .val (T t)] = .ok (.v (.bl true)) [] := by
  have hok : okS w := okS_lit fun c hc => isL_sgn (h.let_ c hc)
  let σ : En := [.val (T w), .val (T t), .val (.tup [.str "text", T t])]
  have e1 : b__law_is_folded_1 [.val (T w), .val (T t), .un] = .nx σ := by
    unfold b__law_is_folded_1
    exact set_d (call1 (f := m__law_told) (v := .d (T w)) (var_val (i := 0) rfl) rfl ht) rfl
  have x0 : mB dIx (mVar 2) (mC (.int 0)) σ = .ok (.d (.str "text")) σ := ixt (k := 0) rfl rfl
  have x1 : mB dIx (mVar 2) (mC (.int 1)) σ = .ok (.d (T t)) σ := ixt (k := 1) rfl rfl
  have e2 : b__law_is_folded_2 σ = .nx σ := by
    unfold b__law_is_folded_2
    have n1 := tst_ok (op2 (g := dNe) (mb := mC (.str "text")) x0 rfl (ne_self (d := .str "text") (by decide +kernel)))
    have n2 := s_ne h.ok h.ok
    rw [decide_eq_true rfl] at n2
    exact skip_ok (or_f n1 (or_f (not_ok (tst_ok (isi_ok (x := T t) (b := true) x1 rfl))) (tst_ok (op2 (g := dNe) x1 (var_val (i := 1) rfl) n2))))
  unfold m__law_is_folded
  refine mDef_rt (ρ := σ) ?_
  show b__law_is_folded [.val (T w), .val (T t), .un] = _
  unfold b__law_is_folded
  rw [seq_nx e1, seq_nx e2]
  unfold b__law_is_folded_3
  have n3 := s_eq hok hok
  rw [decide_eq_true rfl] at n3
  exact mRet_d (op2 (g := dEq) (call1 (f := m_read_calling) (v := .d (T t)) x1 rfl (read_ok h hw)) (var_val (i := 0) rfl) n3)
theorem is_int_ok (k : Int) : m__law_is_int [.val (.int k)] = .ok (.v (.bl true)) [] := rfl
theorem refused_true {d : D} {x : Str} {k : Int} (hx : (D.str x).cmp 40 = true) (ht : m__law_told [.val d] = .ok (.v (.tup [.str x, .int k])) []) : m__law_is_refused [.val d, .val (.str x), .val (.int k)] = .ok (.v (.bl true)) [] := by
  let σ : En := [.val d, .val (.str x), .val (.int k), .val (.tup [.str x, .int k])]
  have e1 : b__law_is_refused_1 [.val d, .val (.str x), .val (.int k), .un] = .nx σ := by
    unfold b__law_is_refused_1
    exact set_d (call1 (f := m__law_told) (v := .d d) (var_val (i := 0) rfl) rfl ht) rfl
  have x0 : mB dIx (mVar 3) (mC (.int 0)) σ = .ok (.d (.str x)) σ := ixt (k := 0) rfl rfl
  have x1 : mB dIx (mVar 3) (mC (.int 1)) σ = .ok (.d (.int k)) σ := ixt (k := 1) rfl rfl
  have n3 : dEq (.int k) (.int k) = some (.bl true) := by
    rw [e_int]
    simp
  unfold m__law_is_refused
  refine mDef_rt (ρ := σ) ?_
  show b__law_is_refused [.val d, .val (.str x), .val (.int k), .un] = _
  unfold b__law_is_refused
  rw [seq_nx e1]
  unfold b__law_is_refused_2
  exact mRet_d (andV_tt (op2 (g := dEq) x0 (var_val (i := 1) rfl) (eq_self hx)) (andV_tt (call1 (f := m__law_is_int) (v := .d (.int k)) x1 rfl (is_int_ok k)) (op2 (g := dEq) x1 (var_val (i := 2) rfl) n3)))
end K09
set_option Elab.async false
set_option linter.all false
set_option maxRecDepth 100000
set_option maxHeartbeats 4000000
namespace K09
open PySem Mi
theorem mul_T {l : List Nat} {k : Nat} (hk : k ≤ 1000) (hl : l.length ≤ 10000) : (dOr dMul dMulS) (T l) (.int (k : Int)) = some (T (repN k l)) := by
  have := s_mul (a := l) (n := (k : Int)) (by omega) (by omega) hl
  unfold dOr
  have h0 : dMul (T l) (.int (k : Int)) = none := rfl
  rw [h0]
  refine this.trans ?_
  unfold rep repN
  rw [Int.toNat_natCast]
theorem mulT {l : List Nat} {k : Nat} {ma mb : EM} {ρ ρ1 ρ2 : En} (h1 : ma ρ = .ok (.d (T l)) ρ1) (h2 : mb ρ1 = .ok (.d (.int (k : Int))) ρ2) (hk : k ≤ 1000) (hl : l.length ≤ 10000) : mB (dOr dMul dMulS) ma mb ρ = .ok (.d (T (repN k l))) ρ2 := op2 h1 h2 (mul_T hk hl)
theorem addS {a b : List Nat} {ma mb : EM} {ρ ρ1 ρ2 : En} (h1 : ma ρ = .ok (.d (T a)) ρ1) (h2 : mb ρ1 = .ok (.d (T b)) ρ2) (hl : a.length + b.length ≤ 100000) : mB dAdd ma mb ρ = .ok (.d (T (a ++ b))) ρ2 := op2 h1 h2 (s_add (by unfold BIG; omega))
/-! ### the own first -/
theorem first_ok {A : List (List Nat)} (h : A ≠ []) (hl : ∀ x ∈ A, x.length ≤ 100000) (hn : A.length ≤ 1000) : m__law_first [.val (.lst (A.map T))] = .ok (.v (T (mnL A))) [] := by
  obtain ⟨z, r, rfl⟩ : ∃ z r, A = z :: r := by
    cases A with
    | nil => exact absurd rfl h
    | cons z r => exact ⟨z, r, rfl⟩
  let fs := fun (b : List Nat) (x : Sl) => ([.val (.lst ((z :: r).map T)), .val (T b), x] : En)
  have e1 : b__law_first_1 [.val (.lst ((z :: r).map T)), .un, .un] = .nx (fs z .un) := by
    unfold b__law_first_1
    exact set_d (ixl (k := 0) (i := 0) rfl (.inl rfl) rfl) rfl
  have e2 : ∃ ρ', b__law_first_2 (fs z .un) = .nx ρ' ∧ ∃ x, (Pl x ∧ (((z :: r).foldl pickL z = z ∨ (z :: r).foldl pickL z ∈ z :: r))) ∧ ρ' = fs ((z :: r).foldl pickL z) x := by
    have hr : mSeqI (mVar 0) (fs z .un) = .ok ((z :: r).map fun y => IV.one (T y)) (fs z .un) := by
      unfold mSeqI
      rw [var_val (i := 0) (d := .lst ((z :: r).map T)) rfl]
      show R.ok (((z :: r).map T).map IV.one) _ = _
      rw [List.map_map]
      rfl
    unfold b__law_first_2
    refine for_gen (gm := gN 2) hr (fun y => y ∈ z :: r) (fun pre ρ => ∃ x, (Pl x ∧ (pre.foldl pickL z = z ∨ pre.foldl pickL z ∈ z :: r)) ∧ ρ = fs (pre.foldl pickL z) x) (fun y hy => hy) ⟨.un, ⟨.inl rfl, .inl rfl⟩, rfl⟩ (fun pre y ρ _ hy hi => ?_)
    obtain ⟨x, ⟨hx, hm⟩, rfl⟩ := hi
    have hb : (pre.foldl pickL z).length ≤ 100000 := by
      rcases hm with e | e
      · rw [e]
        exact hl z (List.mem_cons_self ..)
      · exact hl _ e
    have hyl := hl y hy
    generalize hbe : pre.foldl pickL z = b at *
    let σ := fs b (.val (T y))
    have l2 : mCB (g1 dLen) (mCons (mVar 2) mNil) σ = .ok (.d (.int (y.length : Int))) σ := len_T rfl hyl
    have l1 : mCB (g1 dLen) (mCons (mVar 1) mNil) σ = .ok (.d (.int (b.length : Int))) σ := len_T rfl hb
    have hc : (mOr (mTst (mB (dOr dLt dLtS) (mCB (g1 dLen) (mCons (mVar 2) mNil)) (mCB (g1 dLen) (mCons (mVar 1) mNil)))) ((mAnd (mTst (mB dEq (mCB (g1 dLen) (mCons (mVar 2) mNil)) (mCB (g1 dLen) (mCons (mVar 1) mNil)))) (mTst (mB (dOr dLt dLtS) (mVar 2) (mVar 1)))))) σ = .ok (decide (slt y b)) σ := by
      have c1 := lto_i l2 l1
      by_cases k1 : (y.length : Int) < b.length
      · rw [decide_eq_true k1] at c1
        rw [decide_eq_true (show slt y b from .inl (by omega))]
        exact or_tt c1
      · rw [decide_eq_false k1] at c1
        have c2 := eqN l2 l1
        by_cases k2 : y.length = b.length
        · rw [decide_eq_true k2] at c2
          have c3 : mTst (mB (dOr dLt dLtS) (mVar 2) (mVar 1)) σ = .ok (decide (y < b)) σ := tst_ok (op2 (g := dOr dLt dLtS) (x := T y) (y := T b) (var_val rfl) (var_val rfl) rfl)
          rw [show decide (slt y b) = decide (y < b) from decide_eq_decide.mpr ⟨fun h => h.elim (fun z => by omega) fun z => z.2, fun h => .inr ⟨k2, h⟩⟩]
          exact or_f c1 (and_tt c2 c3)
        · rw [decide_eq_false k2] at c2
          rw [decide_eq_false (show ¬ slt y b from fun h => h.elim (fun z => by omega) fun z => k2 z.1)]
          exact or_f c1 (and_ff c2)
    by_cases c : slt y b
    · rw [decide_eq_true c] at hc
      refine ⟨σ, fs y (.val (T y)), gN_pl hx rfl, (if_tt hc).trans (set_d (var_val (i := 2) rfl) rfl), .val (T y), ⟨.inr ⟨_, rfl⟩, ?_⟩, ?_⟩
      · rw [List.foldl_append, List.foldl_cons, List.foldl_nil, hbe]
        unfold pickL
        rw [if_pos c]
        exact .inr hy
      · rw [List.foldl_append, List.foldl_cons, List.foldl_nil, hbe]
        unfold pickL
        rw [if_pos c]
    · rw [decide_eq_false c] at hc
      refine ⟨σ, fs b (.val (T y)), gN_pl hx rfl, skip_ok hc, .val (T y), ⟨.inr ⟨_, rfl⟩, ?_⟩, ?_⟩
      · rw [List.foldl_append, List.foldl_cons, List.foldl_nil, hbe]
        unfold pickL
        rw [if_neg c]
        exact hm
      · rw [List.foldl_append, List.foldl_cons, List.foldl_nil, hbe]
        unfold pickL
        rw [if_neg c]
  obtain ⟨_, e2, x, _, rfl⟩ := e2
  have e3 : (z :: r).foldl pickL z = mnL (z :: r) := by
    rw [List.foldl_cons]
    have : pickL z z = z := if_neg (slt_irr z)
    rw [this]
    rfl
  rw [e3] at e2
  unfold m__law_first
  refine mDef_rt (ρ := fs (mnL (z :: r)) x) ?_
  show b__law_first [.val (.lst ((z :: r).map T)), .un, .un] = _
  unfold b__law_first
  rw [seq_nx e1, seq_nx e2]
  unfold b__law_first_3
  exact mRet_d (var_val rfl)
/-! ### the own texts -/
section
variable {w : List Nat} (hL : ∀ c ∈ w, isL c) (hl : w.length ≤ 40) {kvs : List (List L2.Key × D)} {n a : Nat}
include hL hl
theorem texts_ok (hh : Holds w kvs n) (hn : 1 ≤ n) (h : a + n ≤ w.length) : m__law_texts [.val (T w), .own true (.dt kvs), .val (.int (a : Int)), .val (.int ((a + n : Nat) : Int))] = .ok (.w (.lst ((cands w (tab w) n a).map T))) [.dt kvs] := by
  have hok := okW hL hl
  let lt := fun (s4 s5 s6 s7 : Sl) => ([.val (T w), .own true (.dt kvs), .val (.int (a : Int)), .val (.int ((a + n : Nat) : Int)), s4, s5, s6, s7] : En)
  let nn : Sl := .val (.int (n : Int))
  have e1 : b__law_texts_1 (lt .un .un .un .un) = .nx (lt nn .un .un .un) := by
    unfold b__law_texts_1
    have := subN (ρ := lt .un .un .un .un) (ma := mVar 3) (mb := mVar 2) (show a ≤ a + n by omega) (var_val rfl) (var_val rfl)
    rw [show a + n - a = n by omega] at this
    exact set_d this rfl
  have q1 : mTst (mB dEq (mVar 4) (mC (.int 1))) (lt nn .un .un .un) = .ok (decide (n = 1)) (lt nn .un .un .un) := eqN (var_val (i := 4) rfl) (cN 1)
  unfold m__law_texts
  by_cases c : n = 1
  · subst c
    refine mDef_os (ρ := lt nn .un .un .un) ?_ rfl
    show b__law_texts (lt .un .un .un .un) = _
    unfold b__law_texts
    rw [seq_nx e1]
    refine seq_rt ?_
    unfold b__law_texts_2
    rw [if_tt q1]
    exact ret_n (lst1_ok (ix_at (var_val (i := 0) rfl) (var_val (i := 2) rfl) (by omega) (by omega)))
  · rw [decide_eq_false c] at q1
    have e2 : b__law_texts_2 (lt nn .un .un .un) = .nx (lt nn .un .un .un) := by
      unfold b__law_texts_2
      exact skip_ok q1
    let A1 := (List.range' 1 (n - 1)).map fun c => tab w c a ++ tab w (n - c) (a + c)
    have e3 : b__law_texts_3 (lt nn .un .un .un) = .nx (lt nn (.own false (.lst (A1.map T))) .un .un) := by
      unfold b__law_texts_3
      have hr := rng2_e (ma := mB dAdd (mVar 2) (mC (.int 1))) (mb := mVar 3) (ρ := lt nn .un .un .un) (a := a + 1) (b := a + n) (addN (a := a) (b := 1) (var_val (i := 2) rfl) (cN 1)) (var_val (i := 3) rfl) (by omega)
      have hr' : mRng2 (mB dAdd (mVar 2) (mC (.int 1))) (mVar 3) (lt nn .un .un .un) = .ok (((List.range' (a + 1) (a + n - (a + 1))).map fun (i : Nat) => D.int (i : Int)).map IV.one) (lt nn .un .un .un) := by
        rw [hr, List.map_map]
        rfl
      have hm := comp_map (v := 7) (te := mB dAdd (mGetT (mVar 1) (mCons (mVar 2) (mCons (mVar 7) mNil))) (mGetT (mVar 1) (mCons (mVar 7) (mCons (mVar 3) mNil)))) (f := fun d => match d with | .int i => T (tab w (i.toNat - a) a ++ tab w (a + n - i.toNat) i.toNat) | _ => .non) rfl hr' (fun d hd => by
        obtain ⟨i, hi, rfl⟩ := List.mem_map.mp hd
        rw [List.mem_range'_1] at hi
        have k1 : mGetT (mVar 1) (mCons (mVar 2) (mCons (mVar 7) mNil)) (lt nn .un .un (.val (.int (i : Int)))) = .ok (.d (T (tab w (i - a) a))) (lt nn .un .un (.val (.int (i : Int)))) := by
          refine getT_ok rfl (var_val (i := 2) rfl) (var_val (i := 7) rfl) ?_
          have := hh (i - a) a (by omega) (by omega) (by omega)
          rw [show ky a (i - a) = [.inl (a : Int), .inl (i : Int)] by unfold ky; rw [show a + (i - a) = i by omega]] at this
          exact this
        have k2 : mGetT (mVar 1) (mCons (mVar 7) (mCons (mVar 3) mNil)) (lt nn .un .un (.val (.int (i : Int)))) = .ok (.d (T (tab w (a + n - i) i))) (lt nn .un .un (.val (.int (i : Int)))) := by
          refine getT_ok rfl (var_val (i := 7) rfl) (var_val (i := 3) rfl) ?_
          have := hh (a + n - i) i (by omega) (by omega) (by omega)
          rw [show ky i (a + n - i) = [.inl (i : Int), .inl ((a + n : Nat) : Int)] by unfold ky; rw [show i + (a + n - i) = a + n by omega]] at this
          exact this
        have t1 := tab_len hL hl (m := i - a) (b := a) (by omega) (by omega)
        have t2 := tab_len hL hl (m := a + n - i) (b := i) (by omega) (by omega)
        exact ⟨.d (T (tab w (i - a) a ++ tab w (a + n - i) i)), addS k1 k2 (by omega), rfl⟩) (by rw [List.length_map, List.length_range']; unfold BIG; omega)
      have he : (((List.range' (a + 1) (a + n - (a + 1))).map fun (i : Nat) => D.int (i : Int)).map fun d => match d with | .int i => T (tab w (i.toNat - a) a ++ tab w (a + n - i.toNat) i.toNat) | _ => .non) = A1.map T := by
        rw [List.map_map, List.map_map, show a + n - (a + 1) = n - 1 by omega, List.range'_eq_map_range, List.range'_eq_map_range, List.map_map, List.map_map]
        refine List.map_congr_left fun i hi => ?_
        have hi' := List.mem_range.mp hi
        show T (tab w (((a + 1 + i : Nat) : Int).toNat - a) a ++ tab w (a + n - ((a + 1 + i : Nat) : Int).toNat) ((a + 1 + i : Nat) : Int).toNat) = T (tab w (1 + i) a ++ tab w (n - (1 + i)) (a + (1 + i)))
        rw [Int.toNat_natCast, show a + 1 + i - a = 1 + i by omega, show a + n - (a + 1 + i) = n - (1 + i) by omega, show a + 1 + i = a + (1 + i) by omega]
      rw [he] at hm
      exact set_n hm rfl
    have lA1 : (A1.map T).length ≤ 1000 := by
      rw [List.length_map, List.length_map, List.length_range']
      omega
    let A2 := A1 ++ (if sl w a n = List.replicate n (at_ w a) then [TL.numL n ++ [at_ w a]] else [])
    have hnl : (TL.numL n).length ≤ 2 := numL_two (by omega)
    have e4 : b__law_texts_4 (lt nn (.own false (.lst (A1.map T))) .un .un) = .nx (lt nn (.own false (.lst (A2.map T))) .un .un) := by
      let σ := lt nn (.own false (.lst (A1.map T))) .un .un
      have s1 := slS_ok (ρ := σ) (m := mVar 0) (l := w) (var_val rfl) (var_val (i := 2) (d := .int (a : Int)) rfl) (var_val (i := 3) (d := .int ((a + n : Nat) : Int)) rfl) (by omega)
      rw [show a + n - a = n by omega] at s1
      have ha := ix_at (ρ := σ) (m := mVar 0) (m2 := mVar 2) (w := w) (a := a) (var_val rfl) (var_val rfl) (by omega) (by omega)
      have s2 := mulT (l := [at_ w a]) (k := n) ha (var_val (i := 4) rfl) (by omega) (by simp)
      rw [rep1] at s2
      have hg := eqS (okS_sl hok a n) (okS_lit fun c hc => by rw [(List.mem_replicate.mp hc).2]; exact isL_sgn (at_let hL (by omega))) s1 s2
      unfold b__law_texts_4
      by_cases k : sl w a n = List.replicate n (at_ w a)
      · have k' : (w.drop a).take n = List.replicate n (at_ w a) := k
        rw [show (decide (sl w a n = List.replicate n (at_ w a))) = true from decide_eq_true k] at hg
        have eA : A2 = A1 ++ [TL.numL n ++ [at_ w a]] := by show A1 ++ (if _ then _ else _) = _; rw [if_pos k]
        rw [eA, List.map_append]
        exact (if_tt hg).trans (drop_ok (append_ok rfl (addS (cb1 (g := dStr) (var_val (i := 4) rfl) (s_str (by omega))) ha (by simp; omega)) rfl lA1))
      · rw [show (decide (sl w a n = List.replicate n (at_ w a))) = false from decide_eq_false k] at hg
        have eA : A2 = A1 := by show A1 ++ (if _ then _ else _) = _; rw [if_neg k, List.append_nil]
        rw [eA]
        exact skip_ok hg
    have lA2 : (A2.map T).length ≤ 900 := by
      rw [List.length_map]
      show (A1 ++ (if _ then _ else _)).length ≤ _
      rw [List.length_append, List.length_map, List.length_range']
      split <;> simp <;> omega
    have e5 : ∃ ρ', b__law_texts_5 (lt nn (.own false (.lst (A2.map T))) .un .un) = .nx ρ' ∧ ∃ x, Pl x ∧ ρ' = lt nn (.own false (.lst (A2.map T ++ ((List.range' 1 (n - 1)).filter fun p => decide (Per w a n p)).map fun p => T (brk (n / p) (tab w p a))))) x .un := by
      have hr := rng2_e (ma := mC (.int 1)) (mb := mVar 4) (ρ := lt nn (.own false (.lst (A2.map T))) .un .un) (a := 1) (b := n) rfl (var_val (i := 4) rfl) (by omega)
      unfold b__law_texts_5
      refine for_gen (gm := gN 6) hr (fun p => 1 ≤ p ∧ p < n) (fun pre ρ => ∃ x, Pl x ∧ ρ = lt nn (.own false (.lst (A2.map T ++ (pre.filter fun p => decide (Per w a n p)).map fun p => T (brk (n / p) (tab w p a))))) x .un) (fun p hp => mem_r.mp hp) ⟨.un, .inl rfl, by simp⟩ (fun pre p ρ hpre hp hi => ?_)
      obtain ⟨x, hx, rfl⟩ := hi
      rw [List.length_range'] at hpre
      let acc := A2.map T ++ (pre.filter fun p => decide (Per w a n p)).map fun p => T (brk (n / p) (tab w p a))
      let σ := lt nn (.own false (.lst acc)) (.val (.int (p : Int))) .un
      have hal : acc.length ≤ 1000 := by
        show (A2.map T ++ _).length ≤ _
        rw [List.length_append, List.length_map (f := fun p => T (brk (n / p) (tab w p a)))]
        have := List.length_filter_le (fun p => decide (Per w a n p)) pre
        omega
      have hk9 : n / p ≤ n := Nat.div_le_self _ _
      have hkl : (TL.numL (n / p)).length ≤ 2 := numL_two (by omega)
      have htl := tab_len hL hl (m := p) (b := a) hp.1 (by omega)
      have hd := divN (ρ := σ) (a := n) (b := p) (by omega) (var_val (i := 4) rfl) (var_val (i := 6) rfl)
      have hc : (mAnd (mTst (mB dEq (mB dMod (mCB (g1 dInt) (mCons (mVar 4) mNil)) (mVar 6)) (mC (.int 0)))) (mTst (mB dEq (mSlS (mVar 0) (mPart (mVar 2)) (mPart (mVar 3))) (mB (dOr dMul dMulS) (mSlS (mVar 0) (mPart (mVar 2)) (mPart (mB dAdd (mVar 2) (mVar 6)))) (mB dDiv (mVar 4) (mVar 6)))))) σ = .ok (decide (Per w a n p)) σ := by
        have q1 := eqN (modN (a := n) (b := p) (by omega) (int2 (var_val (ρ := σ) (i := 4) (d := .int (n : Int)) rfl)) (var_val (i := 6) rfl)) (cN 0)
        by_cases k : n % p = 0
        · rw [decide_eq_true k] at q1
          have s1 := slS_ok (ρ := σ) (m := mVar 0) (l := w) (var_val rfl) (var_val (i := 2) (d := .int (a : Int)) rfl) (var_val (i := 3) (d := .int ((a + n : Nat) : Int)) rfl) (by omega)
          rw [show a + n - a = n by omega] at s1
          have s2 := slS_ok (ρ := σ) (m := mVar 0) (l := w) (var_val rfl) (var_val (i := 2) (d := .int (a : Int)) rfl) (addN (a := a) (b := p) (var_val (i := 2) rfl) (var_val (i := 6) rfl)) (by omega)
          rw [show a + p - a = p by omega] at s2
          have s3 := mulT (l := sl w a p) (k := n / p) s2 hd (by omega) (by rw [sl_len (by omega)]; omega)
          have g2 := eqS (okS_sl hok a n) (fun c hc => okS_sl hok a p c (rep_mem hc)) s1 s3
          rw [show decide (Per w a n p) = decide (sl w a n = repN (n / p) (sl w a p)) from decide_eq_decide.mpr ⟨fun z => z.2, fun z => ⟨k, z⟩⟩]
          exact and_tt q1 g2
        · rw [decide_eq_false k] at q1
          rw [show decide (Per w a n p) = false from decide_eq_false fun z => k z.1]
          exact and_ff q1
      by_cases k : Per w a n p
      · rw [decide_eq_true k] at hc
        have hg : mGetT (mVar 1) (mCons (mVar 2) (mCons (mB dAdd (mVar 2) (mVar 6)) mNil)) σ = .ok (.d (T (tab w p a))) σ := getT_ok rfl (var_val (i := 2) rfl) (addN (a := a) (b := p) (var_val (i := 2) rfl) (var_val (i := 6) rfl)) (hh p a hp.1 hp.2 (by omega))
        have hv : mB dAdd (mB dAdd (mB dAdd (mCB (g1 dStr) (mCons (mB dDiv (mVar 4) (mVar 6)) mNil)) (mC (.str "("))) (mGetT (mVar 1) (mCons (mVar 2) (mCons (mB dAdd (mVar 2) (mVar 6)) mNil)))) (mC (.str ")")) σ = .ok (.d (T (brk (n / p) (tab w p a)))) σ := by
          have := addS (addS (addS (cb1 (g := dStr) hd (s_str (by omega))) c_open (by simp; omega)) hg (by simp; omega)) c_close (by simp; omega)
          rw [show TL.numL (n / p) ++ [40] ++ tab w p a ++ [41] = brk (n / p) (tab w p a) by unfold brk; simp] at this
          exact this
        refine ⟨σ, lt nn (.own false (.lst (acc ++ [T (brk (n / p) (tab w p a))]))) (.val (.int (p : Int))) .un, gN_pl hx rfl, (if_tt hc).trans (drop_ok (append_ok rfl hv rfl hal)), .val (.int (p : Int)), .inr ⟨_, rfl⟩, ?_⟩
        have ef : ([p].filter fun p => decide (Per w a n p)) = [p] := by simp [k]
        have eacc : acc ++ [T (brk (n / p) (tab w p a))] = A2.map T ++ ((pre ++ [p]).filter fun p => decide (Per w a n p)).map fun p => T (brk (n / p) (tab w p a)) := by
          rw [List.filter_append, ef, List.map_append (f := fun p => T (brk (n / p) (tab w p a))), ← List.append_assoc]
          rfl
        exact congrArg (fun z => lt nn (.own false (.lst z)) (.val (.int (p : Int))) .un) eacc
      · rw [decide_eq_false k] at hc
        refine ⟨σ, σ, gN_pl hx rfl, skip_ok hc, .val (.int (p : Int)), .inr ⟨_, rfl⟩, ?_⟩
        have ef : ([p].filter fun p => decide (Per w a n p)) = [] := by simp [k]
        have eacc : acc = A2.map T ++ ((pre ++ [p]).filter fun p => decide (Per w a n p)).map fun p => T (brk (n / p) (tab w p a)) := by
          rw [List.filter_append, ef, List.append_nil]
        exact congrArg (fun z => lt nn (.own false (.lst z)) (.val (.int (p : Int))) .un) eacc
    obtain ⟨_, e5, x, _, rfl⟩ := e5
    have eC : (cands w (tab w) n a).map T = A2.map T ++ ((List.range' 1 (n - 1)).filter fun p => decide (Per w a n p)).map fun p => T (brk (n / p) (tab w p a)) := by
      unfold cands
      rw [if_neg c, ← List.append_assoc, List.map_append, List.map_map (g := T)]
      rfl
    rw [eC]
    refine mDef_os (ρ := lt nn .un x .un) ?_ rfl
    show b__law_texts (lt .un .un .un .un) = _
    unfold b__law_texts
    rw [seq_nx e1, seq_nx e2, seq_nx e3, seq_nx e4, seq_nx e5]
    rfl
end
end K09
set_option Elab.async false
set_option linter.all false
set_option maxRecDepth 100000
set_option maxHeartbeats 4000000
namespace K09
open PySem Mi
theorem call1w4 {f : List Sl → DR} {ma mb mc : EM} {ρ : En} {k : Nat} {io : Bool} {w w' o : Ow} {a b c : D} (ha : ma ρ = .ok (.d a) ρ) (hk : ρ[k]? = some (.own io w)) (hb : mb ρ = .ok (.d b) ρ) (hc : mc ρ = .ok (.d c) ρ) (hf : f [.val a, .own true w, .val b, .val c] = .ok (.w o) [w']) :
    mCall [1] f [] (mArg ma (mLend k (mArg mb (mArg mc mNil)))) ρ = .ok (.n o) (ρ.set k (.own io w')) := by
  simp [mCall, mArg, mLend, mNil, ha, hk, hb, hc, isOw, R.bind, OV.fz, esc, toArgs, ioPos, ioSl, hf, putO, rvOV]
theorem cands_ne {w : List Nat} {n a : Nat} (hn : 1 ≤ n) : cands w (tab w) n a ≠ [] := fun e => by
  have := tab_mem (w := w) (a := a) hn
  rw [e] at this
  cases this
theorem cands_num {w : List Nat} {n a : Nat} (hn : n ≤ 40) : (cands w (tab w) n a).length ≤ 1000 := by
  unfold cands
  split
  · simp
  · have := List.length_filter_le (fun p => decide (Per w a n p)) (List.range' 1 (n - 1))
    rw [List.length_range'] at this
    rw [List.length_append, List.length_append, List.length_map, List.length_map, List.length_range']
    split <;> simp <;> omega
section
variable {w : List Nat} (hL : ∀ c ∈ w, isL c) (hl : w.length ≤ 40)
include hL hl
theorem cands_len {n a : Nat} (hn : 1 ≤ n) (h : a + n ≤ w.length) {q : List Nat} (hq : q ∈ cands w (tab w) n a) : q.length ≤ 100 := by
  by_cases c : n = 1
  · subst c
    have : q = [at_ w a] := List.mem_singleton.mp hq
    rw [this]
    simp
  · rcases cands_cases (by omega) hq with ⟨c, c1, c2, rfl⟩ | ⟨_, rfl⟩ | ⟨p, p1, p2, _, rfl⟩
    · have h1 := tab_len hL hl (m := c) (b := a) c1 (by omega)
      have h2 := tab_len hL hl (m := n - c) (b := a + c) (by omega) (by omega)
      rw [List.length_append]
      omega
    · have := numL_two (k := n) (by omega)
      rw [List.length_append, List.length_singleton]
      omega
    · have h1 := tab_len hL hl (m := p) (b := a) p1 (by omega)
      have := numL_two (k := n / p) (Nat.le_trans (Nat.div_le_self _ _) (by omega))
      unfold brk
      simp only [List.length_append, List.length_cons, List.length_nil]
      omega
theorem table_ok : ∃ kvs, m__law_table [.val (T w)] = .ok (.w (.dt kvs)) [] ∧ Hld w (tbD w) kvs (w.length + 1) 0 ∧ lookT kvs (ky 0 0) = some (T []) := by
  let tb := fun (kb : List (List L2.Key × D)) (x2 x3 : Sl) => ([.val (T w), .own false (.dt kb), x2, x3] : En)
  let k0 : List (List L2.Key × D) := [(ky 0 0, T [])]
  have e1 : b__law_table_1 [.val (T w), .un, .un, .un] = .nx (tb k0 .un .un) := by
    unfold b__law_table_1
    have : mDispT 0 0 "" [.val (T w), .un, .un, .un] = .ok (.n (.dt k0)) [.val (T w), .un, .un, .un] := by
      show R.ok (OV.n (.dt [([.inl 0, .inl 0], .str (Str.ofString ""))])) _ = _
      rw [lit_nil]
      rfl
    exact set_n this rfl
  have e2 : ∃ ρ', b__law_table_2 (tb k0 .un .un) = .nx ρ' ∧ ∃ kb x2 x3, Hld w (tbD w) kb (w.length + 1) 0 ∧ lookT kb (ky 0 0) = some (T []) ∧ kb.length ≤ 1 + 41 * (w.length + 1) ∧ Pl x2 ∧ Pl x3 ∧ ρ' = tb kb x2 x3 := by
    have hr := rng2_e (ma := mC (.int 1)) (mb := mB dAdd (mCB (g1 dLen) (mCons (mVar 0) mNil)) (mC (.int 1))) (ρ := tb k0 .un .un) (a := 1) (b := w.length + 1) rfl (addN (len_T rfl (by omega)) (cN 1)) (by omega)
    rw [show w.length + 1 - 1 = w.length by omega] at hr
    unfold b__law_table_2
    have fr := for_rng (v := 2) (b := mFor (mRng1 (mB dAdd (mB dSub (mCB (g1 dLen) (mCons (mVar 0) mNil)) (mVar 2)) (mC (.int 1)))) (gN 3) (mPutT 1 (mCons (mVar 3) (mCons (mB dAdd (mVar 3) (mVar 2)) mNil)) (mCall [] m__law_first [] (mArg (mCall [1] m__law_texts [] (mArg (mVar 0) (mLend 1 (mArg (mVar 3) (mArg (mB dAdd (mVar 3) (mVar 2)) mNil))))) mNil)))) hr
      (fun j ρ => ∃ kb x2 x3, Hld w (tbD w) kb j 0 ∧ lookT kb (ky 0 0) = some (T []) ∧ kb.length ≤ 1 + 41 * j ∧ Pl x2 ∧ Pl x3 ∧ ρ = tb kb x2 x3)
      ⟨k0, .un, .un, fun m b h1 h2 _ => by omega, rfl, by simp [k0], .inl rfl, .inl rfl, rfl⟩ (fun j ρ j1 j2 hi => ?_)
    · rw [Nat.add_comm 1] at fr
      exact fr
    obtain ⟨kb, x2, x3, hb, h0, lb, p2, p3, rfl⟩ := hi
    have hr2 := rng1' (me := mB dAdd (mB dSub (mCB (g1 dLen) (mCons (mVar 0) mNil)) (mVar 2)) (mC (.int 1))) (ρ := tb kb (.val (.int (j : Int))) x3) (n := w.length - j + 1) (by omega) (addN (subN (a := w.length) (b := j) (by omega) (len_T rfl (by omega)) (var_val (i := 2) rfl)) (cN 1))
    obtain ⟨ρ', e, kb', y3, hb', h0', lb', q3, rfl⟩ := for_rng (v := 3) (b := (mPutT 1 (mCons (mVar 3) (mCons (mB dAdd (mVar 3) (mVar 2)) mNil)) (mCall [] m__law_first [] (mArg (mCall [1] m__law_texts [] (mArg (mVar 0) (mLend 1 (mArg (mVar 3) (mArg (mB dAdd (mVar 3) (mVar 2)) mNil))))) mNil)))) hr2
      (fun s ρ => ∃ kb x3, Hld w (tbD w) kb j s ∧ lookT kb (ky 0 0) = some (T []) ∧ kb.length ≤ 1 + 41 * j + s ∧ Pl x3 ∧ ρ = tb kb (.val (.int (j : Int))) x3)
      ⟨kb, x3, hb, h0, lb, p3, rfl⟩ (fun s ρ s1 s2 hi => by
        obtain ⟨kb, x3, hb, h0, lb, p3, rfl⟩ := hi
        have hs : s + j ≤ w.length := by omega
        let σ := tb kb (.val (.int (j : Int))) (.val (.int (s : Int)))
        have ha : mB dAdd (mVar 3) (mVar 2) σ = .ok (.d (.int ((s + j : Nat) : Int))) σ := addN (a := s) (b := j) (var_val (i := 3) rfl) (var_val (i := 2) rfl)
        have t1 := call1w4 (f := m__law_texts) (k := 1) (ρ := σ) (ma := mVar 0) (mb := mVar 3) (mc := mB dAdd (mVar 3) (mVar 2)) (var_val rfl) rfl (var_val rfl) ha (texts_ok hL hl hb.holds j1 hs)
        have t2 := call1' (f := m__law_first) (ρ := σ) (ρ1 := σ) (ρ2 := σ) t1 rfl (first_ok (cands_ne j1) (fun q hq => Nat.le_trans (cands_len hL hl j1 hs hq) (by omega)) (cands_num (by omega)))
        rw [← tab_eq j1] at t2
        have t3 := putT_ok (s := 1) (ρ := σ) (ma := mVar 3) (mb := mB dAdd (mVar 3) (mVar 2)) t2 rfl (var_val rfl) ha (by unfold BIG; omega)
        refine ⟨_, _, gN_pl p3 rfl, t3, putD kb (ky s j) (T (tab w j s)), .val (.int (s : Int)), hb.put, ?_, ?_, .inr ⟨_, rfl⟩, rfl⟩
        · rw [lookT_put, if_neg (fun z => by
            have := ky_inj.mp z
            omega)]
          exact h0
        · have := putD_len kb (ky s j) (T (tab w j s))
          omega)
    exact ⟨_, _, gN_pl p2 rfl, e, _, _, _, hb'.next (by omega), h0', by omega, .inr ⟨_, rfl⟩, q3, rfl⟩
  obtain ⟨_, e2, kb, x2, x3, hb, h0, _, _, _, rfl⟩ := e2
  refine ⟨kb, ?_, hb, h0⟩
  unfold m__law_table
  refine mDef_rt (ρ := [.val (T w), .un, x2, x3]) ?_
  show b__law_table [.val (T w), .un, .un, .un] = _
  unfold b__law_table
  rw [seq_nx e1, seq_nx e2]
  rfl
end
/-- a stretch's text is that of the stretch as a word -/
theorem tab_sub {w : List Nat} {a n : Nat} (h : a + n ≤ w.length) (m : Nat) : ∀ b, 1 ≤ m → b + m ≤ n → tab (sl w a n) m b = tab w m (a + b) := by
  have hat : ∀ b, b < n → at_ (sl w a n) b = at_ w (a + b) := fun b hb => by
    unfold at_ sl
    rw [List.getD_eq_getElem?_getD, List.getD_eq_getElem?_getD, List.getElem?_take_of_lt hb, List.getElem?_drop]
  have hsl : ∀ b m, b + m ≤ n → sl (sl w a n) b m = sl w (a + b) m := fun b m hb => by
    rw [show sl (sl w a n) b m = ((sl w a n).drop b).take m from rfl, sl_drop, sl_take (by omega)]
  induction m using Nat.strongRecOn with
  | ind m ih =>
    intro b h1 hb
    rw [tab_eq h1, tab_eq h1]
    congr 1
    unfold cands
    by_cases c : m = 1
    · rw [if_pos c, if_pos c, hat b (by omega)]
    · rw [if_neg c, if_neg c, hat b (by omega), hsl b m hb]
      have e1 : ((List.range' 1 (m - 1)).map fun c => tab (sl w a n) c b ++ tab (sl w a n) (m - c) (b + c)) = (List.range' 1 (m - 1)).map fun c => tab w c (a + b) ++ tab w (m - c) (a + b + c) := List.map_congr_left fun c hc => by
        obtain ⟨c1, c2⟩ := mem_r.mp hc
        rw [ih c c2 b c1 (by omega), ih (m - c) (by omega) (b + c) (by omega) (by omega), Nat.add_assoc]
      have e2 : ((List.range' 1 (m - 1)).filter fun p => decide (Per (sl w a n) b m p)) = (List.range' 1 (m - 1)).filter fun p => decide (Per w (a + b) m p) := List.filter_congr fun p hp => by
        obtain ⟨c1, c2⟩ := mem_r.mp hp
        refine decide_eq_decide.mpr ?_
        unfold Per
        rw [hsl b m hb, hsl b p (by omega)]
      rw [e1, e2]
      congr 2
      refine List.map_congr_left fun p hp => ?_
      obtain ⟨c1, c2⟩ := mem_r.mp (List.mem_filter.mp hp).1
      rw [ih p c2 b c1 (by omega)]
/-- what the own table holds at a stretch is the stretch's own text -/
theorem due_sub {w : List Nat} {a n : Nat} (hn : 1 ≤ n) (h : a + n ≤ w.length) : due (sl w a n) = tab w n a := by
  unfold due
  have hl := sl_len h
  rw [if_neg (fun e => by rw [e] at hl; simp at hl; omega), hl, tab_sub h n 0 hn (by omega), Nat.add_zero]
theorem due_ok {w : List Nat} (hL : ∀ c ∈ w, isL c) (hl : w.length ≤ 40) : Rdb (due w) w ∧ (due w).length ≤ 40 := by
  unfold due
  by_cases c : w = []
  · subst c
    exact ⟨rdb_nil, Nat.zero_le _⟩
  · rw [if_neg c]
    have h1 : 1 ≤ w.length := by
      cases w with
      | nil => exact absurd rfl c
      | cons => simp
    obtain ⟨r1, r2, _⟩ := tab_ok hL (n := w.length) (a := 0) h1 hl (by omega)
    have e : sl w 0 w.length = w := by unfold sl; simp
    rw [e] at r1
    exact ⟨r1, r2⟩
theorem folded_all {w : List Nat} (hL : ∀ c ∈ w, isL c) (hl : w.length ≤ 40) : m__law_is_folded [.val (T w), .val (T (due w))] = .ok (.v (.bl true)) [] := folded_true (due_ok hL hl).1 (by omega) (told_t (fold_ok hL hl))
end K09
set_option Elab.async false
set_option linter.all false
set_option maxRecDepth 100000
set_option maxHeartbeats 4000000
namespace K09
open PySem Mi
theorem cut_to {l : List Nat} {b : Nat} : L2.cutS (S l) none (some (b : Int)) = S (l.take b) := by
  have h := s_cut (l := l) (a := 0) (b := b)
  have e : L2.cutS (S l) none (some (b : Int)) = L2.cutS (S l) (some ((0 : Nat) : Int)) (some (b : Int)) := by
    unfold L2.cutS
    rw [HT.sIx_nat, HT.sIx_nat]
    simp [HT.sIx]
  rw [e, h]
  simp
theorem cut_from {l : List Nat} {a : Nat} : L2.cutS (S l) (some (a : Int)) none = S (l.drop a) := by
  have h := s_cut (l := l) (a := a) (b := l.length)
  have e : L2.cutS (S l) (some (a : Int)) none = L2.cutS (S l) (some (a : Int)) (some (l.length : Int)) := by
    unfold L2.cutS
    rw [HT.sIx_nat, HT.sIx_nat, S_len]
    simp [HT.sIx]
  rw [e, h]
  rw [List.take_of_length_le (by simp)]
theorem sl_to {ρ : En} {m mh : EM} {l : List Nat} {b : Nat} (hm : m ρ = .ok (.d (T l)) ρ) (h2 : mh ρ = .ok (.d (.int b)) ρ) (hl : l.length ≤ 100000) : mSlS m mNoP (mPart mh) ρ = .ok (.d (T (l.take b))) ρ := by
  have hb : (S l).length ≤ BIG := by rw [S_len]; unfold BIG; omega
  unfold mSlS
  rw [hm]
  simp only [R.bind, mNoP]
  rw [part_ok h2]
  show apSlS (.d (T l)) none (some (b : Int)) ρ = _
  rw [apSlS_T rfl hb, cut_to]
theorem sl_from {ρ : En} {m ml : EM} {l : List Nat} {a : Nat} (hm : m ρ = .ok (.d (T l)) ρ) (h1 : ml ρ = .ok (.d (.int a)) ρ) (hl : l.length ≤ 100000) : mSlS m (mPart ml) mNoP ρ = .ok (.d (T (l.drop a))) ρ := by
  have hb : (S l).length ≤ BIG := by rw [S_len]; unfold BIG; omega
  unfold mSlS
  rw [hm]
  simp only [R.bind]
  rw [part_ok h1]
  simp only [R.bind, mNoP]
  show apSlS (.d (T l)) (some (a : Int)) none ρ = _
  rw [apSlS_T rfl hb, cut_from]
theorem draw_ok {ns : List Int} (hl : ns.length ≤ 63) : ∃ w, Dr ns w ∧ m__law_draw [.val (.frl (zs ns))] = .ok (.w w) [] := by
  have hc : mComp [2] (mSeqI (mVar 0)) (gN 2) mYes (mVar 2) [.val (.frl (zs ns)), .un, .un] = .ok (.n (.lst ((zs ns).map id))) [.val (.frl (zs ns)), .un, .un] :=
    comp_map rfl (by simp [mSeqI, mVar, R.bind, OV.fz, esc, itD]) (fun d hd => ⟨.d d, by simp [mVar], rfl⟩) (by simp; unfold BIG; omega)
  rw [List.map_id] at hc
  have e1 : b__law_draw_1 [.val (.frl (zs ns)), .un, .un] = .nx [.val (.frl (zs ns)), .own false (.lst (zs ns)), .un] := by
    unfold b__law_draw_1 mSet
    rw [hc]
    rfl
  have hsum : dSum (.lst (zs ns)) = some (.int ns.sum) := by
    show (intsD (zs ns)).map _ = _
    rw [intsD_zs]
    rfl
  have e2 : b__law_draw_2 [.val (.frl (zs ns)), .own false (.lst (zs ns)), .un] = .rt (.w (ps ns 0 0 0 0 (ns.sum % 1000003 + 7 * ns.length))) [.val (.frl (zs ns)), .val (.lst (zs ns)), .un] := by
    unfold b__law_draw_2
    have hb : 6 ≤ BIG := by unfold BIG; omega
    simp [mRet, mLst, mCons, mNil, mVar, mC, mB, mCB, R.bind, R.st, OV.fz, apN, getAll, OB.get, Ow.d, g1, dInt, dLen, hsum, rz, ap2, e_mod, dOr, e_mull, e_add, escs, esc, hb, retV, ps]
  refine ⟨ps ns 0 0 0 0 (ns.sum % 1000003 + 7 * ns.length), ⟨0, 0, 0, 0, _, Int.le_refl 0, Int.le_refl 0, rfl⟩, ?_⟩
  unfold m__law_draw
  refine mDef_rt (ρ := [.val (.frl (zs ns)), .val (.lst (zs ns)), .un]) ?_
  show b__law_draw [.val (.frl (zs ns)), .un, .un] = _
  unfold b__law_draw
  rw [seq_nx e1, e2]

/-! ### texts of letters -/
def LtD (d : D) : Prop := ∃ c, d = T [c] ∧ isL c
theorem ltd_all : ∀ {acc : List D}, (∀ d ∈ acc, LtD d) → ∃ cs : List Nat, acc = cs.map (fun c => T [c]) ∧ ∀ c ∈ cs, isL c
  | [], _ => ⟨[], rfl, fun _ h => by cases h⟩
  | d :: acc, h => by
    obtain ⟨c, rfl, h1⟩ := h d (List.mem_cons_self ..)
    obtain ⟨cs, rfl, h3⟩ := ltd_all fun e he => h e (List.mem_cons_of_mem _ he)
    exact ⟨c :: cs, rfl, fun y hy => by
      rcases List.mem_cons.mp hy with rfl | hy
      · exact h1
      · exact h3 y hy⟩
theorem flat1 : ∀ cs : List Nat, (cs.map fun c => [c]).flatten = cs
  | [] => rfl
  | c :: cs => by
    rw [List.map_cons, List.flatten_cons, flat1 cs]
    rfl
theorem djoin_1 {cs : List Nat} (hn : cs.length ≤ 1000) : dJoin "" (.lst (cs.map fun c => T [c])) = some (T cs) := by
  let ys := cs.map fun c => [c]
  have e : (cs.map (fun c => T [c]) : List D) = (ys.map S).map D.str := by
    show _ = ((cs.map fun c => [c]).map S).map D.str
    rw [List.map_map, List.map_map]
    rfl
  have hs : ((ys.map S).map fun y => y.length).sum = cs.length := by
    show (((cs.map fun c => [c]).map S).map fun y => y.length).sum = _
    rw [List.map_map, List.map_map]
    have : ∀ l : List Nat, (l.map ((fun y : Str => y.length) ∘ (S ∘ fun c => [c]))).sum = l.length := fun l => by
      induction l with
      | nil => rfl
      | cons c l ih =>
        rw [List.map_cons, List.sum_cons, ih, List.length_cons]
        show (S [c]).length + _ = _
        rw [S_len]
        simp
        omega
    exact this cs
  have hj : Txt.join "" (ys.map S) = S cs := by
    rw [TL.join_eq]
    refine S_of ?_
    have := TL.tl_join "" (ys.map S)
    have e1 : TL.tl (Str.ofString "") = [] := by decide +kernel
    rw [e1, joinL_nil] at this
    have e2 : ∀ zs : List (List Nat), (zs.map S).map TL.tl = zs := fun zs => by
      induction zs with
      | nil => rfl
      | cons z zs ih =>
        rw [List.map_cons, List.map_cons, ih]
        rfl
    exact this.trans (by rw [e2 ys]; exact flat1 cs)
  rw [e]
  show (strsD ((ys.map S).map D.str)).bind _ = _
  rw [strsD_of]
  have hz : (Str.ofString "").length = 0 := by decide +kernel
  show (if ((ys.map S).map fun y => y.length).sum + (ys.map S).length * (Str.ofString "").length ≤ BIG then some (D.str (Txt.join "" (ys.map S))) else none) = _
  rw [hs, hz, hj, if_pos (by unfold BIG; omega)]
theorem mjoin_1 {acc : List D} {ma : EM} {ρ ρ1 : En} (hm : ma ρ = .ok (.n (.lst acc)) ρ1) (h : ∀ d ∈ acc, LtD d) (hn : acc.length ≤ 1000) : ∃ cs, mJoin (mC (.str "")) ma ρ = .ok (.d (T cs)) ρ1 ∧ cs.length = acc.length ∧ ∀ c ∈ cs, isL c := by
  obtain ⟨cs, rfl, h2⟩ := ltd_all h
  rw [List.length_map] at hn
  refine ⟨cs, ?_, by rw [List.length_map], h2⟩
  unfold mJoin
  show (ma ρ).bind _ = _
  rw [hm]
  show (match dJoin "" (.lst (cs.map fun c => T [c])) with | some z => R.ok (OV.d z) ρ1 | none => .bad) = _
  rw [djoin_1 hn]
theorem sg_l {l : List Nat} {k : Nat} {ma m : EM} {ρ ρ1 ρ2 : En} (h1 : ma ρ = .ok (.d (T l)) ρ1) (hm : m ρ1 = .ok (.d (.int k)) ρ2) (hk : k < l.length) (h8 : l.length ≤ 1000) : mB dIxS ma m ρ = .ok (.d (T [l[k]])) ρ2 := op2 h1 hm (s_ix hk (by omega))
def abc : List Nat := List.range' 97 26
theorem lit_abc : Str.ofString "abcdefghijklmnopqrstuvwxyz" = S abc := by decide +kernel
theorem abc_l : ∀ c ∈ abc, isL c := fun c hc => by
  unfold abc at hc
  rw [List.mem_range'_1] at hc
  unfold isL
  omega
abbrev lo (w : Ow) (s1 s2 s3 s4 s5 s6 : Sl) : En := [.own true w, s1, s2, s3, s4, s5, s6]
section
variable {ns : List Int}
/-- letters out of a pool, so many as n -/
theorem draw_l {i v : Nat} {me m : EM} {ρ ρ1 : En} {n : Nat} {pool : List Nat} {w1 : Ow} {mk : Ow → En} (hv : v = 3) (hn : n ≤ 500) (hm : me ρ = .ok (.d (.int n)) ρ1) (hno : noOw ρ1 v = true) (hw : Dr ns w1) (h0 : ρ1.set v .un = mk w1)
    (hp : ∀ c ∈ pool, isL c) (hpl : 1 ≤ pool.length ∧ pool.length ≤ 100)
    (hg : ∀ w (j : Nat), gN v (.one (.int (j : Int))) (mk w) = some ((mk w).set v (.val (.int (j : Int)))))
    (hpool : ∀ w (d : D), mVar 1 ((mk w).set v (.val d)) = .ok (.d (T pool)) ((mk w).set v (.val d)))
    (hdr : ∀ w (d : D), ((mk w).set v (.val d))[0]? = some (.own true w)) (hm2 : ∀ w (d : D), m ((mk w).set v (.val d)) = .ok (.d (.int pool.length)) ((mk w).set v (.val d)))
    (hset : ∀ w w' (d : D), ((mk w).set v (.val d)).set 0 (.own true w') = (mk w').set v (.val d)) (hcs : ∀ w (d : D), canSet ((mk w).set v (.val d)) v = true) (hun : ∀ w (d : D), ((mk w).set v (.val d)).set v .un = mk w) :
    ∃ cs w2, Dr ns w2 ∧ (∀ c ∈ cs, isL c) ∧ cs.length = n ∧ mJoin (mC (.str "")) (mComp [v] (mRng1 me) (gN v) mYes (mB dIxS (mVar 1) (mCall [0] m__law_pick [] (mLend 0 (mArg m mNil))))) ρ = .ok (.d (T cs)) ((mk w2).set v (ρ1.getD v .un)) := by
  obtain ⟨acc, ρ', ec, hl, ha, w2, hw2, rfl⟩ := comp_inv (v := v) (te := mB dIxS (mVar 1) (mCall [0] m__law_pick [] (mLend 0 (mArg m mNil)))) hn hm hno (fun _ ρ => ∃ w', Dr ns w' ∧ ρ = mk w') LtD ⟨w1, hw, h0⟩ (fun j ρ hj h => by
    obtain ⟨w', hw', rfl⟩ := h
    obtain ⟨p, w3, hw3, p1, e3⟩ := pk (ρ := (mk w').set v (.val (.int (j : Int)))) (i := 0) (m := m) (many := pool.length) hw' (by omega) (by omega) (hdr _ _) (hm2 _ _)
    rw [hset] at e3
    have hk : p < pool.length := by omega
    refine ⟨_, _, T [pool[p]], hg _ _, sg_l (hpool _ _) e3 hk (by omega), ⟨_, rfl, hp _ (List.getElem_mem hk)⟩, hcs _ _, w3, hw3, hun _ _⟩)
  obtain ⟨cs, e, h1, h2⟩ := mjoin_1 ec ha (by omega)
  exact ⟨cs, w2, hw2, h2, by omega, e⟩
end
end K09
set_option Elab.async false
set_option linter.all false
set_option maxRecDepth 100000
set_option maxHeartbeats 4000000
namespace K09
open PySem Mi
theorem rep_let {k : Nat} {l : List Nat} (h : ∀ c ∈ l, isL c) : ∀ c ∈ repN k l, isL c := fun c hc => h c (rep_mem hc)
theorem app_let {a b : List Nat} (h1 : ∀ c ∈ a, isL c) (h2 : ∀ c ∈ b, isL c) : ∀ c ∈ a ++ b, isL c := fun c hc => (List.mem_append.mp hc).elim (h1 c) (h2 c)
theorem one_let {c : Nat} (h : isL c) : ∀ e ∈ [c], isL e := fun e he => by rw [List.mem_singleton.mp he]; exact h
section
variable {ns : List Int}
noncomputable abbrev lpB : SM := (mIfS (mTst (mB (dOr dLt dLtS) (mVar 4) (mC (.int 2)))) (mSet 2 (mB (dOr dMul dMulS) (mVar 2) (mB dAdd (mC (.int 2)) (mCall [0] m__law_pick [] (mLend 0 (mArg (mC (.int 3)) mNil)))))) (mIfS (mTst (mB dEq (mVar 4) (mC (.int 2)))) (mSet 2 (mB dAdd (mVar 2) (mB (dOr dMul dMulS) (mVar 5) (mB dAdd (mC (.int 1)) (mCall [0] m__law_pick [] (mLend 0 (mArg (mC (.int 12)) mNil))))))) (mIfS (mTst (mB dEq (mVar 4) (mC (.int 3)))) (mSet 2 (mB dAdd (mVar 2) (mVar 5))) (mSet 2 (mB dAdd (mVar 5) (mVar 2))))))
theorem lpB_ok {w : Ow} {s1 s3 : Sl} {row : List Nat} {kind c : Nat} (hw : Dr ns w) (hr : ∀ e ∈ row, isL e) (hl : row.length ≤ 40) (hc : isL c) : ∃ w' row', Dr ns w' ∧ (∀ e ∈ row', isL e) ∧ row'.length ≤ 1000 ∧
    lpB (lo w s1 (.val (T row)) s3 (.val (.int (kind : Int))) (.val (T [c])) .un) = .nx (lo w' s1 (.val (T row')) s3 (.val (.int (kind : Int))) (.val (T [c])) .un) := by
  let σ := lo w s1 (.val (T row)) s3 (.val (.int (kind : Int))) (.val (T [c])) .un
  have t1 := lto_i (ρ := σ) (ma := mVar 4) (mb := mC (.int 2)) (a := kind) (b := 2) (var_val rfl) rfl
  by_cases k1 : (kind : Int) < 2
  · rw [decide_eq_true k1] at t1
    obtain ⟨p, w1, hw1, p1, e1⟩ := pk (ρ := σ) (i := 0) (m := mC (.int 3)) (many := 3) hw (by omega) (by omega) rfl rfl
    have := mulT (l := row) (k := 2 + p) (var_val (ρ := σ) (i := 2) rfl) (addN (cN 2) e1) (by omega) (by omega)
    refine ⟨w1, repN (2 + p) row, hw1, rep_let hr, ?_, (if_tt t1).trans (set_d this rfl)⟩
    rw [rep_len]
    have : (2 + p) * row.length ≤ 5 * 40 := Nat.mul_le_mul (by omega) hl
    omega
  · rw [decide_eq_false k1] at t1
    have t2 := eqN (ρ := σ) (ma := mVar 4) (mb := mC (.int 2)) (a := kind) (b := 2) (var_val rfl) rfl
    by_cases k2 : kind = 2
    · rw [decide_eq_true k2] at t2
      obtain ⟨p, w1, hw1, p1, e1⟩ := pk (ρ := σ) (i := 0) (m := mC (.int 12)) (many := 12) hw (by omega) (by omega) rfl rfl
      have h1 := mulT (l := [c]) (k := 1 + p) (var_val (ρ := σ) (i := 5) rfl) (addN (cN 1) e1) (by omega) (by simp)
      have hlen : (repN (1 + p) [c]).length ≤ 12 := by
        rw [rep_len, List.length_singleton]
        omega
      have := addS (a := row) (var_val (ρ := σ) (i := 2) rfl) h1 (by omega)
      refine ⟨w1, row ++ repN (1 + p) [c], hw1, app_let hr (rep_let (one_let hc)), by rw [List.length_append]; omega, (if_ff t1).trans ((if_tt t2).trans (set_d this rfl))⟩
    · rw [decide_eq_false k2] at t2
      have t3 := eqN (ρ := σ) (ma := mVar 4) (mb := mC (.int 3)) (a := kind) (b := 3) (var_val rfl) rfl
      by_cases k3 : kind = 3
      · rw [decide_eq_true k3] at t3
        have := addS (a := row) (b := [c]) (var_val (ρ := σ) (i := 2) rfl) (var_val (ρ := σ) (i := 5) rfl) (by simp; omega)
        exact ⟨w, row ++ [c], hw, app_let hr (one_let hc), by simp; omega, (if_ff t1).trans ((if_ff t2).trans ((if_tt t3).trans (set_d this rfl)))⟩
      · rw [decide_eq_false k3] at t3
        have := addS (a := [c]) (b := row) (var_val (ρ := σ) (i := 5) rfl) (var_val (ρ := σ) (i := 2) rfl) (by simp; omega)
        exact ⟨w, [c] ++ row, hw, app_let (one_let hc) hr, by simp; omega, (if_ff t1).trans ((if_ff t2).trans ((if_ff t3).trans (set_d this rfl)))⟩
theorem letters_ok {w : Ow} (hw : Dr ns w) : ∃ w' row, Dr ns w' ∧ (∀ e ∈ row, isL e) ∧ row.length ≤ 40 ∧ m__law_letters_of [.own true w] = .ok (.v (T row)) [w'] := by
  have e1 : b__law_letters_of_1 (lo w .un .un .un .un .un .un) = .nx (lo w (.val (T abc)) .un .un .un .un .un) := by
    unfold b__law_letters_of_1
    exact set_d (mC_s lit_abc) rfl
  -- the pool
  obtain ⟨p1, w1, hw1, p1l, q1⟩ := pk (ρ := lo w (.val (T abc)) .un .un .un .un .un) (i := 0) (m := mC (.int 3)) (many := 3) hw (by omega) (by omega) rfl rfl
  obtain ⟨pool, w2, hw2, hpool, lpool, q2⟩ := draw_l (i := 0) (v := 3) (me := mB dAdd (mC (.int 1)) (mCall [0] m__law_pick [] (mLend 0 (mArg (mC (.int 3)) mNil)))) (m := mC (.int 26)) (pool := abc) (mk := fun w => lo w (.val (T abc)) .un .un .un .un .un) rfl (n := 1 + p1) (by omega) (addN (cN 1) q1) rfl hw1 rfl abc_l ⟨by decide, by decide⟩
    (fun _ _ => rfl) (fun _ _ => rfl) (fun _ _ => rfl) (fun _ _ => rfl) (fun _ _ _ => rfl) (fun _ _ => rfl) (fun _ _ => rfl)
  have e2 : b__law_letters_of_2 (lo w (.val (T abc)) .un .un .un .un .un) = .nx (lo w2 (.val (T pool)) .un .un .un .un .un) := by
    unfold b__law_letters_of_2
    exact set_d q2 rfl
  have hpl : 1 ≤ pool.length ∧ pool.length ≤ 100 := by omega
  have plen : ∀ (ρ : En), ρ[1]? = some (.val (T pool)) → mCB (g1 dLen) (mCons (mVar 1) mNil) ρ = .ok (.d (.int (pool.length : Int))) ρ := fun ρ h => len_T h (by omega)
  -- the row
  obtain ⟨p3, w3, hw3, p3l, q3⟩ := pk (ρ := lo w2 (.val (T pool)) .un .un .un .un .un) (i := 0) (m := mC (.int 6)) (many := 6) hw2 (by omega) (by omega) rfl rfl
  obtain ⟨row, w4, hw4, hrow, lrow, q4⟩ := draw_l (i := 0) (v := 3) (me := mCall [0] m__law_pick [] (mLend 0 (mArg (mC (.int 6)) mNil))) (m := mCB (g1 dLen) (mCons (mVar 1) mNil)) (pool := pool) (mk := fun w => lo w (.val (T pool)) .un .un .un .un .un) rfl (n := p3) (by omega) q3 rfl hw3 rfl hpool hpl
    (fun _ _ => rfl) (fun _ _ => rfl) (fun _ _ => rfl) (fun _ _ => plen _ rfl) (fun _ _ _ => rfl) (fun _ _ => rfl) (fun _ _ => rfl)
  have e3 : b__law_letters_of_3 (lo w2 (.val (T pool)) .un .un .un .un .un) = .nx (lo w4 (.val (T pool)) (.val (T row)) .un .un .un .un) := by
    unfold b__law_letters_of_3
    exact set_d q4 rfl
  -- the turns
  obtain ⟨p5, w5, hw5, p5l, q5⟩ := pk (ρ := lo w4 (.val (T pool)) (.val (T row)) .un .un .un .un) (i := 0) (m := mC (.int 6)) (many := 6) hw4 (by omega) (by omega) rfl rfl
  have e4 : ∃ ρ', b__law_letters_of_4 (lo w4 (.val (T pool)) (.val (T row)) .un .un .un .un) = .nx ρ' ∧ ∃ w row s3 s4 s5, Dr ns w ∧ (∀ e ∈ row, isL e) ∧ row.length ≤ 40 ∧ Pl s3 ∧ Pl s4 ∧ Pl s5 ∧ ρ' = lo w (.val (T pool)) (.val (T row)) s3 s4 s5 .un := by
    unfold b__law_letters_of_4
    refine for_inv (n := p5) (by omega) q5 (fun _ ρ => ∃ w row s3 s4 s5, Dr ns w ∧ (∀ e ∈ row, isL e) ∧ row.length ≤ 40 ∧ Pl s3 ∧ Pl s4 ∧ Pl s5 ∧ ρ = lo w (.val (T pool)) (.val (T row)) s3 s4 s5 .un)
      ⟨w5, row, .un, .un, .un, hw5, hrow, by omega, .inl rfl, .inl rfl, .inl rfl, rfl⟩ (fun j ρ hj h => ?_)
    obtain ⟨w, row, s3, s4, s5, hw, hrow, lrow, h3, h4, h5, rfl⟩ := h
    obtain ⟨k, w1, hw1, kl, f1⟩ := pk (ρ := lo w (.val (T pool)) (.val (T row)) (.val (.int (j : Int))) s4 s5 .un) (i := 0) (m := mC (.int 5)) (many := 5) hw (by omega) (by omega) rfl rfl
    have g1' : mSet 4 (mCall [0] m__law_pick [] (mLend 0 (mArg (mC (.int 5)) mNil))) (lo w (.val (T pool)) (.val (T row)) (.val (.int (j : Int))) s4 s5 .un) = .nx (lo w1 (.val (T pool)) (.val (T row)) (.val (.int (j : Int))) (.val (.int (k : Int))) s5 .un) := set_d f1 (pl_set h4 rfl)
    obtain ⟨q, w2, hw2, ql, f2⟩ := pk (ρ := lo w1 (.val (T pool)) (.val (T row)) (.val (.int (j : Int))) (.val (.int (k : Int))) s5 .un) (i := 0) (m := mCB (g1 dLen) (mCons (mVar 1) mNil)) (many := pool.length) hw1 (by omega) (by omega) rfl (plen _ rfl)
    have hq : q < pool.length := by omega
    have g2 : mSet 5 (mB dIxS (mVar 1) (mCall [0] m__law_pick [] (mLend 0 (mArg (mCB (g1 dLen) (mCons (mVar 1) mNil)) mNil)))) (lo w1 (.val (T pool)) (.val (T row)) (.val (.int (j : Int))) (.val (.int (k : Int))) s5 .un) = .nx (lo w2 (.val (T pool)) (.val (T row)) (.val (.int (j : Int))) (.val (.int (k : Int))) (.val (T [pool[q]])) .un) := set_d (sg_l (var_val (i := 1) rfl) f2 hq (by omega)) (pl_set h5 rfl)
    obtain ⟨w3, row', hw3, hrow', lrow', g3⟩ := lpB_ok (s1 := .val (T pool)) (s3 := .val (.int (j : Int))) (kind := k) (c := pool[q]) hw2 hrow lrow (hpool _ (List.getElem_mem hq))
    have g4 : mSet 2 (mSlS (mVar 2) mNoP (mPart (mC (.int 40)))) (lo w3 (.val (T pool)) (.val (T row')) (.val (.int (j : Int))) (.val (.int (k : Int))) (.val (T [pool[q]])) .un) = .nx (lo w3 (.val (T pool)) (.val (T (row'.take 40))) (.val (.int (j : Int))) (.val (.int (k : Int))) (.val (T [pool[q]])) .un) := set_d (sl_to (b := 40) (var_val (i := 2) rfl) rfl (by omega)) rfl
    refine ⟨_, _, gN_pl h3 rfl, (seq_nx g1').trans ((seq_nx g2).trans ((seq_nx g3).trans g4)), w3, row'.take 40, _, _, _, hw3, fun e he => hrow' e (List.mem_of_mem_take he), by rw [List.length_take]; omega, .inr ⟨_, rfl⟩, .inr ⟨_, rfl⟩, .inr ⟨_, rfl⟩, rfl⟩
  obtain ⟨_, e4, w6, row6, s3, s4, s5, hw6, hrow6, lrow6, h3, h4, h5, rfl⟩ := e4
  -- one letter in the place of another
  have e5 : ∃ w7 row7 s6, Dr ns w7 ∧ (∀ e ∈ row7, isL e) ∧ row7.length ≤ 40 ∧ b__law_letters_of_5 (lo w6 (.val (T pool)) (.val (T row6)) s3 s4 s5 .un) = .nx (lo w7 (.val (T pool)) (.val (T row7)) s3 s4 s5 s6) := by
    unfold b__law_letters_of_5
    have t1 := gt_i (ρ := lo w6 (.val (T pool)) (.val (T row6)) s3 s4 s5 .un) (ma := mCB (g1 dLen) (mCons (mVar 2) mNil)) (mb := mC (.int 0)) (a := row6.length) (b := 0) (len_T (i := 2) rfl (by omega)) rfl
    by_cases k1 : (0 : Int) < row6.length
    · rw [decide_eq_true k1] at t1
      obtain ⟨p, w7, hw7, pl, f1⟩ := pk (ρ := lo w6 (.val (T pool)) (.val (T row6)) s3 s4 s5 .un) (i := 0) (m := mC (.int 3)) (many := 3) hw6 (by omega) (by omega) rfl rfl
      have t2 := eqN (mb := mC (.int 2)) (b := 2) f1 rfl
      by_cases k2 : p = 2
      · rw [decide_eq_true k2] at t2
        obtain ⟨q, w8, hw8, ql, f2⟩ := pk (ρ := lo w7 (.val (T pool)) (.val (T row6)) s3 s4 s5 .un) (i := 0) (m := mCB (g1 dLen) (mCons (mVar 2) mNil)) (many := row6.length) hw7 (by omega) (by omega) rfl (len_T rfl (by omega))
        have g1' : mSet 6 (mCall [0] m__law_pick [] (mLend 0 (mArg (mCB (g1 dLen) (mCons (mVar 2) mNil)) mNil))) (lo w7 (.val (T pool)) (.val (T row6)) s3 s4 s5 .un) = .nx (lo w8 (.val (T pool)) (.val (T row6)) s3 s4 s5 (.val (.int (q : Int)))) := set_d f2 rfl
        obtain ⟨r, w9, hw9, rl, f3⟩ := pk (ρ := lo w8 (.val (T pool)) (.val (T row6)) s3 s4 s5 (.val (.int (q : Int)))) (i := 0) (m := mCB (g1 dLen) (mCons (mVar 1) mNil)) (many := pool.length) hw8 (by omega) (by omega) rfl (plen _ rfl)
        have hr : r < pool.length := by omega
        have x1 := sl_to (ρ := lo w8 (.val (T pool)) (.val (T row6)) s3 s4 s5 (.val (.int (q : Int)))) (m := mVar 2) (l := row6) (b := q) (var_val rfl) (var_val (i := 6) rfl) (by omega)
        have x2 := sg_l (l := pool) (k := r) (ma := mVar 1) (var_val rfl) f3 hr (by omega)
        have x3 := sl_from (ρ := lo w9 (.val (T pool)) (.val (T row6)) s3 s4 s5 (.val (.int (q : Int)))) (m := mVar 2) (l := row6) (a := q + 1) (var_val rfl) (addN (a := q) (b := 1) (var_val (i := 6) rfl) (cN 1)) (by omega)
        have ltk : (row6.take q).length ≤ 40 := by rw [List.length_take]; omega
        have ldr : (row6.drop (q + 1)).length ≤ 40 := by rw [List.length_drop]; omega
        have x4 := addS (addS x1 x2 (by rw [List.length_singleton]; omega)) x3 (by rw [List.length_append, List.length_singleton]; omega)
        refine ⟨w9, row6.take q ++ [pool[r]] ++ row6.drop (q + 1), _, hw9, app_let (app_let (fun e he => hrow6 e (List.mem_of_mem_take he)) (one_let (hpool _ (List.getElem_mem hr)))) (fun e he => hrow6 e (List.mem_of_mem_drop he)), ?_, (if_tt (and_tt t1 t2)).trans ((seq_nx g1').trans (set_d x4 rfl))⟩
        rw [List.length_append, List.length_append, List.length_take, List.length_drop, List.length_singleton]
        omega
      · rw [decide_eq_false k2] at t2
        exact ⟨w7, row6, .un, hw7, hrow6, lrow6, skip_ok (and_tt t1 t2)⟩
    · rw [decide_eq_false k1] at t1
      exact ⟨w6, row6, .un, hw6, hrow6, lrow6, skip_ok (and_ff t1)⟩
  obtain ⟨w7, row7, s6, hw7, hrow7, lrow7, e5⟩ := e5
  refine ⟨w7, row7, hw7, hrow7, lrow7, ?_⟩
  unfold m__law_letters_of
  refine mDef_io (io := true) (ρ := lo w7 (.val (T pool)) (.val (T row7)) s3 s4 s5 s6) ?_ rfl
  show b__law_letters_of (lo w .un .un .un .un .un .un) = _
  unfold b__law_letters_of
  rw [seq_nx e1, seq_nx e2, seq_nx e3, seq_nx e4, seq_nx e5]
  unfold b__law_letters_of_6
  exact mRet_d (var_val rfl)
end
end K09
set_option Elab.async false
set_option linter.all false
set_option maxRecDepth 100000
set_option maxHeartbeats 4000000
namespace K09
open PySem Mi
theorem lit_ab : Str.ofString "ab" = S [97, 98] := by decide +kernel
def odS : List Nat := [65, 49, 40, 90, 32, 45, 126, 123, 46, 48]
theorem lit_od : Str.ofString "A1(Z -~{.0" = S odS := by decide +kernel
theorem od_no : ∀ c ∈ odS, ¬ isL c ∧ c < 1000 := by
  have : odS.all (fun c => !(decide (97 ≤ c) && decide (c ≤ 122)) && decide (c < 1000)) = true := by decide
  intro c hc
  have h := List.all_eq_true.mp this c hc
  simp only [Bool.and_eq_true, Bool.not_eq_true', Bool.and_eq_false_iff, decide_eq_false_iff_not, decide_eq_true_eq] at h
  unfold isL
  omega
def odL : List D := [.non, .int 7, .bl true, .lst [.str "a"], .tup [.str "a"], .int (-1)]
theorem od_lst {ρ : En} : mLst (mCons (mC .non) (mCons (mC (.int 7)) (mCons (mC (.bl true)) (mCons (mLst (mCons (mC (.str "a")) mNil)) (mCons (mTup (mCons (mC (.str "a")) mNil)) (mCons (mU dNeg (mC (.int 1))) mNil)))))) ρ = .ok (.n (.lst odL)) ρ := by
  simp [mLst, mTup, mCons, mNil, mC, mU, ap1, R.bind, OV.fz, escs, esc, OB.get, rz, dNeg, BIG, Ow.d, odL]
theorem od_str : ∀ d ∈ odL, tst_str.of d = some false := by
  intro d hd
  unfold odL at hd
  simp only [List.mem_cons, List.not_mem_nil, or_false] at hd
  rcases hd with rfl | rfl | rfl | rfl | rfl | rfl <;> rfl
theorem cmp_long : (D.str "long").cmp 40 = true := by decide +kernel
theorem cmp_calling : (D.str "calling").cmp 40 = true := by decide +kernel
abbrev rf (w : Ow) (row : List Nat) (s2 s3 s4 s5 s6 : Sl) : En := [.own true w, .val (T row), s2, s3, s4, s5, s6]
section
variable {ns : List Int}
theorem refusals_ok {w : Ow} {row : List Nat} (hw : Dr ns w) (hL : ∀ c ∈ row, isL c) (hl : row.length ≤ 40) : ∃ w', Dr ns w' ∧ m__law_refusals [.own true w, .val (T row)] = .ok (.v (.bl true)) [w'] := by
  -- how many
  obtain ⟨w1, many, hw1, hm1, hm2, e1⟩ : ∃ w1 many, Dr ns w1 ∧ 41 ≤ many ∧ many ≤ 400 ∧ b__law_refusals_1 (rf w row .un .un .un .un .un) = .nx (rf w1 row (.val (.int ((many : Nat) : Int))) .un .un .un .un) := by
    obtain ⟨p, wa, hwa, pl, f1⟩ := pk (ρ := rf w row .un .un .un .un .un) (i := 0) (m := mC (.int 2)) (many := 2) hw (by omega) (by omega) rfl rfl
    obtain ⟨bnd, hb, hb2, hix⟩ : ∃ bnd : Nat, 1 ≤ bnd ∧ bnd ≤ 360 ∧ ([D.int 2, D.int 360] : List D)[p]? = some (.int ((bnd : Nat) : Int)) := by
      match p, pl with
      | 0, _ => exact ⟨2, by omega, by omega, rfl⟩
      | 1, _ => exact ⟨360, by omega, by omega, rfl⟩
      | p + 2, h => omega
    have f2 := ix_new (lst2_ok (ma := mC (.int 2)) (mb := mC (.int 360)) (ρ := rf w row .un .un .un .un .un) rfl rfl) f1 hix
    obtain ⟨q, wb, hwb, q0, q1, hp⟩ := pick_ok hwa (many := (bnd : Int)) (by omega) (by omega)
    obtain ⟨q, rfl⟩ := Int.eq_ofNat_of_zero_le q0
    have f3 := call_io2 (f := m__law_pick) (i := 0) (ρ := rf w row .un .un .un .un .un) rfl f2 rfl rfl hp
    refine ⟨wb, 41 + q, hwb, by omega, by omega, ?_⟩
    unfold b__law_refusals_1
    exact set_d (addN (cN 41) f3) rfl
  -- the long calling
  let wide := (repN many (row ++ [97, 98])).take many
  have hab : ∀ c ∈ row ++ [97, 98], isL c := app_let hL (fun c hc => by
    unfold isL
    simp only [List.mem_cons, List.not_mem_nil, or_false] at hc
    omega)
  have hwl : wide.length = many := by
    show ((repN many (row ++ [97, 98])).take many).length = many
    rw [List.length_take, rep_len, List.length_append]
    have : many * 1 ≤ many * (row.length + [97, 98].length) := Nat.mul_le_mul_left _ (by simp <;> omega)
    omega
  have hwL : ∀ c ∈ wide, isL c := fun c hc => hab c (rep_mem (List.mem_of_mem_take hc))
  have hrl : (repN many (row ++ [97, 98])).length ≤ 100000 := by
    rw [rep_len, List.length_append]
    have : many * (row.length + [97, 98].length) ≤ 400 * 42 := Nat.mul_le_mul hm2 (by simp; omega)
    omega
  have e2 : b__law_refusals_2 (rf w1 row (.val (.int (many : Int))) .un .un .un .un) = .nx (rf w1 row (.val (.int (many : Int))) (.val (T (repN many (row ++ [97, 98])))) .un .un .un) := by
    unfold b__law_refusals_2
    exact set_d (mulT (addS (var_val (i := 1) rfl) (mC_s lit_ab) (by simp; omega)) (var_val (i := 2) rfl) (by omega) (by simp; omega)) rfl
  have e3 : b__law_refusals_3 (rf w1 row (.val (.int (many : Int))) (.val (T (repN many (row ++ [97, 98])))) .un .un .un) = .nx (rf w1 row (.val (.int (many : Int))) (.val (T wide)) .un .un .un) := by
    unfold b__law_refusals_3
    exact set_d (sl_to (var_val (i := 3) rfl) (var_val (i := 2) rfl) hrl) rfl
  -- the place
  obtain ⟨k, w4, hw4, kl, f4⟩ := pk (ρ := rf w1 row (.val (.int (many : Int))) (.val (T wide)) .un .un .un) (i := 0) (m := mB dAdd (mCB (g1 dLen) (mCons (mVar 1) mNil)) (mC (.int 1))) (many := ((row.length + 1 : Nat) : Int)) hw1 (by omega) (by omega) rfl (addN (len_T rfl (by omega)) (cN 1))
  have hk : k ≤ row.length := by omega
  have e4 : b__law_refusals_4 (rf w1 row (.val (.int (many : Int))) (.val (T wide)) .un .un .un) = .nx (rf w4 row (.val (.int (many : Int))) (.val (T wide)) (.val (.int (k : Int))) .un .un) := by
    unfold b__law_refusals_4
    exact set_d f4 rfl
  -- the sign
  obtain ⟨p5, w5, hw5, p5l, f5⟩ := pk (ρ := rf w4 row (.val (.int (many : Int))) (.val (T wide)) (.val (.int (k : Int))) .un .un) (i := 0) (m := mC (.int 10)) (many := 10) hw4 (by omega) (by omega) rfl rfl
  have hp5 : p5 < odS.length := by
    have : odS.length = 10 := rfl
    omega
  obtain ⟨c, hc⟩ : ∃ c, odS[p5] = c := ⟨_, rfl⟩
  have hcn := od_no c (by rw [← hc]; exact List.getElem_mem hp5)
  have e5 : b__law_refusals_5 (rf w4 row (.val (.int (many : Int))) (.val (T wide)) (.val (.int (k : Int))) .un .un) = .nx (rf w5 row (.val (.int (many : Int))) (.val (T wide)) (.val (.int (k : Int))) (.val (T [c])) .un) := by
    unfold b__law_refusals_5
    rw [← hc]
    exact set_d (sg_l (mC_s lit_od) f5 hp5 (by decide)) rfl
  -- what is no string
  obtain ⟨p6, w6, hw6, p6l, f6⟩ := pk (ρ := rf w5 row (.val (.int (many : Int))) (.val (T wide)) (.val (.int (k : Int))) (.val (T [c])) .un) (i := 0) (m := mC (.int 6)) (many := 6) hw5 (by omega) (by omega) rfl rfl
  have hp6 : p6 < odL.length := by
    have : odL.length = 6 := rfl
    omega
  obtain ⟨d, hd⟩ : ∃ d, odL[p6] = d := ⟨_, rfl⟩
  have hdn := od_str d (by rw [← hd]; exact List.getElem_mem hp6)
  have e6 : b__law_refusals_6 (rf w5 row (.val (.int (many : Int))) (.val (T wide)) (.val (.int (k : Int))) (.val (T [c])) .un) = .nx (rf w6 row (.val (.int (many : Int))) (.val (T wide)) (.val (.int (k : Int))) (.val (T [c])) (.val d)) := by
    unfold b__law_refusals_6
    exact set_d (ix_new od_lst f6 (by rw [List.getElem?_eq_getElem hp6, hd])) rfl
  let σ := rf w6 row (.val (.int (many : Int))) (.val (T wide)) (.val (.int (k : Int))) (.val (T [c])) (.val d)
  have r1 : mCall [] m__law_is_refused [] (mArg (mVar 3) (mArg (mC (.str "long")) (mArg (mVar 2) mNil))) σ = .ok (.d (.bl true)) σ := by
    have := fold_long hwL (by omega) (by omega)
    rw [hwl] at this
    exact call3 (f := m__law_is_refused) (v := .d (T wide)) (u := .d (.str "long")) (t := .d (.int (many : Int))) (var_val rfl) rfl rfl rfl (var_val rfl) rfl (refused_true cmp_long (told_l this))
  have r2 : mCall [] m__law_is_refused [] (mArg (mVar 6) (mArg (mC (.str "calling")) (mArg (mU dNeg (mC (.int 1))) mNil))) σ = .ok (.d (.bl true)) σ :=
    call3 (f := m__law_is_refused) (v := .d d) (u := .d (.str "calling")) (t := .d (.int (-1))) (var_val rfl) rfl rfl rfl (op1 (g := dNeg) (ma := mC (.int 1)) rfl rfl) rfl (refused_true cmp_calling (told_b (fold_non hdn)))
  have e7 : b__law_refusals_7 σ = .nx σ := by
    unfold b__law_refusals_7
    exact skip_ok (or_ff (not_ok (tst_ok r1)) (not_ok (tst_ok r2)))
  have ltk : (row.take k).length = k := by rw [List.length_take]; omega
  have hT : ∀ e ∈ row.take k, isL e := fun e he => hL e (List.mem_of_mem_take he)
  have s1 := sl_to (ρ := σ) (m := mVar 1) (l := row) (b := k) (var_val rfl) (var_val (i := 4) rfl) (by omega)
  have s2 := sl_from (ρ := σ) (m := mVar 1) (l := row) (a := k) (var_val rfl) (var_val (i := 4) rfl) (by omega)
  have v5 : mVar 5 σ = .ok (.d (T [c])) σ := var_val rfl
  have ldr : (row.drop k).length ≤ 40 := by rw [List.length_drop]; omega
  have a8 := addS (addS (addS s1 v5 (by rw [ltk]; simp; omega)) s2 (by rw [List.length_append, ltk]; simp; omega)) v5 (by rw [List.length_append, List.length_append, ltk]; simp; omega)
  have b8 : row.take k ++ [c] ++ row.drop k ++ [c] = row.take k ++ c :: (row.drop k ++ [c]) := by simp
  rw [b8] at a8
  have fb8 := fold_bad (r := row.drop k ++ [c]) hT hcn.1
  rw [ltk] at fb8
  have r3 : mCall [] m__law_is_refused [] (mArg (mB dAdd (mB dAdd (mB dAdd (mSlS (mVar 1) mNoP (mPart (mVar 4))) (mVar 5)) (mSlS (mVar 1) (mPart (mVar 4)) mNoP)) (mVar 5)) (mArg (mC (.str "calling")) (mArg (mVar 4) mNil))) σ = .ok (.d (.bl true)) σ :=
    call3 (f := m__law_is_refused) (u := .d (.str "calling")) (t := .d (.int (k : Int))) a8 rfl rfl rfl (var_val rfl) rfl (refused_true cmp_calling (told_b fb8))
  have e8 : b__law_refusals_8 σ = .nx σ := by
    unfold b__law_refusals_8
    exact skip_ok (not_ok (tst_ok r3))
  have ltw : (wide.take k).length = k := by rw [List.length_take, hwl]; omega
  have s3 := sl_to (ρ := σ) (m := mVar 3) (l := wide) (b := k) (var_val rfl) (var_val (i := 4) rfl) (by omega)
  have s4 := sl_from (ρ := σ) (m := mVar 3) (l := wide) (a := k + 1) (var_val rfl) (addN (a := k) (b := 1) (var_val (i := 4) rfl) (cN 1)) (by omega)
  have ldw : (wide.drop (k + 1)).length ≤ 400 := by rw [List.length_drop]; omega
  have a9 := addS (addS s3 v5 (by rw [ltw]; simp; omega)) s4 (by rw [List.length_append, ltw]; simp; omega)
  have b9 : wide.take k ++ [c] ++ wide.drop (k + 1) = wide.take k ++ c :: wide.drop (k + 1) := by simp
  rw [b9] at a9
  have fb9 := fold_bad (r := wide.drop (k + 1)) (fun e he => hwL e (List.mem_of_mem_take he) : ∀ e ∈ wide.take k, isL e) hcn.1
  rw [ltw] at fb9
  refine ⟨w6, hw6, ?_⟩
  unfold m__law_refusals
  refine mDef_io (io := true) (ρ := σ) ?_ rfl
  show b__law_refusals (rf w row .un .un .un .un .un) = _
  unfold b__law_refusals
  rw [seq_nx e1, seq_nx e2, seq_nx e3, seq_nx e4, seq_nx e5, seq_nx e6, seq_nx e7, seq_nx e8]
  unfold b__law_refusals_9
  exact mRet_d (call3 (f := m__law_is_refused) (u := .d (.str "calling")) (t := .d (.int (k : Int))) a9 rfl rfl rfl (var_val rfl) rfl (refused_true cmp_calling (told_b fb9)))
end
end K09
set_option Elab.async false
set_option linter.all false
set_option maxRecDepth 100000
set_option maxHeartbeats 4000000
namespace K09
open PySem Mi
abbrev askD (r : List Nat) : D := .tup [T r, T (due r)]
theorem cut1 (A : List D) : cutL A none (some ((1 : Nat) : Int)) = A.take 1 := by
  unfold cutL
  rw [HT.sIx_nat]
  cases A <;> simp [HT.sIx]
theorem table_due {w : List Nat} {kvs : List (List L2.Key × D)} (h : Hld w (tbD w) kvs (w.length + 1) 0) (h0 : lookT kvs (ky 0 0) = some (T [])) : lookT kvs [.inl ((0 : Nat) : Int), .inl (w.length : Int)] = some (T (due w)) := by
  unfold due
  by_cases c : w = []
  · subst c
    rw [if_pos rfl]
    exact h0
  · rw [if_neg c]
    have h1 : 1 ≤ w.length := by
      cases w with
      | nil => exact absurd rfl c
      | cons => simp
    have := h w.length 0 h1 (.inl (by omega)) (by omega)
    rw [show ky 0 w.length = [.inl ((0 : Nat) : Int), .inl (w.length : Int)] by unfold ky; rw [Nat.zero_add]] at this
    exact this
abbrev lw (ns : List Int) (w : Ow) (A : List D) (s3 s4 s5 s6 s7 s8 : Sl) : En := [.val (.frl (zs ns)), .own false w, .own false (.lst A), s3, s4, s5, s6, s7, s8]
noncomputable abbrev lawB : SM := (mSeq (mSet 4 (mCall [0] m__law_letters_of [] (mLend 1 mNil))) (mSeq (mSet 5 (mCall [] m__law_table [] (mArg (mVar 4) mNil))) (mSeq (mSet 6 (mCall [0] m__law_pick [] (mLend 1 (mArg (mB dAdd (mCB (g1 dLen) (mCons (mVar 4) mNil)) (mC (.int 1))) mNil)))) (mSeq (mSet 7 (mB dAdd (mVar 6) (mCall [0] m__law_pick [] (mLend 1 (mArg (mB dAdd (mB dSub (mCB (g1 dLen) (mCons (mVar 4) mNil)) (mVar 6)) (mC (.int 1))) mNil))))) (mSeq (mDrop (mAppend 2 (mTup (mCons (mVar 4) (mCons (mGetT (mVar 5) (mCons (mC (.int 0)) (mCons (mCB (g1 dLen) (mCons (mVar 4) mNil)) mNil))) mNil))))) (mIfS (mTst (mB (dOr dLt dLtS) (mVar 6) (mVar 7))) (mDrop (mAppend 2 (mTup (mCons (mSlS (mVar 4) (mPart (mVar 6)) (mPart (mVar 7))) (mCons (mGetT (mVar 5) (mCons (mVar 6) (mCons (mVar 7) mNil))) mNil))))) mNext))))))
def Good (A : List (List Nat)) : Prop := ∀ r ∈ A, (∀ c ∈ r, isL c) ∧ r.length ≤ 40
section
variable {ns : List Int}
theorem lawB_ok {w : Ow} {A : List (List Nat)} {s3 s4 s5 s6 s7 : Sl} (hw : Dr ns w) (hA : Good A) (lA : A.length ≤ 10) (h4 : Cs s4) (h5 : Cs s5) (h6 : Cs s6) (h7 : Cs s7) :
    ∃ w' A' s4' s5' s6' s7', Dr ns w' ∧ Good A' ∧ A'.length ≤ A.length + 2 ∧ A' ≠ [] ∧ Cs s4' ∧ Cs s5' ∧ Cs s6' ∧ Cs s7' ∧ lawB (lw ns w (A.map askD) s3 s4 s5 s6 s7 .un) = .nx (lw ns w' (A'.map askD) s3 s4' s5' s6' s7' .un) := by
  obtain ⟨w1, row, hw1, hL, hl, f1⟩ := letters_ok hw
  have t1 : mSet 4 (mCall [0] m__law_letters_of [] (mLend 1 mNil)) (lw ns w (A.map askD) s3 s4 s5 s6 s7 .un) = .nx (lw ns w1 (A.map askD) s3 (.val (T row)) s5 s6 s7 .un) := set_d (lend0 (f := m__law_letters_of) (i := 1) (io := false) rfl f1) (cs_set h4 rfl)
  obtain ⟨kvs, f2, hh, h0⟩ := table_ok hL hl
  have t2 : mSet 5 (mCall [] m__law_table [] (mArg (mVar 4) mNil)) (lw ns w1 (A.map askD) s3 (.val (T row)) s5 s6 s7 .un) = .nx (lw ns w1 (A.map askD) s3 (.val (T row)) (.own false (.dt kvs)) s6 s7 .un) := set_n (call1n (f := m__law_table) (v := .d (T row)) (var_val (i := 4) rfl) rfl f2) (cs_set h5 rfl)
  obtain ⟨a, w3, hw3, al, f3⟩ := pk (ρ := lw ns w1 (A.map askD) s3 (.val (T row)) (.own false (.dt kvs)) s6 s7 .un) (i := 1) (m := mB dAdd (mCB (g1 dLen) (mCons (mVar 4) mNil)) (mC (.int 1))) (many := ((row.length + 1 : Nat) : Int)) hw1 (by omega) (by omega) rfl (addN (len_T rfl (by omega)) (cN 1))
  have ha : a ≤ row.length := by omega
  have t3 : mSet 6 (mCall [0] m__law_pick [] (mLend 1 (mArg (mB dAdd (mCB (g1 dLen) (mCons (mVar 4) mNil)) (mC (.int 1))) mNil))) (lw ns w1 (A.map askD) s3 (.val (T row)) (.own false (.dt kvs)) s6 s7 .un) = .nx (lw ns w3 (A.map askD) s3 (.val (T row)) (.own false (.dt kvs)) (.val (.int (a : Int))) s7 .un) := set_d f3 (cs_set h6 rfl)
  obtain ⟨b, w4, hw4, bl, f4⟩ := pk (ρ := lw ns w3 (A.map askD) s3 (.val (T row)) (.own false (.dt kvs)) (.val (.int (a : Int))) s7 .un) (i := 1) (m := mB dAdd (mB dSub (mCB (g1 dLen) (mCons (mVar 4) mNil)) (mVar 6)) (mC (.int 1))) (many := ((row.length - a + 1 : Nat) : Int)) hw3 (by omega) (by omega) rfl (addN (subN ha (len_T rfl (by omega)) (var_val (i := 6) rfl)) (cN 1))
  have hb : a + b ≤ row.length := by omega
  have t4 : mSet 7 (mB dAdd (mVar 6) (mCall [0] m__law_pick [] (mLend 1 (mArg (mB dAdd (mB dSub (mCB (g1 dLen) (mCons (mVar 4) mNil)) (mVar 6)) (mC (.int 1))) mNil)))) (lw ns w3 (A.map askD) s3 (.val (T row)) (.own false (.dt kvs)) (.val (.int (a : Int))) s7 .un) = .nx (lw ns w4 (A.map askD) s3 (.val (T row)) (.own false (.dt kvs)) (.val (.int (a : Int))) (.val (.int ((a + b : Nat) : Int))) .un) := set_d (addN (var_val (i := 6) rfl) f4) (cs_set h7 rfl)
  have g5 : mGetT (mVar 5) (mCons (mC (.int 0)) (mCons (mCB (g1 dLen) (mCons (mVar 4) mNil)) mNil)) (lw ns w4 (A.map askD) s3 (.val (T row)) (.own false (.dt kvs)) (.val (.int (a : Int))) (.val (.int ((a + b : Nat) : Int))) .un) = .ok (.d (T (due row))) (lw ns w4 (A.map askD) s3 (.val (T row)) (.own false (.dt kvs)) (.val (.int (a : Int))) (.val (.int ((a + b : Nat) : Int))) .un) :=
    getT_ok (a := ((0 : Nat) : Int)) (b := (row.length : Int)) rfl rfl (len_T rfl (by omega)) (table_due hh h0)
  have t5 : mDrop (mAppend 2 (mTup (mCons (mVar 4) (mCons (mGetT (mVar 5) (mCons (mC (.int 0)) (mCons (mCB (g1 dLen) (mCons (mVar 4) mNil)) mNil))) mNil)))) (lw ns w4 (A.map askD) s3 (.val (T row)) (.own false (.dt kvs)) (.val (.int (a : Int))) (.val (.int ((a + b : Nat) : Int))) .un) = .nx (lw ns w4 ((A ++ [row]).map askD) s3 (.val (T row)) (.own false (.dt kvs)) (.val (.int (a : Int))) (.val (.int ((a + b : Nat) : Int))) .un) := by
    rw [List.map_append]
    exact drop_ok (append_ok rfl (tup2_ok (var_val (i := 4) rfl) g5) rfl (by rw [List.length_map]; omega))
  have hA1 : Good (A ++ [row]) := fun r hr => by
    rcases List.mem_append.mp hr with hr | hr
    · exact hA r hr
    · rw [List.mem_singleton.mp hr]
      exact ⟨hL, hl⟩
  let σ := lw ns w4 ((A ++ [row]).map askD) s3 (.val (T row)) (.own false (.dt kvs)) (.val (.int (a : Int))) (.val (.int ((a + b : Nat) : Int))) .un
  have t6 := lto_i (ρ := σ) (ma := mVar 6) (mb := mVar 7) (a := (a : Int)) (b := ((a + b : Nat) : Int)) (var_val rfl) (var_val rfl)
  by_cases c : (a : Int) < ((a + b : Nat) : Int)
  · rw [decide_eq_true c] at t6
    have x1 := slS_ok (ρ := σ) (m := mVar 4) (l := row) (a := a) (b := a + b) (var_val rfl) (var_val (i := 6) rfl) (var_val (i := 7) rfl) (by omega)
    rw [show a + b - a = b by omega] at x1
    have x2 : mGetT (mVar 5) (mCons (mVar 6) (mCons (mVar 7) mNil)) σ = .ok (.d (T (due (sl row a b)))) σ := by
      refine getT_ok rfl (var_val (i := 6) rfl) (var_val (i := 7) rfl) ?_
      rw [due_sub (by omega) hb]
      exact hh b a (by omega) (.inl (by omega)) hb
    refine ⟨w4, A ++ [row] ++ [sl row a b], .val (T row), .own false (.dt kvs), .val (.int (a : Int)), .val (.int ((a + b : Nat) : Int)), hw4, fun r hr => ?_, by simp, by simp, .inr (.inl ⟨_, rfl⟩), .inr (.inr ⟨_, rfl⟩), .inr (.inl ⟨_, rfl⟩), .inr (.inl ⟨_, rfl⟩),
      (seq_nx t1).trans ((seq_nx t2).trans ((seq_nx t3).trans ((seq_nx t4).trans ((seq_nx t5).trans ((if_tt t6).trans ?_)))))⟩
    · rcases List.mem_append.mp hr with hr | hr
      · exact hA1 r hr
      · rw [List.mem_singleton.mp hr]
        refine ⟨fun c hc => hL c (List.mem_of_mem_drop (List.mem_of_mem_take hc)), ?_⟩
        rw [sl_len hb]
        omega
    · rw [List.map_append (l₁ := A ++ [row])]
      exact drop_ok (append_ok rfl (tup2_ok x1 x2) rfl (by rw [List.length_map, List.length_append, List.length_singleton]; omega))
  · rw [decide_eq_false c] at t6
    exact ⟨w4, A ++ [row], .val (T row), .own false (.dt kvs), .val (.int (a : Int)), .val (.int ((a + b : Nat) : Int)), hw4, hA1, by simp, by simp, .inr (.inl ⟨_, rfl⟩), .inr (.inr ⟨_, rfl⟩), .inr (.inl ⟨_, rfl⟩), .inr (.inl ⟨_, rfl⟩), (seq_nx t1).trans ((seq_nx t2).trans ((seq_nx t3).trans ((seq_nx t4).trans ((seq_nx t5).trans (skip_ok t6)))))⟩
end
theorem gT_cs {ns : List Int} {w : Ow} {A : List D} {s3 s4 s5 s6 s7 s8 : Sl} {r t : List Nat} (h4 : Cs s4) (h8 : Cs s8) : gT [4, 8] (.one (.tup [T r, T t])) (lw ns w A s3 s4 s5 s6 s7 s8) = some (lw ns w A s3 (.val (T r)) s5 s6 s7 (.val (T t))) := by
  rcases h4 with rfl | ⟨v, rfl⟩ | ⟨o, rfl⟩ <;> rcases h8 with rfl | ⟨u, rfl⟩ | ⟨p, rfl⟩ <;> rfl
theorem hlaw (ns : List Int) (hl : ns.length ≤ 63) : m_law [.val (.frl (ns.map D.int))] = .ok (.v (.bl true)) [] := by
  obtain ⟨w0, hw0, ed⟩ := draw_ok hl
  have e1 : b_law_1 [.val (.frl (zs ns)), .un, .un, .un, .un, .un, .un, .un, .un] = .nx [.val (.frl (zs ns)), .own false w0, .un, .un, .un, .un, .un, .un, .un] := by
    unfold b_law_1
    exact set_n (call1n (f := m__law_draw) (v := .d (.frl (zs ns))) (var_val (i := 0) rfl) rfl ed) rfl
  have e2 : b_law_2 [.val (.frl (zs ns)), .own false w0, .un, .un, .un, .un, .un, .un, .un] = .nx (lw ns w0 [] .un .un .un .un .un .un) := by
    unfold b_law_2
    exact set_n nil_lst rfl
  have e3 : ∃ ρ', b_law_3 (lw ns w0 [] .un .un .un .un .un .un) = .nx ρ' ∧ ∃ w A s3 s4 s5 s6 s7, Dr ns w ∧ Good A ∧ A.length ≤ 2 * 2 ∧ (2 ≠ 0 → A ≠ []) ∧ Pl s3 ∧ Cs s4 ∧ Cs s5 ∧ Cs s6 ∧ Cs s7 ∧ ρ' = lw ns w (A.map askD) s3 s4 s5 s6 s7 .un := by
    unfold b_law_3
    refine for_inv (me := mC (.int 2)) (n := 2) (by omega) rfl (fun j ρ => ∃ w A s3 s4 s5 s6 s7, Dr ns w ∧ Good A ∧ A.length ≤ 2 * j ∧ (j ≠ 0 → A ≠ []) ∧ Pl s3 ∧ Cs s4 ∧ Cs s5 ∧ Cs s6 ∧ Cs s7 ∧ ρ = lw ns w (A.map askD) s3 s4 s5 s6 s7 .un)
      ⟨w0, [], .un, .un, .un, .un, .un, hw0, fun _ h => (nomatch h), by simp, fun h => absurd rfl h, .inl rfl, .inl rfl, .inl rfl, .inl rfl, .inl rfl, rfl⟩ (fun j ρ hj h => ?_)
    obtain ⟨w, A, s3, s4, s5, s6, s7, hw, hA, lA, _, h3, h4, h5, h6, h7, rfl⟩ := h
    obtain ⟨w', A', s4', s5', s6', s7', hw', hA', lA', hne, k4, k5, k6, k7, e⟩ := lawB_ok (s3 := .val (.int (j : Int))) hw hA (by omega) h4 h5 h6 h7
    exact ⟨_, _, gN_pl h3 rfl, e, w', A', _, s4', s5', s6', s7', hw', hA', by omega, fun _ => hne, .inr ⟨_, rfl⟩, k4, k5, k6, k7, rfl⟩
  obtain ⟨_, e3, w, A, s3, s4, s5, s6, s7, hw, hA, lA, hne, h3, h4, h5, h6, h7, rfl⟩ := e3
  obtain ⟨r0, rs, rfl⟩ : ∃ r0 rs, A = r0 :: rs := by
    cases A with
    | nil => exact absurd rfl (hne (by decide))
    | cons r rs => exact ⟨r, rs, rfl⟩
  obtain ⟨hL0, hl0⟩ := hA r0 (List.mem_cons_self ..)
  obtain ⟨w4, hw4, f4⟩ := refusals_ok hw hL0 hl0
  have e4 : b_law_4 (lw ns w ((r0 :: rs).map askD) s3 s4 s5 s6 s7 .un) = .nx (lw ns w4 ((r0 :: rs).map askD) s3 s4 s5 s6 s7 .un) := by
    have x0 : mB dIx (mVar 2) (mC (.int 0)) (lw ns w ((r0 :: rs).map askD) s3 s4 s5 s6 s7 .un) = .ok (.d (askD r0)) (lw ns w ((r0 :: rs).map askD) s3 s4 s5 s6 s7 .un) := ixl (k := 0) (i := 2) rfl (.inr ⟨_, rfl, rfl⟩) rfl
    have x1 : mB dIx (mB dIx (mVar 2) (mC (.int 0))) (mC (.int 0)) (lw ns w ((r0 :: rs).map askD) s3 s4 s5 s6 s7 .un) = .ok (.d (T r0)) (lw ns w ((r0 :: rs).map askD) s3 s4 s5 s6 s7 .un) := op2 (g := dIx) x0 (show mC (.int 0) _ = .ok (.d (.int 0)) _ from rfl) rfl
    unfold b_law_4
    exact skip_ok (not_ok (tst_ok (call_io (f := m__law_refusals) (i := 1) (io := false) (v := .d (T r0)) rfl x1 rfl rfl f4)))
  have e5 : ∃ ρ', b_law_5 (lw ns w4 ((r0 :: rs).map askD) s3 s4 s5 s6 s7 .un) = .nx ρ' ∧ ∃ s4 s8, Cs s4 ∧ Cs s8 ∧ ρ' = lw ns w4 ((r0 :: rs).map askD) s3 s4 s5 s6 s7 s8 := by
    have hr : mSeqI (mB dAdd (mVar 2) (mSl (mVar 2) mNoP (mPart (mC (.int 1))))) (lw ns w4 ((r0 :: rs).map askD) s3 s4 s5 s6 s7 .un) = .ok ((r0 :: rs ++ [r0]).map fun r => IV.one (askD r)) (lw ns w4 ((r0 :: rs).map askD) s3 s4 s5 s6 s7 .un) := by
      have hv : mVar 2 (lw ns w4 ((r0 :: rs).map askD) s3 s4 s5 s6 s7 .un) = .ok (.o 2) (lw ns w4 ((r0 :: rs).map askD) s3 s4 s5 s6 s7 .un) := rfl
      have hg : (OB.o 2).get (lw ns w4 ((r0 :: rs).map askD) s3 s4 s5 s6 s7 .un) = some (.lst ((r0 :: rs).map askD)) := rfl
      have hs : mSl (mVar 2) mNoP (mPart (mC (.int 1))) (lw ns w4 ((r0 :: rs).map askD) s3 s4 s5 s6 s7 .un) = .ok (.n (.lst [askD r0])) (lw ns w4 ((r0 :: rs).map askD) s3 s4 s5 s6 s7 .un) := by
        have hc := cut1 ((r0 :: rs).map askD)
        unfold mSl
        rw [hv]
        simp only [R.bind, mNoP]
        rw [part_ok (m := mC (.int 1)) (i := 1) rfl]
        show apSl (.o 2) none (some ((1 : Nat) : Int)) _ = _
        unfold apSl
        rw [hg]
        simp only
        rw [hc]
        rfl
      have hadd : mB dAdd (mVar 2) (mSl (mVar 2) mNoP (mPart (mC (.int 1)))) (lw ns w4 ((r0 :: rs).map askD) s3 s4 s5 s6 s7 .un) = .ok (.d (.lst ((r0 :: rs).map askD ++ [askD r0]))) (lw ns w4 ((r0 :: rs).map askD) s3 s4 s5 s6 s7 .un) := by
        unfold mB
        rw [hv]
        simp only [R.bind]
        rw [hs]
        show ap2 dAdd (.o 2) (.d (.lst [askD r0])) _ = _
        unfold ap2
        rw [hg]
        show rz (dAdd (.lst ((r0 :: rs).map askD)) (.lst [askD r0])) _ = _
        have : dAdd (.lst ((r0 :: rs).map askD)) (.lst [askD r0]) = some (.lst ((r0 :: rs).map askD ++ [askD r0])) := if_pos (by rw [List.length_map, List.length_singleton]; unfold BIG; omega)
        rw [this]
        rfl
      unfold mSeqI
      rw [hadd]
      show R.ok (((r0 :: rs).map askD ++ [askD r0]).map IV.one) _ = _
      rw [show (r0 :: rs).map askD ++ [askD r0] = (r0 :: rs ++ [r0]).map askD by rw [List.map_append]; rfl, List.map_map]
      rfl
    unfold b_law_5
    refine for_gen (gm := gT [4, 8]) hr (fun r => (∀ c ∈ r, isL c) ∧ r.length ≤ 40) (fun _ ρ => ∃ s4 s8, Cs s4 ∧ Cs s8 ∧ ρ = lw ns w4 ((r0 :: rs).map askD) s3 s4 s5 s6 s7 s8) (fun r hr => ?_) ⟨s4, .un, h4, .inl rfl, rfl⟩ (fun pre r ρ _ hp hi => ?_)
    · rcases List.mem_append.mp hr with hr | hr
      · exact hA r hr
      · rw [List.mem_singleton.mp hr]
        exact ⟨hL0, hl0⟩
    · obtain ⟨s4, s8, k4, k8, rfl⟩ := hi
      have hf := call2 (f := m__law_is_folded) (ρ := lw ns w4 ((r0 :: rs).map askD) s3 (.val (T r)) s5 s6 s7 (.val (T (due r)))) (v := .d (T r)) (u := .d (T (due r))) (var_val (i := 4) rfl) rfl (var_val (i := 8) rfl) rfl (folded_all hp.1 hp.2)
      exact ⟨_, _, gT_cs k4 k8, skip_ok (not_ok (tst_ok hf)), _, _, .inr (.inl ⟨_, rfl⟩), .inr (.inl ⟨_, rfl⟩), rfl⟩
  obtain ⟨_, e5, s4', s8', _, _, rfl⟩ := e5
  unfold m_law
  refine mDef_rt (ρ := lw ns w4 ((r0 :: rs).map askD) s3 s4' s5 s6 s7 s8') ?_
  show b_law [.val (.frl (zs ns)), .un, .un, .un, .un, .un, .un, .un, .un] = _
  unfold b_law
  rw [seq_nx e1, seq_nx e2, seq_nx e3, seq_nx e4, seq_nx e5]
  unfold b_law_6
  exact mRet_d rfl
end K09
set_option Elab.async false
set_option linter.all false
set_option maxRecDepth 100000
set_option maxHeartbeats 4000000
namespace K09
open PySem PySem.Spec PyProof.Rows L2 Mi PySem.MiX
def top (i : Nat) : Stmt := PySem.Challenge.pw_truetouch_k09_whole_shortest_calling.main.body.getD i (.Pass ⟨0, 0, 0, 0⟩)
abbrev FnP (K : PySem.W.Frag) (x : Str) (st : Stmt) (f : Addr) (fd : FuncData) : Prop := FunD K x x (defArgs st) (defBody st) (defScope st) [] [] f fd
abbrev FnQ (K : PySem.W.Frag) (x q : Str) (st : Stmt) (f : Addr) (fd : FuncData) : Prop := FunD K x q (defArgs st) (defBody st) (defScope st) [] [] f fd
structure Tx (P : Program) (K : PySem.W.Frag) (mg : Str → Option Value) (AA : Str → Addr) : Prop where
  k_CallReader : mg "CallReader" = some (.ref (AA "CallReader")) ∧ Cls K (AA "CallReader")
  fld : FldT K mg flds
  d__law_draw : ∃ f fd, FnP K "_law_draw" (top 26) f fd ∧ mg "_law_draw" = some (.ref f)
  d_repeats : ∃ f fd, FnP K "repeats" (top 10) f fd ∧ mg "repeats" = some (.ref f)
  d_call_pieces : ∃ f fd, FnP K "call_pieces" (top 23) f fd ∧ mg "call_pieces" = some (.ref f)
  d_by_length : ∃ f fd, FnP K "by_length" (top 7) f fd ∧ mg "by_length" = some (.ref f)
  d_best_row : ∃ f fd, FnP K "best_row" (top 9) f fd ∧ mg "best_row" = some (.ref f)
  d_folded : ∃ f fd, FnP K "folded" (top 8) f fd ∧ mg "folded" = some (.ref f)
  d_is_letter : ∃ f fd, FnP K "is_letter" (top 13) f fd ∧ mg "is_letter" = some (.ref f)
  d_fold_calling : ∃ f fd, FnP K "fold_calling" (top 22) f fd ∧ mg "fold_calling" = some (.ref f)
  d__law_told : ∃ f fd, FnP K "_law_told" (top 34) f fd ∧ mg "_law_told" = some (.ref f)
  d_CallReader___init__ : ∃ f fd, FnQ K "__init__" "TextReader.__init__" (inClass (top 17) 0) f fd ∧ Mk K (AA "CallReader") f
  d_CallReader_digits : ∃ f fd, FnQ K "digits" "TextReader.digits" (inClass (top 17) 2) f fd ∧ Meth K (AA "CallReader") "digits" f
  d_CallReader_go_in : ∃ f fd, FnQ K "go_in" "TextReader.go_in" (inClass (top 17) 4) f fd ∧ Meth K (AA "CallReader") "go_in" f
  d_CallReader_go_out : ∃ f fd, FnQ K "go_out" "TextReader.go_out" (inClass (top 17) 5) f fd ∧ Meth K (AA "CallReader") "go_out" f
  d_CallReader_sign : ∃ f fd, FnQ K "sign" "TextReader.sign" (inClass (top 17) 1) f fd ∧ Meth K (AA "CallReader") "sign" f
  d_number_told : ∃ f fd, FnP K "number_told" (top 14) f fd ∧ mg "number_told" = some (.ref f)
  d_CallReader_take_number : ∃ f fd, FnQ K "take_number" "TextReader.take_number" (inClass (top 17) 3) f fd ∧ Meth K (AA "CallReader") "take_number" f
  d_CallReader_one_item : ∃ f fd, FnQ K "one_item" "CallReader.one_item" (inClass (top 24) 1) f fd ∧ Meth K (AA "CallReader") "one_item" f
  d_CallReader_all_items : ∃ f fd, FnQ K "all_items" "CallReader.all_items" (inClass (top 24) 0) f fd ∧ Meth K (AA "CallReader") "all_items" f
  d_read_calling : ∃ f fd, FnP K "read_calling" (top 21) f fd ∧ mg "read_calling" = some (.ref f)
  d__law_is_folded : ∃ f fd, FnP K "_law_is_folded" (top 35) f fd ∧ mg "_law_is_folded" = some (.ref f)
  d__law_mix : ∃ f fd, FnP K "_law_mix" (top 27) f fd ∧ mg "_law_mix" = some (.ref f)
  d__law_pick : ∃ f fd, FnP K "_law_pick" (top 28) f fd ∧ mg "_law_pick" = some (.ref f)
  d__law_letters_of : ∃ f fd, FnP K "_law_letters_of" (top 30) f fd ∧ mg "_law_letters_of" = some (.ref f)
  d__law_is_int : ∃ f fd, FnP K "_law_is_int" (top 29) f fd ∧ mg "_law_is_int" = some (.ref f)
  d__law_is_refused : ∃ f fd, FnP K "_law_is_refused" (top 36) f fd ∧ mg "_law_is_refused" = some (.ref f)
  d__law_refusals : ∃ f fd, FnP K "_law_refusals" (top 37) f fd ∧ mg "_law_refusals" = some (.ref f)
  d__law_first : ∃ f fd, FnP K "_law_first" (top 31) f fd ∧ mg "_law_first" = some (.ref f)
  d__law_texts : ∃ f fd, FnP K "_law_texts" (top 32) f fd ∧ mg "_law_texts" = some (.ref f)
  d__law_table : ∃ f fd, FnP K "_law_table" (top 33) f fd ∧ mg "_law_table" = some (.ref f)
  d_law : ∃ f fd, FnP K "law" (top 38) f fd ∧ mg "law" = some (.ref f)
  b_abs : mg "abs" = none
  b_all : mg "all" = none
  b_bool : mg "bool" = none
  b_enumerate : mg "enumerate" = none
  b_int : mg "int" = none
  b_isinstance : mg "isinstance" = none
  b_len : mg "len" = none
  b_min : mg "min" = none
  b_range : mg "range" = none
  b_str : mg "str" = none
  b_sum : mg "sum" = none
  c_MOST_LETTERS : ∃ u, mg "MOST_LETTERS" = some u ∧ RelV (.int 400) u
  c_DIGITS : ∃ u, mg "DIGITS" = some u ∧ RelV (.str "0123456789") u
  c_MOST_BRACKETS : ∃ u, mg "MOST_BRACKETS" = some u ∧ RelV (.int 6) u
  c_MOST_TIMES : ∃ u, mg "MOST_TIMES" = some u ∧ RelV (.int 99) u
  c_MOST_FOLDED : ∃ u, mg "MOST_FOLDED" = some u ∧ RelV (.int 40) u
  cls : ClsT P K mg AA exs "TouchError" sub
section
variable {P : Program} {w : World} {K : PySem.W.Frag} {mg : Str → Option Value} {AA : Str → Addr} {base : Heap}
theorem Tx.x_BadCalling (T : Tx P K mg AA) : ∃ fI, ExT P K mg "BadCalling" "number" (AA "BadCalling") fI := T.cls.x _ _ (by decide)
theorem Tx.g_BadCalling (T : Tx P K mg AA) : mg "BadCalling" = some (.ref (AA "BadCalling")) := by
  obtain ⟨_, X⟩ := T.x_BadCalling
  exact X.gC
theorem Tx.x_BadText (T : Tx P K mg AA) : ∃ fI, ExT P K mg "BadText" "at" (AA "BadText") fI := T.cls.x _ _ (by decide)
theorem Tx.g_BadText (T : Tx P K mg AA) : mg "BadText" = some (.ref (AA "BadText")) := by
  obtain ⟨_, X⟩ := T.x_BadText
  exact X.gC
theorem Tx.x_TooLong (T : Tx P K mg AA) : ∃ fI, ExT P K mg "TooLong" "number" (AA "TooLong") fI := T.cls.x _ _ (by decide)
theorem Tx.g_TooLong (T : Tx P K mg AA) : mg "TooLong" = some (.ref (AA "TooLong")) := by
  obtain ⟨_, X⟩ := T.x_TooLong
  exact X.gC
theorem fld_at : Fld "at" := ⟨by decide, by decide, by decide, by decide, by decide⟩
theorem fld_number : Fld "number" := ⟨by decide, by decide, by decide, by decide, by decide⟩
theorem tst_bool_ok : TstOk K mg [.type "bool"] tst_bool := ⟨(kitAny_cons (b := false) (kit_ty (by decide +kernel)) (fun h => kitAny_nil) (fun h => (by cases h))), (kitAny_cons (b := true) (kit_ty (by decide +kernel)) (fun h => (by cases h)) (fun h => rfl)), (kitAny_cons (b := false) (kit_ty (by decide +kernel)) (fun h => kitAny_nil) (fun h => (by cases h))), (kitAny_cons (b := false) (kit_ty (by decide +kernel)) (fun h => kitAny_nil) (fun h => (by cases h))), (kitAny_cons (b := false) (kit_ty (by decide +kernel)) (fun h => kitAny_nil) (fun h => (by cases h))), (kitAny_cons (b := false) (kit_ty (by decide +kernel)) (fun h => kitAny_nil) (fun h => (by cases h))), (kitAny_cons (b := false) (kit_ty (by decide +kernel)) (fun h => kitAny_nil) (fun h => (by cases h))), fun _ _ _ h => by cases h⟩
theorem tst_int_ok : TstOk K mg [.type "int"] tst_int := ⟨(kitAny_cons (b := false) (kit_ty (by decide +kernel)) (fun h => kitAny_nil) (fun h => (by cases h))), (kitAny_cons (b := true) (kit_ty (by decide +kernel)) (fun h => (by cases h)) (fun h => rfl)), (kitAny_cons (b := true) (kit_ty (by decide +kernel)) (fun h => (by cases h)) (fun h => rfl)), (kitAny_cons (b := false) (kit_ty (by decide +kernel)) (fun h => kitAny_nil) (fun h => (by cases h))), (kitAny_cons (b := false) (kit_ty (by decide +kernel)) (fun h => kitAny_nil) (fun h => (by cases h))), (kitAny_cons (b := false) (kit_ty (by decide +kernel)) (fun h => kitAny_nil) (fun h => (by cases h))), (kitAny_cons (b := false) (kit_ty (by decide +kernel)) (fun h => kitAny_nil) (fun h => (by cases h))), fun _ _ _ h => by cases h⟩
theorem tst_str_ok : TstOk K mg [.type "str"] tst_str := ⟨(kitAny_cons (b := false) (kit_ty (by decide +kernel)) (fun h => kitAny_nil) (fun h => (by cases h))), (kitAny_cons (b := false) (kit_ty (by decide +kernel)) (fun h => kitAny_nil) (fun h => (by cases h))), (kitAny_cons (b := false) (kit_ty (by decide +kernel)) (fun h => kitAny_nil) (fun h => (by cases h))), (kitAny_cons (b := true) (kit_ty (by decide +kernel)) (fun h => (by cases h)) (fun h => rfl)), (kitAny_cons (b := false) (kit_ty (by decide +kernel)) (fun h => kitAny_nil) (fun h => (by cases h))), (kitAny_cons (b := false) (kit_ty (by decide +kernel)) (fun h => kitAny_nil) (fun h => (by cases h))), (kitAny_cons (b := false) (kit_ty (by decide +kernel)) (fun h => kitAny_nil) (fun h => (by cases h))), fun _ _ _ h => by cases h⟩
abbrev s__law_draw : Stmt := top 26
theorem sc__law_draw : FnScope ["_law_script", "_law_cells", "_law_cell"] ["_law_script"] (defScope s__law_draw) := ⟨rfl, rfl, rfl, by decide +kernel, rfl, by decide +kernel, by decide +kernel⟩
theorem ok__law_draw (T : Tx P K mg AA) : CalM P w K mg base 2 "_law_draw" 1 [] m__law_draw := by
  obtain ⟨f, fd, F, hm⟩ := T.d__law_draw
  exact calM_of (m := (mDef 3 [] b__law_draw)) (ps := ["_law_script"]) (def_ok (k := 1) F sc__law_draw (by decide) (fun cdv A outer s H E hr => (mss_cons (ms_setComp (own := [("_law_cell", 2)]) (i := 1) rfl sc__law_draw.nd rfl rfl rfl (mi_seq (me_var 0 (pv 0))) (blkOk_by (N := ["_law_script", "_law_cells", "_law_cell"]) (sc := defScope s__law_draw) (own := [("_law_cell", 2)]) (by decide +kernel)) (fun _ _ _ _ _ => pg_name (i := 2) sc__law_draw.nd rfl (by first | exact Or.inl rfl | exact Or.inr rfl)) (fun _ _ _ _ _ => mts_nil) (fun _ _ _ _ _ => (me_var 2 (pv 2))) (tg_name 2) (by decide))
  (mss_one (ms_ret (me_lst (ma_cons (me_var 1 (pv 1)) (ma_cons (me_int) (ma_cons (me_int) (ma_cons (me_int) (ma_cons (me_int) (ma_cons (me_op o_add op_addA (me_op o_mod op_mod (me_callTy o_int call_int1 rfl T.b_int (by first | boot_by_name | rfl | kernel_rfl) (ma_cons (me_callB o_sum (cr_sum rfl) rfl T.b_sum (by first | boot_by_name | rfl | kernel_rfl) (ma_cons (me_var 1 (pv 1)) ma_nil)) ma_nil)) (me_int)) (me_op (o_or o_mul o_mulS) (op_mul.or op_mul_str) (me_int) (me_callB o_len call_lenA rfl T.b_len (by first | boot_by_name | rfl | kernel_rfl) (ma_cons (me_var 1 (pv 1)) ma_nil)))) ma_nil)))))))))))) hm F.kp (FunD.bindsN F fun _ _ _ _ _ _ us hl => match us, hl with | [_], _ => rfl)
abbrev s_repeats : Stmt := top 10
theorem sc_repeats : FnScope ["words", "start", "stop", "width", "found", "part"] ["words", "start", "stop"] (defScope s_repeats) := ⟨rfl, rfl, rfl, by decide +kernel, rfl, by decide +kernel, by decide +kernel⟩
theorem ok_repeats (T : Tx P K mg AA) : CalM P w K mg base 2 "repeats" 3 [] m_repeats := by
  obtain ⟨f, fd, F, hm⟩ := T.d_repeats
  exact calM_of (m := (mDef 6 [] b_repeats)) (ps := ["words", "start", "stop"]) (def_ok (k := 1) F sc_repeats (by decide) (fun cdv A outer s H E hr => (mss_cons (ms_set (i := 3) sc_repeats.nd rfl (by first | exact Or.inl rfl | exact Or.inr rfl) (me_op o_sub op_sub (me_var 2 (pv 2)) (me_var 1 (pv 1))))
  (mss_cons (ms_set (i := 4) sc_repeats.nd rfl (by first | exact Or.inl rfl | exact Or.inr rfl) (me_lst ma_nil))
  (mss_cons (ms_for (is := [5]) (passes_of rfl) rfl (x_rng2 rfl T.b_range (me_int) (me_op o_add op_addA (me_op o_div op_fdiv (me_var 3 (pv 3)) (me_int)) (me_int))) (pg_name (i := 5) sc_repeats.nd rfl (by first | exact Or.inl rfl | exact Or.inr rfl)) (tg_name 5) (mss_one (ms_if (PW.pt (mw_and (mt_cmp o_eq (op_eqD (have h := u64 hr; h)) (me_op o_mod op_mod (me_var 3 (pv 3)) (me_var 5 (pv 5))) (me_int) (nomark _)) (mw_and1 (mt_cmp o_eq (op_eqD (have h := u64 hr; h)) (me_sliceS (me_var 0 (pv 0)) (mo_some (me_op o_add op_addA (me_var 1 (pv 1)) (me_var 5 (pv 5)))) (mo_some (me_var 2 (pv 2)))) (me_sliceS (me_var 0 (pv 0)) (mo_some (me_var 1 (pv 1))) (mo_some (me_op o_sub op_sub (me_var 2 (pv 2)) (me_var 5 (pv 5))))) (nomark _))))) (mss_one (ms_expr (x_append (s := 4) (pv 4) (me_tup (ma_cons (me_op o_div op_fdiv (me_var 3 (pv 3)) (me_var 5 (pv 5))) (ma_cons (me_var 5 (pv 5)) ma_nil)))))) mss_nil)))
  (mss_one (ms_ret (me_var 4 (pv 4))))))))) hm F.kp (FunD.bindsN F fun _ _ _ _ _ _ us hl => match us, hl with | [_, _, _], _ => rfl)
abbrev s_call_pieces : Stmt := top 23
theorem sc_call_pieces : FnScope ["words", "best", "start", "stop", "told", "times", "part"] ["words", "best", "start", "stop"] (defScope s_call_pieces) := ⟨rfl, rfl, rfl, by decide +kernel, rfl, by decide +kernel, by decide +kernel⟩
theorem ok_call_pieces (T : Tx P K mg AA) : CalM P w K mg base 3 "call_pieces" 4 [1] m_call_pieces := by
  obtain ⟨f, fd, F, hm⟩ := T.d_call_pieces
  exact calM_of (m := (mDef 7 [1] b_call_pieces)) (ps := ["words", "best", "start", "stop"]) (def_ok (k := 2) F sc_call_pieces (by decide) (fun cdv A outer s H E hr => (mss_cons (ms_if (mt_cmp o_eq (op_eqD (have h := u64 hr; h)) (me_op o_sub op_sub (me_var 3 (pv 3)) (me_var 2 (pv 2))) (me_int) (nomark _)) (mss_one (ms_ret (me_lst (ma_cons (me_ixS (me_var 0 (pv 0)) (me_var 2 (pv 2)) (fun _ _ => rfl)) ma_nil)))) mss_nil)
  (mss_cons (ms_set (i := 4) sc_call_pieces.nd rfl (by first | exact Or.inl rfl | exact Or.inr rfl) (me_lst ma_nil))
  (mss_cons (ms_for (is := [5, 6]) (passes_of rfl) rfl (mi_seq (me_callM (ok_repeats T) hr (by omega) (takes_of rfl rfl rfl rfl) rfl (ma_arg (me_var 0 (pv 0)) (ma_arg (me_var 2 (pv 2)) (ma_arg (me_var 3 (pv 3)) ma_nil))) (ml_arg (ml_arg (ml_arg (fun ρ vs ρ' h => ml_nil h)))))) (pg_tup rfl (pgs_cons (pg_name (i := 5) sc_call_pieces.nd rfl (by first | exact Or.inl rfl | exact Or.inr rfl)) (pgs_cons (pg_name (i := 6) sc_call_pieces.nd rfl (by first | exact Or.inl rfl | exact Or.inr rfl)) pgs_nil))) (tg_tup [5, 6] 2 rfl) (mss_one (ms_if (mt_cmp o_eq (op_eqD (have h := u64 hr; h)) (me_var 6 (pv 6)) (me_int) (nomark _)) (mss_one (ms_expr (x_append (s := 4) (pv 4) (me_js (.cons (me_fmt (me_var 5 (pv 5))) (.cons (me_fmt (me_ixS (me_var 0 (pv 0)) (me_var 2 (pv 2)) (fun _ _ => rfl))) MJ.nil)))))) (mss_one (ms_expr (x_append (s := 4) (pv 4) (me_js (.cons (me_fmt (me_var 5 (pv 5))) (.cons (me_str) (.cons (me_fmt (me_getT (have h := u1 hr; h) (me_var 1 (pv 1)) (ma_cons (me_var 2 (pv 2)) (ma_cons (me_op o_add op_addA (me_var 2 (pv 2)) (me_var 6 (pv 6))) ma_nil)))) (.cons (me_str) MJ.nil)))))))))))
  (mss_one (ms_ret (me_var 4 (pv 4))))))))) hm F.kp (FunD.bindsN F fun _ _ _ _ _ _ us hl => match us, hl with | [_, _, _, _], _ => rfl)
abbrev s_by_length : Stmt := top 7
theorem sc_by_length : FnScope ["text"] ["text"] (defScope s_by_length) := ⟨rfl, rfl, rfl, by decide +kernel, rfl, by decide +kernel, by decide +kernel⟩
theorem ok_by_length (T : Tx P K mg AA) : CalM P w K mg base 2 "by_length" 1 [] m_by_length := by
  obtain ⟨f, fd, F, hm⟩ := T.d_by_length
  exact calM_of (m := (mDef 1 [] b_by_length)) (ps := ["text"]) (def_ok (k := 1) F sc_by_length (by decide) (fun cdv A outer s H E hr => (mss_one (ms_ret (me_tup (ma_cons (me_callB o_len call_lenA rfl T.b_len (by first | boot_by_name | rfl | kernel_rfl) (ma_cons (me_var 0 (pv 0)) ma_nil)) (ma_cons (me_var 0 (pv 0)) ma_nil))))))) hm F.kp (FunD.bindsN F fun _ _ _ _ _ _ us hl => match us, hl with | [_], _ => rfl)
theorem key_by_length (x : Str) (h : x.length ≤ BIG) : m_by_length [.val (.str x)] = .ok (.v (.tup [.int x.length, .str x])) [] := by
  have e1 : g1 dLen [D.str x] = some (.int x.length) := by
    show (if x.length ≤ BIG then some (D.int x.length) else none) = _
    rw [if_pos h]
  have e2 : mCB (g1 dLen) (mCons (mVar 0) mNil) [.val (.str x)] = .ok (.d (.int x.length)) [.val (.str x)] := by
    show (rz (g1 dLen [D.str x]) _) = _
    rw [e1]
    rfl
  have e3 : mCons (mCB (g1 dLen) (mCons (mVar 0) mNil)) (mCons (mVar 0) mNil) [.val (.str x)] = .ok [.d (.int x.length), .d (.str x)] [.val (.str x)] := by
    show (mCB (g1 dLen) (mCons (mVar 0) mNil) [.val (.str x)]).bind _ = _
    rw [e2]
    rfl
  have e4 : mTup (mCons (mCB (g1 dLen) (mCons (mVar 0) mNil)) (mCons (mVar 0) mNil)) [.val (.str x)] = .ok (.d (.tup [.int x.length, .str x])) [.val (.str x)] := by
    show (mCons (mCB (g1 dLen) (mCons (mVar 0) mNil)) (mCons (mVar 0) mNil) [.val (.str x)]).bind _ = _
    rw [e3]
    rfl
  have e5 : b_by_length [.val (.str x)] = .rt (.v (.tup [.int x.length, .str x])) [.val (.str x)] := by
    show (mTup (mCons (mCB (g1 dLen) (mCons (mVar 0) mNil)) (mCons (mVar 0) mNil)) [.val (.str x)]).st _ = _
    rw [e4]
    rfl
  show (match b_by_length [.val (.str x)] with
    | .rt r ρ => okD [] r ρ
    | .nx ρ => okD [] (.v .non) ρ
    | .ex x ρ => (match ioOf [] ρ with
      | some os => .ex x os
      | none => .bad)
    | _ => .bad) = _
  rw [e5]
  rfl
abbrev s_best_row : Stmt := top 9
theorem sc_best_row : FnScope ["best", "pieces", "joint", "start", "stop", "told", "middle"] ["best", "pieces", "joint", "start", "stop"] (defScope s_best_row) := ⟨rfl, rfl, rfl, by decide +kernel, rfl, by decide +kernel, by decide +kernel⟩
theorem ok_best_row (T : Tx P K mg AA) : CalM P w K mg base 4 "best_row" 5 [0, 1] m_best_row := by
  obtain ⟨f, fd, F, hm⟩ := T.d_best_row
  exact calM_of (m := (mDef 7 [0, 1] b_best_row)) (ps := ["best", "pieces", "joint", "start", "stop"]) (def_ok (k := 3) F sc_best_row (by decide) (fun cdv A outer s H E hr => (mss_cons (ms_set (i := 5) sc_best_row.nd rfl (by first | exact Or.inl rfl | exact Or.inr rfl) (me_lst ma_nil))
  (mss_cons (ms_for (is := [6]) (passes_of rfl) rfl (x_rng2 rfl T.b_range (me_op o_add op_addA (me_var 3 (pv 3)) (me_int)) (me_var 4 (pv 4))) (pg_name (i := 6) sc_best_row.nd rfl (by first | exact Or.inl rfl | exact Or.inr rfl)) (tg_name 6) (mss_one (ms_if (mt_cmp (o_isA true) op_notA (me_getT (have h := u1 hr; h) (me_var 1 (pv 1)) (ma_cons (me_var 3 (pv 3)) (ma_cons (me_var 6 (pv 6)) ma_nil))) (me_non) (nomark _)) (mss_one (ms_expr (x_append (s := 5) (pv 5) (me_op o_add op_addA (me_op o_add op_addA (me_getT (have h := u1 hr; h) (me_var 1 (pv 1)) (ma_cons (me_var 3 (pv 3)) (ma_cons (me_var 6 (pv 6)) ma_nil))) (me_var 2 (pv 2))) (me_getT (have h := u1 hr; h) (me_var 0 (pv 0)) (ma_cons (me_var 6 (pv 6)) (ma_cons (me_var 4 (pv 4)) ma_nil))))))) mss_nil)))
  (mss_cons (ms_if (mt_cmp (o_isA true) op_notA (me_getT (have h := u1 hr; h) (me_var 1 (pv 1)) (ma_cons (me_var 3 (pv 3)) (ma_cons (me_var 4 (pv 4)) ma_nil))) (me_non) (nomark _)) (mss_one (ms_expr (x_append (s := 5) (pv 5) (me_getT (have h := u1 hr; h) (me_var 1 (pv 1)) (ma_cons (me_var 3 (pv 3)) (ma_cons (me_var 4 (pv 4)) ma_nil)))))) mss_nil)
  (mss_one (ms_ret (me_minKeyC (ok_by_length T) key_by_length hr (by omega) rfl T.b_min rfl (me_var 5 (pv 5)))))))))) hm F.kp (FunD.bindsN F fun _ _ _ _ _ _ us hl => match us, hl with | [_, _, _, _, _], _ => rfl)
abbrev s_folded : Stmt := top 8
theorem sc_folded : FnScope ["words", "joint", "brackets", "best", "pieces", "width", "start", "stop", "told"] ["words", "joint", "brackets"] (defScope s_folded) := ⟨rfl, rfl, rfl, by decide +kernel, rfl, by decide +kernel, by decide +kernel⟩
theorem ok_folded (T : Tx P K mg AA) : CalM P w K mg base 5 "folded" 3 [] m_folded := by
  obtain ⟨f, fd, F, hm⟩ := T.d_folded
  exact calM_of (m := (mDef 9 [] b_folded)) (ps := ["words", "joint", "brackets"]) (def_ok (k := 4) F sc_folded (by decide) (fun cdv A outer s H E hr => (mss_cons (ms_set (i := 3) sc_folded.nd rfl (by first | exact Or.inl rfl | exact Or.inr rfl) me_dtNew)
  (mss_cons (ms_set (i := 4) sc_folded.nd rfl (by first | exact Or.inl rfl | exact Or.inr rfl) me_dtNew)
  (mss_cons (ms_for (is := [5]) (passes_of rfl) rfl (x_rng2 rfl T.b_range (me_int) (me_op o_add op_addA (me_callB o_len call_lenA rfl T.b_len (by first | boot_by_name | rfl | kernel_rfl) (ma_cons (me_var 0 (pv 0)) ma_nil)) (me_int))) (pg_name (i := 5) sc_folded.nd rfl (by first | exact Or.inl rfl | exact Or.inr rfl)) (tg_name 5) (mss_one (ms_for (is := [6]) (passes_of rfl) rfl (x_rng1 rfl T.b_range (me_op o_add op_addA (me_op o_sub op_sub (me_callB o_len call_lenA rfl T.b_len (by first | boot_by_name | rfl | kernel_rfl) (ma_cons (me_var 0 (pv 0)) ma_nil)) (me_var 5 (pv 5))) (me_int))) (pg_name (i := 6) sc_folded.nd rfl (by first | exact Or.inl rfl | exact Or.inr rfl)) (tg_name 6) (mss_cons (ms_set (i := 7) sc_folded.nd rfl (by first | exact Or.inl rfl | exact Or.inr rfl) (me_op o_add op_addA (me_var 6 (pv 6)) (me_var 5 (pv 5))))
  (mss_cons (ms_set (i := 8) sc_folded.nd rfl (by first | exact Or.inl rfl | exact Or.inr rfl) (me_callV (ok_call_pieces T) hr (by omega) (takes_of rfl rfl rfl rfl) 2 rfl (ma_arg (me_var 0 (pv 0)) (ma_lend 3 (pv 3) (ma_arg (me_var 6 (pv 6)) (ma_arg (me_var 7 (pv 7)) ma_nil)))) (ml_arg (ml_lend (ml_arg (ml_arg (fun ρ vs ρ' h => ml_nil h)))))))
  (mss_cons (ms_putT (have h := u1 hr; h) (pv 4) (ma_cons (me_var 6 (pv 6)) (ma_cons (me_var 7 (pv 7)) ma_nil)) (me_if (mt_tru (me_var 8 (pv 8))) (me_minKeyC (ok_by_length T) key_by_length hr (by omega) rfl T.b_min rfl (me_var 8 (pv 8))) (me_non)))
  (mss_one (ms_putT (have h := u1 hr; h) (pv 3) (ma_cons (me_var 6 (pv 6)) (ma_cons (me_var 7 (pv 7)) ma_nil)) (me_callM (ok_best_row T) hr (by omega) (takes_of rfl rfl rfl rfl) rfl (ma_lend 3 (pv 3) (ma_lend 4 (pv 4) (ma_arg (me_var 1 (pv 1)) (ma_arg (me_var 6 (pv 6)) (ma_arg (me_var 7 (pv 7)) ma_nil))))) (ml_lend (ml_lend (ml_arg (ml_arg (ml_arg (fun ρ vs ρ' h => ml_nil h)))))))))))))))
  (mss_one (ms_ret (me_getT (have h := u1 hr; h) (me_var 3 (pv 3)) (ma_cons (me_int) (ma_cons (me_callB o_len call_lenA rfl T.b_len (by first | boot_by_name | rfl | kernel_rfl) (ma_cons (me_var 0 (pv 0)) ma_nil)) ma_nil)))))))))) hm F.kp (FunD.bindsN F fun _ _ _ _ _ _ us hl => match us, hl with | [_, _, _], _ => rfl)
abbrev s_is_letter : Stmt := top 13
theorem sc_is_letter : FnScope ["thing"] ["thing"] (defScope s_is_letter) := ⟨rfl, rfl, rfl, by decide +kernel, rfl, by decide +kernel, by decide +kernel⟩
theorem ok_is_letter (T : Tx P K mg AA) : CalM P w K mg base 2 "is_letter" 1 [] m_is_letter := by
  obtain ⟨f, fd, F, hm⟩ := T.d_is_letter
  exact calM_of (m := (mDef 1 [] b_is_letter)) (ps := ["thing"]) (def_ok (k := 1) F sc_is_letter (by decide) (fun cdv A outer s H E hr => (mss_one (ms_ret ((me_and (me_isi tst_str_ok (.ty _) (me_var 0 (pv 0)) (pe_clsTy rfl T.b_str (by first | boot_by_name | rfl | kernel_rfl)) rfl T.b_isinstance) (me_and (me_cmp o_eq (op_eqD (have h := u64 hr; h)) (me_callB o_len call_lenA rfl T.b_len (by first | boot_by_name | rfl | kernel_rfl) (ma_cons (me_var 0 (pv 0)) ma_nil)) (me_int) (nomark _)) (me_one (me_chain (o_or o_le o_leS) (o_or o_le o_leS) (op_le.or op_le_str) (op_le.or op_le_str) (me_str) (me_var 0 (pv 0)) (me_str)))))))))) hm F.kp (FunD.bindsN F fun _ _ _ _ _ _ us hl => match us, hl with | [_], _ => rfl)
abbrev s_fold_calling : Stmt := top 22
theorem sc_fold_calling : FnScope ["calling", "number", "letter"] ["calling"] (defScope s_fold_calling) := ⟨rfl, rfl, rfl, by decide +kernel, rfl, by decide +kernel, by decide +kernel⟩
theorem ok_fold_calling (T : Tx P K mg AA) : CalM P w K mg base 6 "fold_calling" 1 [] m_fold_calling := by
  obtain ⟨f, fd, F, hm⟩ := T.d_fold_calling
  exact calM_of (m := (mDef 3 [] b_fold_calling)) (ps := ["calling"]) (def_ok (k := 5) F sc_fold_calling (by decide) (fun cdv A outer s H E hr => (mss_cons (ms_if (mt_not (mt_val (me_isi tst_str_ok (.ty _) (me_var 0 (pv 0)) (pe_clsTy rfl T.b_str (by first | boot_by_name | rfl | kernel_rfl)) rfl T.b_isinstance))) (mss_one (x_raise (T.x_BadCalling) fld_number rfl (takes_of rfl rfl rfl rfl) hr (ma_cons (me_un o_neg un_neg (me_int)) ma_nil) rfl)) mss_nil)
  (mss_cons (ms_for (is := [1, 2]) (passes_of rfl) rfl (mi_enumS rfl T.b_enumerate (me_var 0 (pv 0))) (pg_tup rfl (pgs_cons (pg_name (i := 1) sc_fold_calling.nd rfl (by first | exact Or.inl rfl | exact Or.inr rfl)) (pgs_cons (pg_name (i := 2) sc_fold_calling.nd rfl (by first | exact Or.inl rfl | exact Or.inr rfl)) pgs_nil))) (tg_tup [1, 2] 2 rfl) (mss_one (ms_if (mt_not (mt_val (me_callM (ok_is_letter T) hr (by omega) (takes_of rfl rfl rfl rfl) rfl (ma_arg (me_var 2 (pv 2)) ma_nil) (ml_arg (fun ρ vs ρ' h => ml_nil h))))) (mss_one (x_raise (T.x_BadCalling) fld_number rfl (takes_of rfl rfl rfl rfl) hr (ma_cons (me_var 1 (pv 1)) ma_nil) rfl)) mss_nil)))
  (mss_cons (ms_if (mt_cmp o_gt op_gt (me_callB o_len call_lenA rfl T.b_len (by first | boot_by_name | rfl | kernel_rfl) (ma_cons (me_var 0 (pv 0)) ma_nil)) (x_glob (T.c_MOST_FOLDED) rfl (fun _ => .int _)) (nomark _)) (mss_one (x_raise (T.x_TooLong) fld_number rfl (takes_of rfl rfl rfl rfl) hr (ma_cons (me_callB o_len call_lenA rfl T.b_len (by first | boot_by_name | rfl | kernel_rfl) (ma_cons (me_var 0 (pv 0)) ma_nil)) ma_nil) rfl)) mss_nil)
  (mss_cons (ms_if (mt_cmp o_eq (op_eqD (have h := u64 hr; h)) (me_var 0 (pv 0)) (me_str) (nomark _)) (mss_one (ms_ret (me_str))) mss_nil)
  (mss_one (ms_ret (me_callM (ok_folded T) hr (by omega) (takes_of rfl rfl rfl rfl) rfl (ma_arg (me_var 0 (pv 0)) (ma_arg (me_str) (ma_arg (by obtain ⟨f, fd, F, hm⟩ := T.d_call_pieces; exact me_fn hm rfl) ma_nil))) (ml_arg (ml_arg (ml_arg (fun ρ vs ρ' h => ml_nil h))))))))))))) hm F.kp (FunD.bindsN F fun _ _ _ _ _ _ us hl => match us, hl with | [_], _ => rfl)
theorem su__law_told_par (k : Ck) (x : Xc) (ρ : En) (h : x.c = k.c) : mSuite 1 su__law_told k x ρ = mSuite 1 su__law_told ⟨0, 0, x.c⟩ x ρ := by
  refine suite_par h fun fs => ?_
  unfold su__law_told
  repeat' first
    | exact par_isE | exact par_xf | exact par_c | exact par_var (by decide) | exact par_nil | exact par_next
    | refine par_cons ?_ ?_ | refine par_lst ?_ | refine par_tup ?_ | refine par_op ?_ ?_ | refine par_cb ?_ | refine par_tst ?_ | refine par_not ?_ | refine par_and ?_ ?_ | refine par_or ?_ ?_
    | refine par_ifs ?_ ?_ ?_ | refine par_drop ?_ | refine par_ret ?_ | refine par_seq ?_ ?_
abbrev s__law_told : Stmt := top 34
theorem sc__law_told : FnScope ["_law_calling", "caught"] ["_law_calling"] (defScope s__law_told) := ⟨rfl, rfl, rfl, by decide +kernel, rfl, by decide +kernel, by decide +kernel⟩
theorem ok__law_told (T : Tx P K mg AA) : CalM P w K mg base 7 "_law_told" 1 [] m__law_told := by
  obtain ⟨f, fd, F, hm⟩ := T.d__law_told
  exact calM_of (m := (mDef 2 [] b__law_told)) (ps := ["_law_calling"]) (def_ok (k := 6) F sc__law_told (by decide) (fun cdv A outer s H E hr => (mss_cons (ms_try (i := 1) rfl rfl sc__law_told.nd rfl rfl ⟨rfl, by decide, .inl T.cls.r⟩ (takes_of rfl rfl rfl rfl) T.cls.cat su__law_told_par (fun W' pn xe tk pw => (mss_one (ms_ret (me_tup (ma_cons (me_str) (ma_cons (me_callM (ok_fold_calling T) hr (by omega) tk rfl (ma_arg (me_var 0 (pv 0)) ma_nil) (ml_arg (fun ρ vs ρ' h => ml_nil h))) ma_nil)))))) (fun k C oe pn hC hz hf => (mss_cons (ms_if (PW.pt (mw_and (mt_val (me_isE (T.cls.isT ["BadCalling"] (by decide)) hC hz hf (.own _) (me_var 1 (pv 1)) (pe_clsOwn rfl (T.g_BadCalling)) rfl T.b_isinstance)) (mw_and1 (mt_not (mt_val (me_isE (T.cls.isT ["TooLong"] (by decide)) hC hz hf (.own _) (me_var 1 (pv 1)) (pe_clsOwn rfl (T.g_TooLong)) rfl T.b_isinstance)))))) (mss_one (ms_ret (me_tup (ma_cons (me_str) (ma_cons (me_xf T.cls.xf hC hz hf (me_var 1 (pv 1))) ma_nil))))) mss_nil)
  (mss_one (ms_if (PW.pt (mw_and (mt_val (me_isE (T.cls.isT ["TooLong"] (by decide)) hC hz hf (.own _) (me_var 1 (pv 1)) (pe_clsOwn rfl (T.g_TooLong)) rfl T.b_isinstance)) (mw_and1 (mt_not (mt_val (me_isE (T.cls.isT ["BadCalling"] (by decide)) hC hz hf (.own _) (me_var 1 (pv 1)) (pe_clsOwn rfl (T.g_BadCalling)) rfl T.b_isinstance)))))) (mss_one (ms_ret (me_tup (ma_cons (me_str) (ma_cons (me_xf T.cls.xf hC hz hf (me_var 1 (pv 1))) ma_nil))))) mss_nil)))))
  (mss_one (ms_ret (me_tup (ma_cons (me_str) (ma_cons (me_int) ma_nil)))))))) hm F.kp (FunD.bindsN F fun _ _ _ _ _ _ us hl => match us, hl with | [_], _ => rfl)
abbrev s_CallReader___init__ : Stmt := inClass (top 17) 0
theorem sc_CallReader___init__ : FnScope ["self", "text"] ["self", "text"] (defScope s_CallReader___init__) := ⟨rfl, rfl, rfl, by decide +kernel, rfl, by decide +kernel, by decide +kernel⟩
theorem ok_CallReader___init__ (T : Tx P K mg AA) : MkM P w K mg base 2 "CallReader" 2 m_CallReader___init__ := by
  obtain ⟨f, fd, F, hm⟩ := T.d_CallReader___init__
  exact mkM_of (m := (mDef 2 [0] b_CallReader___init__)) (ps := ["self", "text"]) T.k_CallReader.1 hm (def_ok (k := 1) F sc_CallReader___init__ (by decide) (fun cdv A outer s H E hr => (mss_cons (ms_if (mt_not (mt_val (me_isi tst_str_ok (.ty _) (me_var 1 (pv 1)) (pe_clsTy rfl T.b_str (by first | boot_by_name | rfl | kernel_rfl)) rfl T.b_isinstance))) (mss_one (x_raise (T.x_BadText) fld_at rfl (takes_of rfl rfl rfl rfl) hr (ma_cons (me_un o_neg un_neg (me_int)) ma_nil) rfl)) mss_nil)
  (mss_cons (ms_putF T.fld (pv 0) (me_var 1 (pv 1)))
  (mss_cons (ms_putF T.fld (pv 0) (me_int))
  (mss_one (ms_putF T.fld (pv 0) (me_int)))))))) (FunD.bindsN F fun _ _ _ _ _ _ us hl => match us, hl with | [_, _], _ => rfl)
abbrev s_CallReader_digits : Stmt := inClass (top 17) 2
theorem sc_CallReader_digits : FnScope ["self", "stop"] ["self"] (defScope s_CallReader_digits) := ⟨rfl, rfl, rfl, by decide +kernel, rfl, by decide +kernel, by decide +kernel⟩
theorem ok_CallReader_digits (T : Tx P K mg AA) : MetM P w K mg base 2 "CallReader" "digits" 1 [0] m_CallReader_digits := by
  obtain ⟨f, fd, F, hm⟩ := T.d_CallReader_digits
  exact metM_of (m := (mDef 2 [0] b_CallReader_digits)) (ps := ["self"]) T.k_CallReader.1 T.k_CallReader.2 hm (def_ok (k := 1) F sc_CallReader_digits (by decide) (fun cdv A outer s H E hr => (mss_cons (ms_set (i := 1) sc_CallReader_digits.nd rfl (by first | exact Or.inl rfl | exact Or.inr rfl) (me_fld T.fld (pv 0)))
  (mss_cons (ms_while (passes_of rfl) (PW.pt (mw_and (mt_cmp (o_or o_lt o_ltS) (op_lt.or op_lt_str) (me_var 1 (pv 1)) (me_callB o_len call_lenA rfl T.b_len (by first | boot_by_name | rfl | kernel_rfl) (ma_cons (me_fld T.fld (pv 0)) ma_nil)) (nomark _)) (mw_and1 (mt_cmp o_inS op_in_sign (me_ixS (me_fld T.fld (pv 0)) (me_var 1 (pv 1)) (fun _ _ => rfl)) (x_glob (T.c_DIGITS) rfl (fun _ => .str _)) rfl)))) (mss_one (ms_aug (i := 1) o_addX sc_CallReader_digits.nd rfl (by first | exact Or.inl rfl | exact Or.inr rfl) (me_int) ip_add)))
  (mss_one (ms_ret (me_sliceS (me_fld T.fld (pv 0)) (mo_some (me_fld T.fld (pv 0))) (mo_some (me_var 1 (pv 1)))))))))) (FunD.bindsN F fun _ _ _ _ _ _ us hl => match us, hl with | [_], _ => rfl)
abbrev s_CallReader_go_in : Stmt := inClass (top 17) 4
theorem sc_CallReader_go_in : FnScope ["self"] ["self"] (defScope s_CallReader_go_in) := ⟨rfl, rfl, rfl, by decide +kernel, rfl, by decide +kernel, by decide +kernel⟩
theorem ok_CallReader_go_in (T : Tx P K mg AA) : MetM P w K mg base 2 "CallReader" "go_in" 1 [0] m_CallReader_go_in := by
  obtain ⟨f, fd, F, hm⟩ := T.d_CallReader_go_in
  exact metM_of (m := (mDef 1 [0] b_CallReader_go_in)) (ps := ["self"]) T.k_CallReader.1 T.k_CallReader.2 hm (def_ok (k := 1) F sc_CallReader_go_in (by decide) (fun cdv A outer s H E hr => (mss_cons (ms_if (mt_cmp o_eq (op_eqD (have h := u64 hr; h)) (me_fld T.fld (pv 0)) (x_glob (T.c_MOST_BRACKETS) rfl (fun _ => .int _)) (nomark _)) (mss_one (x_raise (T.x_BadText) fld_at rfl (takes_of rfl rfl rfl rfl) hr (ma_cons (me_fld T.fld (pv 0)) ma_nil) rfl)) mss_nil)
  (mss_cons (ms_addF T.fld (pv 0) (me_int))
  (mss_one (ms_addF T.fld (pv 0) (me_int))))))) (FunD.bindsN F fun _ _ _ _ _ _ us hl => match us, hl with | [_], _ => rfl)
abbrev s_CallReader_go_out : Stmt := inClass (top 17) 5
theorem sc_CallReader_go_out : FnScope ["self"] ["self"] (defScope s_CallReader_go_out) := ⟨rfl, rfl, rfl, by decide +kernel, rfl, by decide +kernel, by decide +kernel⟩
theorem ok_CallReader_go_out (T : Tx P K mg AA) : MetM P w K mg base 2 "CallReader" "go_out" 1 [0] m_CallReader_go_out := by
  obtain ⟨f, fd, F, hm⟩ := T.d_CallReader_go_out
  exact metM_of (m := (mDef 1 [0] b_CallReader_go_out)) (ps := ["self"]) T.k_CallReader.1 T.k_CallReader.2 hm (def_ok (k := 1) F sc_CallReader_go_out (by decide) (fun cdv A outer s H E hr => (mss_cons (ms_subF T.fld (pv 0) (me_int))
  (mss_one (ms_addF T.fld (pv 0) (me_int)))))) (FunD.bindsN F fun _ _ _ _ _ _ us hl => match us, hl with | [_], _ => rfl)
abbrev s_CallReader_sign : Stmt := inClass (top 17) 1
theorem sc_CallReader_sign : FnScope ["self"] ["self"] (defScope s_CallReader_sign) := ⟨rfl, rfl, rfl, by decide +kernel, rfl, by decide +kernel, by decide +kernel⟩
theorem ok_CallReader_sign (T : Tx P K mg AA) : MetM P w K mg base 2 "CallReader" "sign" 1 [0] m_CallReader_sign := by
  obtain ⟨f, fd, F, hm⟩ := T.d_CallReader_sign
  exact metM_of (m := (mDef 1 [0] b_CallReader_sign)) (ps := ["self"]) T.k_CallReader.1 T.k_CallReader.2 hm (def_ok (k := 1) F sc_CallReader_sign (by decide) (fun cdv A outer s H E hr => (mss_one (ms_ret (me_sliceS (me_fld T.fld (pv 0)) (mo_some (me_fld T.fld (pv 0))) (mo_some (me_op o_add op_addA (me_fld T.fld (pv 0)) (me_int)))))))) (FunD.bindsN F fun _ _ _ _ _ _ us hl => match us, hl with | [_], _ => rfl)
abbrev s_number_told : Stmt := top 14
theorem sc_number_told : FnScope ["digits", "low", "high", "number", "digit"] ["digits", "low", "high"] (defScope s_number_told) := ⟨rfl, rfl, rfl, by decide +kernel, rfl, by decide +kernel, by decide +kernel⟩
theorem ok_number_told (T : Tx P K mg AA) : CalM P w K mg base 2 "number_told" 3 [] m_number_told := by
  obtain ⟨f, fd, F, hm⟩ := T.d_number_told
  exact calM_of (m := (mDef 5 [] b_number_told)) (ps := ["digits", "low", "high"]) (def_ok (k := 1) F sc_number_told (by decide) (fun cdv A outer s H E hr => (mss_cons (ms_if (PW.pt (mw_or (mt_cmp o_eq (op_eqD (have h := u64 hr; h)) (me_var 0 (pv 0)) (me_str) (nomark _)) (mw_or1 (mt_not (mt_val (me_callB o_all (cr_all rfl) rfl T.b_all (by first | boot_by_name | rfl | kernel_rfl) (ma_cons (me_comp (own := [("digit", 4)]) rfl sc_number_told.nd (mi_str (me_var 0 (pv 0))) (blkOk_by (N := ["digits", "low", "high", "number", "digit"]) (sc := defScope s_number_told) (own := [("digit", 4)]) (by decide +kernel)) (fun _ _ _ _ _ => pg_name (i := 4) sc_number_told.nd rfl (by first | exact Or.inl rfl | exact Or.inr rfl)) (fun _ _ _ _ _ => mts_nil) (fun _ _ _ _ _ => (me_cmp o_inS op_in_sign (me_var 4 (pv 4)) (x_glob (T.c_DIGITS) rfl (fun _ => .str _)) rfl)) (tg_name 4) (by decide)) ma_nil))))))) (mss_one (ms_ret (me_non))) mss_nil)
  (mss_cons (ms_if (PW.pt (mw_and (mt_cmp o_eq (op_eqD (have h := u64 hr; h)) (me_ixS (me_var 0 (pv 0)) (me_int) (fun _ _ => rfl)) (me_str) (nomark _)) (mw_and1 (mt_cmp o_ne (op_neD (have h := u64 hr; h)) (me_var 0 (pv 0)) (me_str) (nomark _))))) (mss_one (ms_ret (me_non))) mss_nil)
  (mss_cons (ms_set (i := 3) sc_number_told.nd rfl (by first | exact Or.inl rfl | exact Or.inr rfl) (me_callTy o_intS call_int_str rfl T.b_int (by first | boot_by_name | rfl | kernel_rfl) (ma_cons (me_var 0 (pv 0)) ma_nil)))
  (mss_one (ms_ret (me_if (mt_chain (o_or o_le o_leS) (o_or o_le o_leS) (op_le.or op_le_str) (op_le.or op_le_str) (me_var 1 (pv 1)) (me_var 3 (pv 3)) (me_var 2 (pv 2))) (me_var 3 (pv 3)) (me_non))))))))) hm F.kp (FunD.bindsN F fun _ _ _ _ _ _ us hl => match us, hl with | [_, _, _], _ => rfl)
abbrev s_CallReader_take_number : Stmt := inClass (top 17) 3
theorem sc_CallReader_take_number : FnScope ["self", "low", "high", "digits", "number"] ["self", "low", "high"] (defScope s_CallReader_take_number) := ⟨rfl, rfl, rfl, by decide +kernel, rfl, by decide +kernel, by decide +kernel⟩
theorem ok_CallReader_take_number (T : Tx P K mg AA) : MetM P w K mg base 3 "CallReader" "take_number" 3 [0] m_CallReader_take_number := by
  obtain ⟨f, fd, F, hm⟩ := T.d_CallReader_take_number
  exact metM_of (m := (mDef 5 [0] b_CallReader_take_number)) (ps := ["self", "low", "high"]) T.k_CallReader.1 T.k_CallReader.2 hm (def_ok (k := 2) F sc_CallReader_take_number (by decide) (fun cdv A outer s H E hr => (mss_cons (ms_set (i := 3) sc_CallReader_take_number.nd rfl (by first | exact Or.inl rfl | exact Or.inr rfl) (me_meth0 (ok_CallReader_digits T) hr (by omega) (takes_of rfl rfl rfl rfl) (pv 0)))
  (mss_cons (ms_set (i := 4) sc_CallReader_take_number.nd rfl (by first | exact Or.inl rfl | exact Or.inr rfl) (me_callM (ok_number_told T) hr (by omega) (takes_of rfl rfl rfl rfl) rfl (ma_arg (me_var 3 (pv 3)) (ma_arg (me_var 1 (pv 1)) (ma_arg (me_var 2 (pv 2)) ma_nil))) (ml_arg (ml_arg (ml_arg (fun ρ vs ρ' h => ml_nil h))))))
  (mss_cons (ms_if (mt_cmp (o_isA false) op_isA (me_var 4 (pv 4)) (me_non) (nomark _)) (mss_one (x_raise (T.x_BadText) fld_at rfl (takes_of rfl rfl rfl rfl) hr (ma_cons (me_fld T.fld (pv 0)) ma_nil) rfl)) mss_nil)
  (mss_cons (ms_addF T.fld (pv 0) (me_callB o_len call_lenA rfl T.b_len (by first | boot_by_name | rfl | kernel_rfl) (ma_cons (me_var 3 (pv 3)) ma_nil)))
  (mss_one (ms_ret (me_var 4 (pv 4)))))))))) (FunD.bindsN F fun _ _ _ _ _ _ us hl => match us, hl with | [_, _, _], _ => rfl)
abbrev s_CallReader_one_item : Stmt := inClass (top 24) 1
theorem sc_CallReader_one_item : FnScope ["self", "times", "number", "calling", "letter"] ["self"] (defScope s_CallReader_one_item) := ⟨rfl, rfl, rfl, by decide +kernel, rfl, by decide +kernel, by decide +kernel⟩
theorem ok_CallReader_one_item (T : Tx P K mg AA) {L : Nat} {self : List Sl → DR} (ih : MetM P w K mg base (4 + L) "CallReader" "all_items" 2 [0] self) : MetM P w K mg base (4 + L + 1) "CallReader" "one_item" 1 [0] (m_CallReader_one_item self) := by
  obtain ⟨f, fd, F, hm⟩ := T.d_CallReader_one_item
  exact metM_of (m := (mDef 5 [0] (b_CallReader_one_item self))) (ps := ["self"]) T.k_CallReader.1 T.k_CallReader.2 hm (def_ok (k := 4 + L + 0) F sc_CallReader_one_item (by decide) (fun cdv A outer s H E hr => (mss_cons (ms_set (i := 1) sc_CallReader_one_item.nd rfl (by first | exact Or.inl rfl | exact Or.inr rfl) (me_int))
  (mss_cons (ms_if (mt_cmp o_ne (op_neD (have h := u64 hr; h)) (me_meth0 (ok_CallReader_digits T) hr (by omega) (takes_of rfl rfl rfl rfl) (pv 0)) (me_str) (nomark _)) (mss_cons (ms_set (i := 1) sc_CallReader_one_item.nd rfl (by first | exact Or.inl rfl | exact Or.inr rfl) (me_meth (ok_CallReader_take_number T) hr (by omega) (takes_of rfl rfl rfl rfl) (pv 0) (ma_arg (me_int) (ma_arg (x_glob (T.c_MOST_TIMES) rfl (fun _ => .int _)) ma_nil)) (ml_arg (ml_arg (fun ρ vs ρ' h => ml_nil h)))))
  (mss_one (ms_if (mt_cmp o_eq (op_eqD (have h := u64 hr; h)) (me_meth0 (ok_CallReader_sign T) hr (by omega) (takes_of rfl rfl rfl rfl) (pv 0)) (me_str) (nomark _)) (mss_cons (ms_expr (me_meth0 (ok_CallReader_go_in T) hr (by omega) (takes_of rfl rfl rfl rfl) (pv 0)))
  (mss_cons (ms_asg (is := [2, 3]) (me_meth ih hr (by omega) (takes_of rfl rfl rfl rfl) (pv 0) (ma_arg (me_str) ma_nil) (ml_arg (fun ρ vs ρ' h => ml_nil h))) (pg_tup rfl (pgs_cons (pg_name (i := 2) sc_CallReader_one_item.nd rfl (by first | exact Or.inl rfl | exact Or.inr rfl)) (pgs_cons (pg_name (i := 3) sc_CallReader_one_item.nd rfl (by first | exact Or.inl rfl | exact Or.inr rfl)) pgs_nil))) (tg_tup [2, 3] 2 rfl))
  (mss_cons (ms_expr (me_meth0 (ok_CallReader_go_out T) hr (by omega) (takes_of rfl rfl rfl rfl) (pv 0)))
  (mss_one (ms_ret (me_tup (ma_cons (me_op (o_or o_mul o_mulS) (op_mul.or op_mul_str) (me_var 1 (pv 1)) (me_var 2 (pv 2))) (ma_cons (me_op (o_or o_mul o_mulS) (op_mul.or op_mul_str) (me_var 3 (pv 3)) (me_var 1 (pv 1))) ma_nil)))))))) mss_nil))) mss_nil)
  (mss_cons (ms_set (i := 4) sc_CallReader_one_item.nd rfl (by first | exact Or.inl rfl | exact Or.inr rfl) (me_meth0 (ok_CallReader_sign T) hr (by omega) (takes_of rfl rfl rfl rfl) (pv 0)))
  (mss_cons (ms_if (mt_not (mt_val (me_callM (ok_is_letter T) hr (by omega) (takes_of rfl rfl rfl rfl) rfl (ma_arg (me_var 4 (pv 4)) ma_nil) (ml_arg (fun ρ vs ρ' h => ml_nil h))))) (mss_one (x_raise (T.x_BadText) fld_at rfl (takes_of rfl rfl rfl rfl) hr (ma_cons (me_fld T.fld (pv 0)) ma_nil) rfl)) mss_nil)
  (mss_cons (ms_addF T.fld (pv 0) (me_int))
  (mss_one (ms_ret (me_tup (ma_cons (me_var 1 (pv 1)) (ma_cons (me_op (o_or o_mul o_mulS) (op_mul.or op_mul_str) (me_var 4 (pv 4)) (me_var 1 (pv 1))) ma_nil)))))))))))) (FunD.bindsN F fun _ _ _ _ _ _ us hl => match us, hl with | [_], _ => rfl)
abbrev s_CallReader_all_items : Stmt := inClass (top 24) 0
theorem sc_CallReader_all_items : FnScope ["self", "closing", "number", "calling", "many", "part"] ["self", "closing"] (defScope s_CallReader_all_items) := ⟨rfl, rfl, rfl, by decide +kernel, rfl, by decide +kernel, by decide +kernel⟩
theorem ok_CallReader_all_items (T : Tx P K mg AA) : ∀ n, MetM P w K mg base (4 + 2 * n) "CallReader" "all_items" 2 [0] (m_CallReader_all_items n)
  | 0 => by
    obtain ⟨f, fd, F, hm⟩ := T.d_CallReader_all_items
    exact metM_of (m := (fun _ => .bad)) (ps := ["self", "closing"]) T.k_CallReader.1 T.k_CallReader.2 hm (fnok_bad) (FunD.bindsN F fun _ _ _ _ _ _ us hl => match us, hl with | [_, _], _ => rfl)
  | n + 1 => by
    have ih := ok_CallReader_all_items T n
    have ih_CallReader_one_item := ok_CallReader_one_item T (L := 2 * n) ih
    obtain ⟨f, fd, F, hm⟩ := T.d_CallReader_all_items
    exact metM_of (m := (mDef 6 [0] (b_CallReader_all_items (m_CallReader_all_items n)))) (ps := ["self", "closing"]) T.k_CallReader.1 T.k_CallReader.2 hm (def_ok (k := 4 + 2 * n + 1) F sc_CallReader_all_items (by decide) (fun cdv A outer s H E hr => (mss_cons (ms_set (i := 2) sc_CallReader_all_items.nd rfl (by first | exact Or.inl rfl | exact Or.inr rfl) (me_int))
  (mss_cons (ms_set (i := 3) sc_CallReader_all_items.nd rfl (by first | exact Or.inl rfl | exact Or.inr rfl) (me_str))
  (mss_one (ms_while (passes_of rfl) (mt_val (me_bl)) (mss_cons (ms_asg (is := [4, 5]) (me_meth0 ih_CallReader_one_item hr (by omega) (takes_of rfl rfl rfl rfl) (pv 0)) (pg_tup rfl (pgs_cons (pg_name (i := 4) sc_CallReader_all_items.nd rfl (by first | exact Or.inl rfl | exact Or.inr rfl)) (pgs_cons (pg_name (i := 5) sc_CallReader_all_items.nd rfl (by first | exact Or.inl rfl | exact Or.inr rfl)) pgs_nil))) (tg_tup [4, 5] 2 rfl))
  (mss_cons (ms_set (i := 2) sc_CallReader_all_items.nd rfl (by first | exact Or.inl rfl | exact Or.inr rfl) (me_op o_add op_addA (me_var 2 (pv 2)) (me_var 4 (pv 4))))
  (mss_cons (ms_set (i := 3) sc_CallReader_all_items.nd rfl (by first | exact Or.inl rfl | exact Or.inr rfl) (me_if (mt_cmp (o_or o_le o_leS) (op_le.or op_le_str) (me_var 2 (pv 2)) (x_glob (T.c_MOST_LETTERS) rfl (fun _ => .int _)) (nomark _)) (me_op o_add op_addA (me_var 3 (pv 3)) (me_var 5 (pv 5))) (me_str)))
  (mss_one (ms_if (mt_cmp o_eq (op_eqD (have h := u64 hr; h)) (me_meth0 (ok_CallReader_sign T) hr (by omega) (takes_of rfl rfl rfl rfl) (pv 0)) (me_var 1 (pv 1)) (nomark _)) (mss_one (ms_ret (me_tup (ma_cons (me_var 2 (pv 2)) (ma_cons (me_var 3 (pv 3)) ma_nil))))) mss_nil))))))))))) (FunD.bindsN F fun _ _ _ _ _ _ us hl => match us, hl with | [_, _], _ => rfl)
abbrev s_read_calling : Stmt := top 21
theorem sc_read_calling : FnScope ["text", "reader", "number", "calling"] ["text"] (defScope s_read_calling) := ⟨rfl, rfl, rfl, by decide +kernel, rfl, by decide +kernel, by decide +kernel⟩
theorem ok_read_calling (T : Tx P K mg AA) : CalM P w K mg base 21 "read_calling" 1 [] m_read_calling := by
  obtain ⟨f, fd, F, hm⟩ := T.d_read_calling
  exact calM_of (m := (mDef 4 [] b_read_calling)) (ps := ["text"]) (def_ok (k := 20) F sc_read_calling (by decide) (fun cdv A outer s H E hr => (mss_cons (ms_set (i := 1) sc_read_calling.nd rfl (by first | exact Or.inl rfl | exact Or.inr rfl) (me_make (ok_CallReader___init__ T) hr (by omega) (takes_of rfl rfl rfl rfl) rfl (ma_arg (me_var 0 (pv 0)) ma_nil) (ml_arg (fun ρ vs ρ' h => ml_nil h))))
  (mss_cons (ms_asg (is := [2, 3]) (me_if (mt_cmp o_eq (op_eqD (have h := u64 hr; h)) (me_meth0 (ok_CallReader_sign T) hr (by omega) (takes_of rfl rfl rfl rfl) (pv 1)) (me_str) (nomark _)) (me_tup (ma_cons (me_int) (ma_cons (me_str) ma_nil))) (me_meth (ok_CallReader_all_items T 8) hr (by omega) (takes_of rfl rfl rfl rfl) (pv 1) (ma_arg (me_str) ma_nil) (ml_arg (fun ρ vs ρ' h => ml_nil h)))) (pg_tup rfl (pgs_cons (pg_name (i := 2) sc_read_calling.nd rfl (by first | exact Or.inl rfl | exact Or.inr rfl)) (pgs_cons (pg_name (i := 3) sc_read_calling.nd rfl (by first | exact Or.inl rfl | exact Or.inr rfl)) pgs_nil))) (tg_tup [2, 3] 2 rfl))
  (mss_cons (ms_if (mt_cmp o_gt op_gt (me_var 2 (pv 2)) (x_glob (T.c_MOST_LETTERS) rfl (fun _ => .int _)) (nomark _)) (mss_one (x_raise (T.x_TooLong) fld_number rfl (takes_of rfl rfl rfl rfl) hr (ma_cons (me_var 2 (pv 2)) ma_nil) rfl)) mss_nil)
  (mss_one (ms_ret (me_var 3 (pv 3))))))))) hm F.kp (FunD.bindsN F fun _ _ _ _ _ _ us hl => match us, hl with | [_], _ => rfl)
abbrev s__law_is_folded : Stmt := top 35
theorem sc__law_is_folded : FnScope ["_law_row", "_law_due", "_law_told_here"] ["_law_row", "_law_due"] (defScope s__law_is_folded) := ⟨rfl, rfl, rfl, by decide +kernel, rfl, by decide +kernel, by decide +kernel⟩
theorem ok__law_is_folded (T : Tx P K mg AA) : CalM P w K mg base 22 "_law_is_folded" 2 [] m__law_is_folded := by
  obtain ⟨f, fd, F, hm⟩ := T.d__law_is_folded
  exact calM_of (m := (mDef 3 [] b__law_is_folded)) (ps := ["_law_row", "_law_due"]) (def_ok (k := 21) F sc__law_is_folded (by decide) (fun cdv A outer s H E hr => (mss_cons (ms_set (i := 2) sc__law_is_folded.nd rfl (by first | exact Or.inl rfl | exact Or.inr rfl) (me_callM (ok__law_told T) hr (by omega) (takes_of rfl rfl rfl rfl) rfl (ma_arg (me_var 0 (pv 0)) ma_nil) (ml_arg (fun ρ vs ρ' h => ml_nil h))))
  (mss_cons (ms_if (PW.pt (mw_or (mt_cmp o_ne (op_neD (have h := u64 hr; h)) (me_ix o_ix ix_seq (me_var 2 (pv 2)) (me_int) (fun _ _ => rfl)) (me_str) (nomark _)) (mw_or (mt_not (mt_val (me_isi tst_str_ok (.ty _) (me_ix o_ix ix_seq (me_var 2 (pv 2)) (me_int) (fun _ _ => rfl)) (pe_clsTy rfl T.b_str (by first | boot_by_name | rfl | kernel_rfl)) rfl T.b_isinstance))) (mw_or1 (mt_cmp o_ne (op_neD (have h := u64 hr; h)) (me_ix o_ix ix_seq (me_var 2 (pv 2)) (me_int) (fun _ _ => rfl)) (me_var 1 (pv 1)) (nomark _)))))) (mss_one (ms_ret (me_bl))) mss_nil)
  (mss_one (ms_ret (me_cmp o_eq (op_eqD (have h := u64 hr; h)) (me_callM (ok_read_calling T) hr (by omega) (takes_of rfl rfl rfl rfl) rfl (ma_arg (me_ix o_ix ix_seq (me_var 2 (pv 2)) (me_int) (fun _ _ => rfl)) ma_nil) (ml_arg (fun ρ vs ρ' h => ml_nil h))) (me_var 0 (pv 0)) (nomark _)))))))) hm F.kp (FunD.bindsN F fun _ _ _ _ _ _ us hl => match us, hl with | [_, _], _ => rfl)
abbrev s__law_mix : Stmt := top 27
theorem sc__law_mix : FnScope ["_law_cell", "_law_turn", "_law_one", "_law_two"] ["_law_cell", "_law_turn"] (defScope s__law_mix) := ⟨rfl, rfl, rfl, by decide +kernel, rfl, by decide +kernel, by decide +kernel⟩
theorem ok__law_mix (T : Tx P K mg AA) : CalM P w K mg base 2 "_law_mix" 2 [] m__law_mix := by
  obtain ⟨f, fd, F, hm⟩ := T.d__law_mix
  exact calM_of (m := (mDef 4 [] b__law_mix)) (ps := ["_law_cell", "_law_turn"]) (def_ok (k := 1) F sc__law_mix (by decide) (fun cdv A outer s H E hr => (mss_cons (ms_set (i := 2) sc__law_mix.nd rfl (by first | exact Or.inl rfl | exact Or.inr rfl) (me_op o_mod op_mod (me_callTy o_int call_int1 rfl T.b_int (by first | boot_by_name | rfl | kernel_rfl) (ma_cons (me_op o_add op_addA (me_op o_add op_addA (me_op (o_or o_mul o_mulS) (op_mul.or op_mul_str) (me_var 0 (pv 0)) (me_int)) (me_op (o_or o_mul o_mulS) (op_mul.or op_mul_str) (me_var 1 (pv 1)) (me_int))) (me_int)) ma_nil)) (me_int)))
  (mss_cons (ms_set (i := 3) sc__law_mix.nd rfl (by first | exact Or.inl rfl | exact Or.inr rfl) (me_op o_mod op_mod (me_callTy o_int call_int1 rfl T.b_int (by first | boot_by_name | rfl | kernel_rfl) (ma_cons (me_op o_add op_addA (me_op o_add op_addA (me_op (o_or o_mul o_mulS) (op_mul.or op_mul_str) (me_var 2 (pv 2)) (me_var 2 (pv 2))) (me_op (o_or o_mul o_mulS) (op_mul.or op_mul_str) (me_var 1 (pv 1)) (me_int))) (me_var 0 (pv 0))) ma_nil)) (me_int)))
  (mss_cons (ms_set (i := 3) sc__law_mix.nd rfl (by first | exact Or.inl rfl | exact Or.inr rfl) (me_op o_mod op_mod (me_callTy o_int call_int1 rfl T.b_int (by first | boot_by_name | rfl | kernel_rfl) (ma_cons (me_op o_add op_addA (me_op (o_or o_mul o_mulS) (op_mul.or op_mul_str) (me_var 3 (pv 3)) (me_var 3 (pv 3))) (me_var 2 (pv 2))) ma_nil)) (me_int)))
  (mss_one (ms_ret (me_op o_div op_fdiv (me_var 3 (pv 3)) (me_int))))))))) hm F.kp (FunD.bindsN F fun _ _ _ _ _ _ us hl => match us, hl with | [_, _], _ => rfl)
abbrev s__law_pick : Stmt := top 28
theorem sc__law_pick : FnScope ["_law_draw_here", "_law_many", "_law_cell", "_law_digit", "_law_found"] ["_law_draw_here", "_law_many"] (defScope s__law_pick) := ⟨rfl, rfl, rfl, by decide +kernel, rfl, by decide +kernel, by decide +kernel⟩
theorem ok__law_pick (T : Tx P K mg AA) : CalM P w K mg base 3 "_law_pick" 2 [0] m__law_pick := by
  obtain ⟨f, fd, F, hm⟩ := T.d__law_pick
  exact calM_of (m := (mDef 5 [0] b__law_pick)) (ps := ["_law_draw_here", "_law_many"]) (def_ok (k := 2) F sc__law_pick (by decide) (fun cdv A outer s H E hr => (mss_cons (ms_if (mt_cmp (o_or o_lt o_ltS) (op_lt.or op_lt_str) (me_var 1 (pv 1)) (me_int) (nomark _)) (mss_one (ms_ret (me_int))) mss_nil)
  (mss_cons (ms_if (PW.pt (mw_and (mt_cmp o_eq (op_eqD (have h := u64 hr; h)) (me_ix o_ix ix_seq (me_var 0 (pv 0)) (me_int) (fun _ _ => rfl)) (me_int) (nomark _)) (mw_and (mt_cmp (o_or o_lt o_ltS) (op_lt.or op_lt_str) (me_ix o_ix ix_seq (me_var 0 (pv 0)) (me_int) (fun _ _ => rfl)) (me_callB o_len call_lenA rfl T.b_len (by first | boot_by_name | rfl | kernel_rfl) (ma_cons (me_ix o_ix ix_seq (me_var 0 (pv 0)) (me_int) (fun _ _ => rfl)) ma_nil)) (nomark _)) (mw_and1 (mt_cmp o_eq (op_eqD (have h := u64 hr; h)) (me_ix o_ix ix_seq (me_var 0 (pv 0)) (me_int) (fun _ _ => rfl)) (me_int) (nomark _)))))) (mss_cons (ms_set (i := 2) sc__law_pick.nd rfl (by first | exact Or.inl rfl | exact Or.inr rfl) (me_ix o_ix ix_seq (me_ix o_ix ix_seq (me_var 0 (pv 0)) (me_int) (fun _ _ => rfl)) (me_ix o_ix ix_seq (me_var 0 (pv 0)) (me_int) (fun _ _ => rfl)) (fun _ _ => rfl)))
  (mss_one (ms_if (PW.pt (mw_or (mt_cmp o_ge op_ge (me_var 2 (pv 2)) (me_op o_pow op_powW (me_int) (me_int)) (nomark _)) (mw_or1 (mt_cmp (o_or o_le o_leS) (op_le.or op_le_str) (me_var 2 (pv 2)) (me_un o_neg un_neg (me_op o_pow op_powW (me_int) (me_int))) (nomark _))))) (mss_cons (x_setIx (s := 0) (pv 0) (me_int) (me_op o_mod op_mod (me_callTy o_int call_int1 rfl T.b_int (by first | boot_by_name | rfl | kernel_rfl) (ma_cons (me_callB o_abs call_abs rfl T.b_abs (by first | boot_by_name | rfl | kernel_rfl) (ma_cons (me_var 2 (pv 2)) ma_nil)) ma_nil)) (me_op o_pow op_powW (me_op o_pow op_powW (me_int) (me_int)) (me_int))) rfl rfl (pg_sub (pv 0) (me_int) set_list))
  (mss_one (x_setIx (s := 0) (pv 0) (me_int) (me_op o_add op_addA (me_ix o_ix ix_seq (me_var 0 (pv 0)) (me_int) (fun _ _ => rfl)) (me_int)) rfl rfl (pg_sub (pv 0) (me_int) set_list)))) mss_nil))) mss_nil)
  (mss_cons (ms_if (mt_cmp o_gt op_gt (me_ix o_ix ix_seq (me_var 0 (pv 0)) (me_int) (fun _ _ => rfl)) (me_int) (nomark _)) (mss_cons (ms_set (i := 3) sc__law_pick.nd rfl (by first | exact Or.inl rfl | exact Or.inr rfl) (me_op o_mod op_mod (me_callTy o_int call_int1 rfl T.b_int (by first | boot_by_name | rfl | kernel_rfl) (ma_cons (me_ix o_ix ix_seq (me_var 0 (pv 0)) (me_int) (fun _ _ => rfl)) ma_nil)) (me_var 1 (pv 1))))
  (mss_cons (x_setIx (s := 0) (pv 0) (me_int) (me_op o_div op_fdiv (me_ix o_ix ix_seq (me_var 0 (pv 0)) (me_int) (fun _ _ => rfl)) (me_var 1 (pv 1))) rfl rfl (pg_sub (pv 0) (me_int) set_list))
  (mss_one (ms_ret (me_var 3 (pv 3)))))) mss_nil)
  (mss_cons (ms_if (mt_cmp (o_or o_lt o_ltS) (op_lt.or op_lt_str) (me_ix o_ix ix_seq (me_var 0 (pv 0)) (me_int) (fun _ _ => rfl)) (me_callB o_len call_lenA rfl T.b_len (by first | boot_by_name | rfl | kernel_rfl) (ma_cons (me_ix o_ix ix_seq (me_var 0 (pv 0)) (me_int) (fun _ _ => rfl)) ma_nil)) (nomark _)) (mss_cons (ms_set (i := 2) sc__law_pick.nd rfl (by first | exact Or.inl rfl | exact Or.inr rfl) (me_ix o_ix ix_seq (me_ix o_ix ix_seq (me_var 0 (pv 0)) (me_int) (fun _ _ => rfl)) (me_ix o_ix ix_seq (me_var 0 (pv 0)) (me_int) (fun _ _ => rfl)) (fun _ _ => rfl)))
  (mss_cons (x_setIx (s := 0) (pv 0) (me_int) (me_op o_add op_addA (me_ix o_ix ix_seq (me_var 0 (pv 0)) (me_int) (fun _ _ => rfl)) (me_int)) rfl rfl (pg_sub (pv 0) (me_int) set_list))
  (mss_cons (ms_set (i := 4) sc__law_pick.nd rfl (by first | exact Or.inl rfl | exact Or.inr rfl) (me_op o_mod op_mod (me_callTy o_int call_int1 rfl T.b_int (by first | boot_by_name | rfl | kernel_rfl) (ma_cons (me_callM (ok__law_mix T) hr (by omega) (takes_of rfl rfl rfl rfl) rfl (ma_arg (me_op o_add op_addA (me_var 2 (pv 2)) (me_op (o_or o_mul o_mulS) (op_mul.or op_mul_str) (me_int) (me_ix o_ix ix_seq (me_var 0 (pv 0)) (me_int) (fun _ _ => rfl)))) (ma_arg (me_ix o_ix ix_seq (me_var 0 (pv 0)) (me_int) (fun _ _ => rfl)) ma_nil)) (ml_arg (ml_arg (fun ρ vs ρ' h => ml_nil h)))) ma_nil)) (me_var 1 (pv 1))))
  (mss_cons (ms_if (mt_cmp o_eq (op_eqD (have h := u64 hr; h)) (me_ix o_ix ix_seq (me_var 0 (pv 0)) (me_int) (fun _ _ => rfl)) (me_int) (nomark _)) (mss_cons (x_setIx (s := 0) (pv 0) (me_int) (me_int) rfl rfl (pg_sub (pv 0) (me_int) set_list))
  (mss_one (x_setIx (s := 0) (pv 0) (me_int) (me_op o_add op_addA (me_ix o_ix ix_seq (me_var 0 (pv 0)) (me_int) (fun _ _ => rfl)) (me_int)) rfl rfl (pg_sub (pv 0) (me_int) set_list)))) mss_nil)
  (mss_one (ms_ret (me_var 4 (pv 4)))))))) mss_nil)
  (mss_cons (x_setIx (s := 0) (pv 0) (me_int) (me_op o_add op_addA (me_ix o_ix ix_seq (me_var 0 (pv 0)) (me_int) (fun _ _ => rfl)) (me_int)) rfl rfl (pg_sub (pv 0) (me_int) set_list))
  (mss_one (ms_ret (me_op o_mod op_mod (me_callTy o_int call_int1 rfl T.b_int (by first | boot_by_name | rfl | kernel_rfl) (ma_cons (me_callM (ok__law_mix T) hr (by omega) (takes_of rfl rfl rfl rfl) rfl (ma_arg (me_ix o_ix ix_seq (me_var 0 (pv 0)) (me_int) (fun _ _ => rfl)) (ma_arg (me_op o_add op_addA (me_ix o_ix ix_seq (me_var 0 (pv 0)) (me_int) (fun _ _ => rfl)) (me_int)) ma_nil)) (ml_arg (ml_arg (fun ρ vs ρ' h => ml_nil h)))) ma_nil)) (me_var 1 (pv 1)))))))))))) hm F.kp (FunD.bindsN F fun _ _ _ _ _ _ us hl => match us, hl with | [_, _], _ => rfl)
abbrev s__law_letters_of : Stmt := top 30
theorem sc__law_letters_of : FnScope ["_law_draw_here", "_law_pool", "_law_row", "_law_turn", "_law_kind", "_law_letter", "_law_spot"] ["_law_draw_here"] (defScope s__law_letters_of) := ⟨rfl, rfl, rfl, by decide +kernel, rfl, by decide +kernel, by decide +kernel⟩
theorem ok__law_letters_of (T : Tx P K mg AA) : CalM P w K mg base 4 "_law_letters_of" 1 [0] m__law_letters_of := by
  obtain ⟨f, fd, F, hm⟩ := T.d__law_letters_of
  exact calM_of (m := (mDef 7 [0] b__law_letters_of)) (ps := ["_law_draw_here"]) (def_ok (k := 3) F sc__law_letters_of (by decide) (fun cdv A outer s H E hr => (mss_cons (ms_set (i := 1) sc__law_letters_of.nd rfl (by first | exact Or.inl rfl | exact Or.inr rfl) (me_str))
  (mss_cons (ms_set (i := 1) sc__law_letters_of.nd rfl (by first | exact Or.inl rfl | exact Or.inr rfl) (me_join (me_str) (me_comp (own := [("_law_turn", 3)]) rfl sc__law_letters_of.nd (x_rng1 rfl T.b_range (me_op o_add op_addA (me_int) (me_callM (ok__law_pick T) hr (by omega) (takes_of rfl rfl rfl rfl) rfl (ma_lend 0 (pv 0) (ma_arg (me_int) ma_nil)) (ml_lend (ml_arg (fun ρ vs ρ' h => ml_nil h)))))) (blkOk_by (N := ["_law_draw_here", "_law_pool", "_law_row", "_law_turn", "_law_kind", "_law_letter", "_law_spot"]) (sc := defScope s__law_letters_of) (own := [("_law_turn", 3)]) (by decide +kernel)) (fun _ _ _ _ _ => pg_name (i := 3) sc__law_letters_of.nd rfl (by first | exact Or.inl rfl | exact Or.inr rfl)) (fun _ _ _ _ _ => mts_nil) (fun _ _ _ _ _ => (me_ixS (me_var 1 (pv 1)) (me_callM (ok__law_pick T) hr (by omega) takes_W0 rfl (ma_lend 0 (pv 0) (ma_arg (me_int) ma_nil)) (ml_lend (ml_arg (fun ρ vs ρ' h => ml_nil h)))) (fun _ _ => rfl))) (tg_name 3) (by decide))))
  (mss_cons (ms_set (i := 2) sc__law_letters_of.nd rfl (by first | exact Or.inl rfl | exact Or.inr rfl) (me_join (me_str) (me_comp (own := [("_law_turn", 3)]) rfl sc__law_letters_of.nd (x_rng1 rfl T.b_range (me_callM (ok__law_pick T) hr (by omega) (takes_of rfl rfl rfl rfl) rfl (ma_lend 0 (pv 0) (ma_arg (me_int) ma_nil)) (ml_lend (ml_arg (fun ρ vs ρ' h => ml_nil h))))) (blkOk_by (N := ["_law_draw_here", "_law_pool", "_law_row", "_law_turn", "_law_kind", "_law_letter", "_law_spot"]) (sc := defScope s__law_letters_of) (own := [("_law_turn", 3)]) (by decide +kernel)) (fun _ _ _ _ _ => pg_name (i := 3) sc__law_letters_of.nd rfl (by first | exact Or.inl rfl | exact Or.inr rfl)) (fun _ _ _ _ _ => mts_nil) (fun _ _ _ _ _ => (me_ixS (me_var 1 (pv 1)) (me_callM (ok__law_pick T) hr (by omega) takes_W0 rfl (ma_lend 0 (pv 0) (ma_arg (me_callB o_len call_lenA rfl T.b_len (by first | boot_by_name | rfl | kernel_rfl) (ma_cons (me_var 1 (pv 1)) ma_nil)) ma_nil)) (ml_lend (ml_arg (fun ρ vs ρ' h => ml_nil h)))) (fun _ _ => rfl))) (tg_name 3) (by decide))))
  (mss_cons (ms_for (is := [3]) (passes_of rfl) rfl (x_rng1 rfl T.b_range (me_callM (ok__law_pick T) hr (by omega) (takes_of rfl rfl rfl rfl) rfl (ma_lend 0 (pv 0) (ma_arg (me_int) ma_nil)) (ml_lend (ml_arg (fun ρ vs ρ' h => ml_nil h))))) (pg_name (i := 3) sc__law_letters_of.nd rfl (by first | exact Or.inl rfl | exact Or.inr rfl)) (tg_name 3) (mss_cons (ms_set (i := 4) sc__law_letters_of.nd rfl (by first | exact Or.inl rfl | exact Or.inr rfl) (me_callM (ok__law_pick T) hr (by omega) (takes_of rfl rfl rfl rfl) rfl (ma_lend 0 (pv 0) (ma_arg (me_int) ma_nil)) (ml_lend (ml_arg (fun ρ vs ρ' h => ml_nil h)))))
  (mss_cons (ms_set (i := 5) sc__law_letters_of.nd rfl (by first | exact Or.inl rfl | exact Or.inr rfl) (me_ixS (me_var 1 (pv 1)) (me_callM (ok__law_pick T) hr (by omega) (takes_of rfl rfl rfl rfl) rfl (ma_lend 0 (pv 0) (ma_arg (me_callB o_len call_lenA rfl T.b_len (by first | boot_by_name | rfl | kernel_rfl) (ma_cons (me_var 1 (pv 1)) ma_nil)) ma_nil)) (ml_lend (ml_arg (fun ρ vs ρ' h => ml_nil h)))) (fun _ _ => rfl)))
  (mss_cons (ms_if (mt_cmp (o_or o_lt o_ltS) (op_lt.or op_lt_str) (me_var 4 (pv 4)) (me_int) (nomark _)) (mss_one (ms_set (i := 2) sc__law_letters_of.nd rfl (by first | exact Or.inl rfl | exact Or.inr rfl) (me_op (o_or o_mul o_mulS) (op_mul.or op_mul_str) (me_var 2 (pv 2)) (me_op o_add op_addA (me_int) (me_callM (ok__law_pick T) hr (by omega) (takes_of rfl rfl rfl rfl) rfl (ma_lend 0 (pv 0) (ma_arg (me_int) ma_nil)) (ml_lend (ml_arg (fun ρ vs ρ' h => ml_nil h)))))))) (mss_one (ms_if (mt_cmp o_eq (op_eqD (have h := u64 hr; h)) (me_var 4 (pv 4)) (me_int) (nomark _)) (mss_one (ms_set (i := 2) sc__law_letters_of.nd rfl (by first | exact Or.inl rfl | exact Or.inr rfl) (me_op o_add op_addA (me_var 2 (pv 2)) (me_op (o_or o_mul o_mulS) (op_mul.or op_mul_str) (me_var 5 (pv 5)) (me_op o_add op_addA (me_int) (me_callM (ok__law_pick T) hr (by omega) (takes_of rfl rfl rfl rfl) rfl (ma_lend 0 (pv 0) (ma_arg (me_int) ma_nil)) (ml_lend (ml_arg (fun ρ vs ρ' h => ml_nil h))))))))) (mss_one (ms_if (mt_cmp o_eq (op_eqD (have h := u64 hr; h)) (me_var 4 (pv 4)) (me_int) (nomark _)) (mss_one (ms_set (i := 2) sc__law_letters_of.nd rfl (by first | exact Or.inl rfl | exact Or.inr rfl) (me_op o_add op_addA (me_var 2 (pv 2)) (me_var 5 (pv 5))))) (mss_one (ms_set (i := 2) sc__law_letters_of.nd rfl (by first | exact Or.inl rfl | exact Or.inr rfl) (me_op o_add op_addA (me_var 5 (pv 5)) (me_var 2 (pv 2))))))))))
  (mss_one (ms_set (i := 2) sc__law_letters_of.nd rfl (by first | exact Or.inl rfl | exact Or.inr rfl) (me_sliceS (me_var 2 (pv 2)) mo_none (mo_some (me_int)))))))))
  (mss_cons (ms_if (PW.pt (mw_and (mt_cmp o_gt op_gt (me_callB o_len call_lenA rfl T.b_len (by first | boot_by_name | rfl | kernel_rfl) (ma_cons (me_var 2 (pv 2)) ma_nil)) (me_int) (nomark _)) (mw_and1 (mt_cmp o_eq (op_eqD (have h := u64 hr; h)) (me_callM (ok__law_pick T) hr (by omega) (takes_of rfl rfl rfl rfl) rfl (ma_lend 0 (pv 0) (ma_arg (me_int) ma_nil)) (ml_lend (ml_arg (fun ρ vs ρ' h => ml_nil h)))) (me_int) (nomark _))))) (mss_cons (ms_set (i := 6) sc__law_letters_of.nd rfl (by first | exact Or.inl rfl | exact Or.inr rfl) (me_callM (ok__law_pick T) hr (by omega) (takes_of rfl rfl rfl rfl) rfl (ma_lend 0 (pv 0) (ma_arg (me_callB o_len call_lenA rfl T.b_len (by first | boot_by_name | rfl | kernel_rfl) (ma_cons (me_var 2 (pv 2)) ma_nil)) ma_nil)) (ml_lend (ml_arg (fun ρ vs ρ' h => ml_nil h)))))
  (mss_one (ms_set (i := 2) sc__law_letters_of.nd rfl (by first | exact Or.inl rfl | exact Or.inr rfl) (me_op o_add op_addA (me_op o_add op_addA (me_sliceS (me_var 2 (pv 2)) mo_none (mo_some (me_var 6 (pv 6)))) (me_ixS (me_var 1 (pv 1)) (me_callM (ok__law_pick T) hr (by omega) (takes_of rfl rfl rfl rfl) rfl (ma_lend 0 (pv 0) (ma_arg (me_callB o_len call_lenA rfl T.b_len (by first | boot_by_name | rfl | kernel_rfl) (ma_cons (me_var 1 (pv 1)) ma_nil)) ma_nil)) (ml_lend (ml_arg (fun ρ vs ρ' h => ml_nil h)))) (fun _ _ => rfl))) (me_sliceS (me_var 2 (pv 2)) (mo_some (me_op o_add op_addA (me_var 6 (pv 6)) (me_int))) mo_none))))) mss_nil)
  (mss_one (ms_ret (me_var 2 (pv 2))))))))))) hm F.kp (FunD.bindsN F fun _ _ _ _ _ _ us hl => match us, hl with | [_], _ => rfl)
abbrev s__law_is_int : Stmt := top 29
theorem sc__law_is_int : FnScope ["_law_thing"] ["_law_thing"] (defScope s__law_is_int) := ⟨rfl, rfl, rfl, by decide +kernel, rfl, by decide +kernel, by decide +kernel⟩
theorem ok__law_is_int (T : Tx P K mg AA) : CalM P w K mg base 2 "_law_is_int" 1 [] m__law_is_int := by
  obtain ⟨f, fd, F, hm⟩ := T.d__law_is_int
  exact calM_of (m := (mDef 1 [] b__law_is_int)) (ps := ["_law_thing"]) (def_ok (k := 1) F sc__law_is_int (by decide) (fun cdv A outer s H E hr => (mss_one (ms_ret ((me_and (me_isi tst_int_ok (.ty _) (me_var 0 (pv 0)) (pe_clsTy rfl T.b_int (by first | boot_by_name | rfl | kernel_rfl)) rfl T.b_isinstance) (me_one (me_not (me_isi tst_bool_ok (.ty _) (me_var 0 (pv 0)) (pe_clsTy rfl T.b_bool (by first | boot_by_name | rfl | kernel_rfl)) rfl T.b_isinstance))))))))) hm F.kp (FunD.bindsN F fun _ _ _ _ _ _ us hl => match us, hl with | [_], _ => rfl)
abbrev s__law_is_refused : Stmt := top 36
theorem sc__law_is_refused : FnScope ["_law_calling", "_law_word", "_law_number", "_law_told_here"] ["_law_calling", "_law_word", "_law_number"] (defScope s__law_is_refused) := ⟨rfl, rfl, rfl, by decide +kernel, rfl, by decide +kernel, by decide +kernel⟩
theorem ok__law_is_refused (T : Tx P K mg AA) : CalM P w K mg base 8 "_law_is_refused" 3 [] m__law_is_refused := by
  obtain ⟨f, fd, F, hm⟩ := T.d__law_is_refused
  exact calM_of (m := (mDef 4 [] b__law_is_refused)) (ps := ["_law_calling", "_law_word", "_law_number"]) (def_ok (k := 7) F sc__law_is_refused (by decide) (fun cdv A outer s H E hr => (mss_cons (ms_set (i := 3) sc__law_is_refused.nd rfl (by first | exact Or.inl rfl | exact Or.inr rfl) (me_callM (ok__law_told T) hr (by omega) (takes_of rfl rfl rfl rfl) rfl (ma_arg (me_var 0 (pv 0)) ma_nil) (ml_arg (fun ρ vs ρ' h => ml_nil h))))
  (mss_one (ms_ret ((me_and (me_cmp o_eq (op_eqD (have h := u64 hr; h)) (me_ix o_ix ix_seq (me_var 3 (pv 3)) (me_int) (fun _ _ => rfl)) (me_var 1 (pv 1)) (nomark _)) (me_and (me_callM (ok__law_is_int T) hr (by omega) (takes_of rfl rfl rfl rfl) rfl (ma_arg (me_ix o_ix ix_seq (me_var 3 (pv 3)) (me_int) (fun _ _ => rfl)) ma_nil) (ml_arg (fun ρ vs ρ' h => ml_nil h))) (me_one (me_cmp o_eq (op_eqD (have h := u64 hr; h)) (me_ix o_ix ix_seq (me_var 3 (pv 3)) (me_int) (fun _ _ => rfl)) (me_var 2 (pv 2)) (nomark _))))))))))) hm F.kp (FunD.bindsN F fun _ _ _ _ _ _ us hl => match us, hl with | [_, _, _], _ => rfl)
abbrev s__law_refusals : Stmt := top 37
theorem sc__law_refusals : FnScope ["_law_draw_here", "_law_row", "_law_many", "_law_wide", "_law_spot", "_law_sign", "_law_odd"] ["_law_draw_here", "_law_row"] (defScope s__law_refusals) := ⟨rfl, rfl, rfl, by decide +kernel, rfl, by decide +kernel, by decide +kernel⟩
theorem ok__law_refusals (T : Tx P K mg AA) : CalM P w K mg base 9 "_law_refusals" 2 [0] m__law_refusals := by
  obtain ⟨f, fd, F, hm⟩ := T.d__law_refusals
  exact calM_of (m := (mDef 7 [0] b__law_refusals)) (ps := ["_law_draw_here", "_law_row"]) (def_ok (k := 8) F sc__law_refusals (by decide) (fun cdv A outer s H E hr => (mss_cons (ms_set (i := 2) sc__law_refusals.nd rfl (by first | exact Or.inl rfl | exact Or.inr rfl) (me_op o_add op_addA (me_int) (me_callM (ok__law_pick T) hr (by omega) (takes_of rfl rfl rfl rfl) rfl (ma_lend 0 (pv 0) (ma_arg (me_ix o_ix ix_seq (me_lst (ma_cons (me_int) (ma_cons (me_int) ma_nil))) (me_callM (ok__law_pick T) hr (by omega) (takes_of rfl rfl rfl rfl) rfl (ma_lend 0 (pv 0) (ma_arg (me_int) ma_nil)) (ml_lend (ml_arg (fun ρ vs ρ' h => ml_nil h)))) (fun _ _ => rfl)) ma_nil)) (ml_lend (ml_arg (fun ρ vs ρ' h => ml_nil h))))))
  (mss_cons (ms_set (i := 3) sc__law_refusals.nd rfl (by first | exact Or.inl rfl | exact Or.inr rfl) (me_op (o_or o_mul o_mulS) (op_mul.or op_mul_str) (me_op o_add op_addA (me_var 1 (pv 1)) (me_str)) (me_var 2 (pv 2))))
  (mss_cons (ms_set (i := 3) sc__law_refusals.nd rfl (by first | exact Or.inl rfl | exact Or.inr rfl) (me_sliceS (me_var 3 (pv 3)) mo_none (mo_some (me_var 2 (pv 2)))))
  (mss_cons (ms_set (i := 4) sc__law_refusals.nd rfl (by first | exact Or.inl rfl | exact Or.inr rfl) (me_callM (ok__law_pick T) hr (by omega) (takes_of rfl rfl rfl rfl) rfl (ma_lend 0 (pv 0) (ma_arg (me_op o_add op_addA (me_callB o_len call_lenA rfl T.b_len (by first | boot_by_name | rfl | kernel_rfl) (ma_cons (me_var 1 (pv 1)) ma_nil)) (me_int)) ma_nil)) (ml_lend (ml_arg (fun ρ vs ρ' h => ml_nil h)))))
  (mss_cons (ms_set (i := 5) sc__law_refusals.nd rfl (by first | exact Or.inl rfl | exact Or.inr rfl) (me_ixS (me_str) (me_callM (ok__law_pick T) hr (by omega) (takes_of rfl rfl rfl rfl) rfl (ma_lend 0 (pv 0) (ma_arg (me_int) ma_nil)) (ml_lend (ml_arg (fun ρ vs ρ' h => ml_nil h)))) (fun _ _ => rfl)))
  (mss_cons (ms_set (i := 6) sc__law_refusals.nd rfl (by first | exact Or.inl rfl | exact Or.inr rfl) (me_ix o_ix ix_seq (me_lst (ma_cons (me_non) (ma_cons (me_int) (ma_cons (me_bl) (ma_cons (me_lst (ma_cons (me_str) ma_nil)) (ma_cons (me_tup (ma_cons (me_str) ma_nil)) (ma_cons (me_un o_neg un_neg (me_int)) ma_nil))))))) (me_callM (ok__law_pick T) hr (by omega) (takes_of rfl rfl rfl rfl) rfl (ma_lend 0 (pv 0) (ma_arg (me_int) ma_nil)) (ml_lend (ml_arg (fun ρ vs ρ' h => ml_nil h)))) (fun _ _ => rfl)))
  (mss_cons (ms_if (PW.pt (mw_or (mt_not (mt_val (me_callM (ok__law_is_refused T) hr (by omega) (takes_of rfl rfl rfl rfl) rfl (ma_arg (me_var 3 (pv 3)) (ma_arg (me_str) (ma_arg (me_var 2 (pv 2)) ma_nil))) (ml_arg (ml_arg (ml_arg (fun ρ vs ρ' h => ml_nil h))))))) (mw_or1 (mt_not (mt_val (me_callM (ok__law_is_refused T) hr (by omega) (takes_of rfl rfl rfl rfl) rfl (ma_arg (me_var 6 (pv 6)) (ma_arg (me_str) (ma_arg (me_un o_neg un_neg (me_int)) ma_nil))) (ml_arg (ml_arg (ml_arg (fun ρ vs ρ' h => ml_nil h)))))))))) (mss_one (ms_ret (me_bl))) mss_nil)
  (mss_cons (ms_if (mt_not (mt_val (me_callM (ok__law_is_refused T) hr (by omega) (takes_of rfl rfl rfl rfl) rfl (ma_arg (me_op o_add op_addA (me_op o_add op_addA (me_op o_add op_addA (me_sliceS (me_var 1 (pv 1)) mo_none (mo_some (me_var 4 (pv 4)))) (me_var 5 (pv 5))) (me_sliceS (me_var 1 (pv 1)) (mo_some (me_var 4 (pv 4))) mo_none)) (me_var 5 (pv 5))) (ma_arg (me_str) (ma_arg (me_var 4 (pv 4)) ma_nil))) (ml_arg (ml_arg (ml_arg (fun ρ vs ρ' h => ml_nil h))))))) (mss_one (ms_ret (me_bl))) mss_nil)
  (mss_one (ms_ret (me_callM (ok__law_is_refused T) hr (by omega) (takes_of rfl rfl rfl rfl) rfl (ma_arg (me_op o_add op_addA (me_op o_add op_addA (me_sliceS (me_var 3 (pv 3)) mo_none (mo_some (me_var 4 (pv 4)))) (me_var 5 (pv 5))) (me_sliceS (me_var 3 (pv 3)) (mo_some (me_op o_add op_addA (me_var 4 (pv 4)) (me_int))) mo_none)) (ma_arg (me_str) (ma_arg (me_var 4 (pv 4)) ma_nil))) (ml_arg (ml_arg (ml_arg (fun ρ vs ρ' h => ml_nil h))))))))))))))))) hm F.kp (FunD.bindsN F fun _ _ _ _ _ _ us hl => match us, hl with | [_, _], _ => rfl)
abbrev s__law_first : Stmt := top 31
theorem sc__law_first : FnScope ["_law_texts_here", "_law_best", "_law_text"] ["_law_texts_here"] (defScope s__law_first) := ⟨rfl, rfl, rfl, by decide +kernel, rfl, by decide +kernel, by decide +kernel⟩
theorem ok__law_first (T : Tx P K mg AA) : CalM P w K mg base 2 "_law_first" 1 [] m__law_first := by
  obtain ⟨f, fd, F, hm⟩ := T.d__law_first
  exact calM_of (m := (mDef 3 [] b__law_first)) (ps := ["_law_texts_here"]) (def_ok (k := 1) F sc__law_first (by decide) (fun cdv A outer s H E hr => (mss_cons (ms_set (i := 1) sc__law_first.nd rfl (by first | exact Or.inl rfl | exact Or.inr rfl) (me_ix o_ix ix_seq (me_var 0 (pv 0)) (me_int) (fun _ _ => rfl)))
  (mss_cons (ms_for (is := [2]) (passes_of rfl) rfl (mi_seq (me_var 0 (pv 0))) (pg_name (i := 2) sc__law_first.nd rfl (by first | exact Or.inl rfl | exact Or.inr rfl)) (tg_name 2) (mss_one (ms_if (PW.pt (mw_or (mt_cmp (o_or o_lt o_ltS) (op_lt.or op_lt_str) (me_callB o_len call_lenA rfl T.b_len (by first | boot_by_name | rfl | kernel_rfl) (ma_cons (me_var 2 (pv 2)) ma_nil)) (me_callB o_len call_lenA rfl T.b_len (by first | boot_by_name | rfl | kernel_rfl) (ma_cons (me_var 1 (pv 1)) ma_nil)) (nomark _)) (mw_or1 (PW.pt (mw_and (mt_cmp o_eq (op_eqD (have h := u64 hr; h)) (me_callB o_len call_lenA rfl T.b_len (by first | boot_by_name | rfl | kernel_rfl) (ma_cons (me_var 2 (pv 2)) ma_nil)) (me_callB o_len call_lenA rfl T.b_len (by first | boot_by_name | rfl | kernel_rfl) (ma_cons (me_var 1 (pv 1)) ma_nil)) (nomark _)) (mw_and1 (mt_cmp (o_or o_lt o_ltS) (op_lt.or op_lt_str) (me_var 2 (pv 2)) (me_var 1 (pv 1)) (nomark _)))))))) (mss_one (ms_set (i := 1) sc__law_first.nd rfl (by first | exact Or.inl rfl | exact Or.inr rfl) (me_var 2 (pv 2)))) mss_nil)))
  (mss_one (ms_ret (me_var 1 (pv 1)))))))) hm F.kp (FunD.bindsN F fun _ _ _ _ _ _ us hl => match us, hl with | [_], _ => rfl)
abbrev s__law_texts : Stmt := top 32
theorem sc__law_texts : FnScope ["_law_row", "_law_table_here", "_law_low", "_law_high", "_law_many", "_law_texts_here", "_law_part", "_law_cut"] ["_law_row", "_law_table_here", "_law_low", "_law_high"] (defScope s__law_texts) := ⟨rfl, rfl, rfl, by decide +kernel, rfl, by decide +kernel, by decide +kernel⟩
theorem ok__law_texts (T : Tx P K mg AA) : CalM P w K mg base 2 "_law_texts" 4 [1] m__law_texts := by
  obtain ⟨f, fd, F, hm⟩ := T.d__law_texts
  exact calM_of (m := (mDef 8 [1] b__law_texts)) (ps := ["_law_row", "_law_table_here", "_law_low", "_law_high"]) (def_ok (k := 1) F sc__law_texts (by decide) (fun cdv A outer s H E hr => (mss_cons (ms_set (i := 4) sc__law_texts.nd rfl (by first | exact Or.inl rfl | exact Or.inr rfl) (me_op o_sub op_sub (me_var 3 (pv 3)) (me_var 2 (pv 2))))
  (mss_cons (ms_if (mt_cmp o_eq (op_eqD (have h := u64 hr; h)) (me_var 4 (pv 4)) (me_int) (nomark _)) (mss_one (ms_ret (me_lst (ma_cons (me_ixS (me_var 0 (pv 0)) (me_var 2 (pv 2)) (fun _ _ => rfl)) ma_nil)))) mss_nil)
  (mss_cons (ms_setComp (own := [("_law_cut", 7)]) (i := 5) rfl sc__law_texts.nd rfl rfl rfl (x_rng2 rfl T.b_range (me_op o_add op_addA (me_var 2 (pv 2)) (me_int)) (me_var 3 (pv 3))) (blkOk_by (N := ["_law_row", "_law_table_here", "_law_low", "_law_high", "_law_many", "_law_texts_here", "_law_part", "_law_cut"]) (sc := defScope s__law_texts) (own := [("_law_cut", 7)]) (by decide +kernel)) (fun _ _ _ _ _ => pg_name (i := 7) sc__law_texts.nd rfl (by first | exact Or.inl rfl | exact Or.inr rfl)) (fun _ _ _ _ _ => mts_nil) (fun _ _ _ _ _ => (me_op o_add op_addA (me_getT (have h := u1 hr; h) (me_var 1 (pv 1)) (ma_cons (me_var 2 (pv 2)) (ma_cons (me_var 7 (pv 7)) ma_nil))) (me_getT (have h := u1 hr; h) (me_var 1 (pv 1)) (ma_cons (me_var 7 (pv 7)) (ma_cons (me_var 3 (pv 3)) ma_nil))))) (tg_name 7) (by decide))
  (mss_cons (ms_if (mt_cmp o_eq (op_eqD (have h := u64 hr; h)) (me_sliceS (me_var 0 (pv 0)) (mo_some (me_var 2 (pv 2))) (mo_some (me_var 3 (pv 3)))) (me_op (o_or o_mul o_mulS) (op_mul.or op_mul_str) (me_ixS (me_var 0 (pv 0)) (me_var 2 (pv 2)) (fun _ _ => rfl)) (me_var 4 (pv 4))) (nomark _)) (mss_one (ms_expr (x_append (s := 5) (pv 5) (me_op o_add op_addA (me_callTy o_str call_str_int rfl T.b_str (by first | boot_by_name | rfl | kernel_rfl) (ma_cons (me_var 4 (pv 4)) ma_nil)) (me_ixS (me_var 0 (pv 0)) (me_var 2 (pv 2)) (fun _ _ => rfl)))))) mss_nil)
  (mss_cons (ms_for (is := [6]) (passes_of rfl) rfl (x_rng2 rfl T.b_range (me_int) (me_var 4 (pv 4))) (pg_name (i := 6) sc__law_texts.nd rfl (by first | exact Or.inl rfl | exact Or.inr rfl)) (tg_name 6) (mss_one (ms_if (PW.pt (mw_and (mt_cmp o_eq (op_eqD (have h := u64 hr; h)) (me_op o_mod op_mod (me_callTy o_int call_int1 rfl T.b_int (by first | boot_by_name | rfl | kernel_rfl) (ma_cons (me_var 4 (pv 4)) ma_nil)) (me_var 6 (pv 6))) (me_int) (nomark _)) (mw_and1 (mt_cmp o_eq (op_eqD (have h := u64 hr; h)) (me_sliceS (me_var 0 (pv 0)) (mo_some (me_var 2 (pv 2))) (mo_some (me_var 3 (pv 3)))) (me_op (o_or o_mul o_mulS) (op_mul.or op_mul_str) (me_sliceS (me_var 0 (pv 0)) (mo_some (me_var 2 (pv 2))) (mo_some (me_op o_add op_addA (me_var 2 (pv 2)) (me_var 6 (pv 6))))) (me_op o_div op_fdiv (me_var 4 (pv 4)) (me_var 6 (pv 6)))) (nomark _))))) (mss_one (ms_expr (x_append (s := 5) (pv 5) (me_op o_add op_addA (me_op o_add op_addA (me_op o_add op_addA (me_callTy o_str call_str_int rfl T.b_str (by first | boot_by_name | rfl | kernel_rfl) (ma_cons (me_op o_div op_fdiv (me_var 4 (pv 4)) (me_var 6 (pv 6))) ma_nil)) (me_str)) (me_getT (have h := u1 hr; h) (me_var 1 (pv 1)) (ma_cons (me_var 2 (pv 2)) (ma_cons (me_op o_add op_addA (me_var 2 (pv 2)) (me_var 6 (pv 6))) ma_nil)))) (me_str))))) mss_nil)))
  (mss_one (ms_ret (me_var 5 (pv 5))))))))))) hm F.kp (FunD.bindsN F fun _ _ _ _ _ _ us hl => match us, hl with | [_, _, _, _], _ => rfl)
abbrev s__law_table : Stmt := top 33
theorem sc__law_table : FnScope ["_law_row", "_law_table_here", "_law_many", "_law_low"] ["_law_row"] (defScope s__law_table) := ⟨rfl, rfl, rfl, by decide +kernel, rfl, by decide +kernel, by decide +kernel⟩
theorem ok__law_table (T : Tx P K mg AA) : CalM P w K mg base 3 "_law_table" 1 [] m__law_table := by
  obtain ⟨f, fd, F, hm⟩ := T.d__law_table
  exact calM_of (m := (mDef 4 [] b__law_table)) (ps := ["_law_row"]) (def_ok (k := 2) F sc__law_table (by decide) (fun cdv A outer s H E hr => (mss_cons (ms_set (i := 1) sc__law_table.nd rfl (by first | exact Or.inl rfl | exact Or.inr rfl) (me_dispT (have h := u1 hr; h)))
  (mss_cons (ms_for (is := [2]) (passes_of rfl) rfl (x_rng2 rfl T.b_range (me_int) (me_op o_add op_addA (me_callB o_len call_lenA rfl T.b_len (by first | boot_by_name | rfl | kernel_rfl) (ma_cons (me_var 0 (pv 0)) ma_nil)) (me_int))) (pg_name (i := 2) sc__law_table.nd rfl (by first | exact Or.inl rfl | exact Or.inr rfl)) (tg_name 2) (mss_one (ms_for (is := [3]) (passes_of rfl) rfl (x_rng1 rfl T.b_range (me_op o_add op_addA (me_op o_sub op_sub (me_callB o_len call_lenA rfl T.b_len (by first | boot_by_name | rfl | kernel_rfl) (ma_cons (me_var 0 (pv 0)) ma_nil)) (me_var 2 (pv 2))) (me_int))) (pg_name (i := 3) sc__law_table.nd rfl (by first | exact Or.inl rfl | exact Or.inr rfl)) (tg_name 3) (mss_one (ms_putT (have h := u1 hr; h) (pv 1) (ma_cons (me_var 3 (pv 3)) (ma_cons (me_op o_add op_addA (me_var 3 (pv 3)) (me_var 2 (pv 2))) ma_nil)) (me_callM (ok__law_first T) hr (by omega) (takes_of rfl rfl rfl rfl) rfl (ma_arg (me_callM (ok__law_texts T) hr (by omega) (takes_of rfl rfl rfl rfl) rfl (ma_arg (me_var 0 (pv 0)) (ma_lend 1 (pv 1) (ma_arg (me_var 3 (pv 3)) (ma_arg (me_op o_add op_addA (me_var 3 (pv 3)) (me_var 2 (pv 2))) ma_nil)))) (ml_arg (ml_lend (ml_arg (ml_arg (fun ρ vs ρ' h => ml_nil h)))))) ma_nil) (ml_arg (fun ρ vs ρ' h => ml_nil h))))))))
  (mss_one (ms_ret (me_var 1 (pv 1)))))))) hm F.kp (FunD.bindsN F fun _ _ _ _ _ _ us hl => match us, hl with | [_], _ => rfl)
abbrev s_law : Stmt := top 38
theorem sc_law : FnScope ["_law_script", "_law_draw_here", "_law_asked", "_law_turn", "_law_row", "_law_table_here", "_law_low", "_law_high", "_law_due"] ["_law_script"] (defScope s_law) := ⟨rfl, rfl, rfl, by decide +kernel, rfl, by decide +kernel, by decide +kernel⟩
theorem fn_law (T : Tx P K mg AA) {f : Addr} {fd : FuncData} (F : FnP K "law" s_law f fd) : FnOk P w K mg base (L2.CX P w) 23 f fd ["_law_script"] (spM K mg 1 [] m_law) :=
  fnok_as (m := (mDef 9 [] b_law)) rfl (def_ok (k := 22) F sc_law (by decide) (fun cdv A outer s H E hr => (mss_cons (ms_set (i := 1) sc_law.nd rfl (by first | exact Or.inl rfl | exact Or.inr rfl) (me_callM (ok__law_draw T) hr (by omega) (takes_of rfl rfl rfl rfl) rfl (ma_arg (me_var 0 (pv 0)) ma_nil) (ml_arg (fun ρ vs ρ' h => ml_nil h))))
  (mss_cons (ms_set (i := 2) sc_law.nd rfl (by first | exact Or.inl rfl | exact Or.inr rfl) (me_lst ma_nil))
  (mss_cons (ms_for (is := [3]) (passes_of rfl) rfl (x_rng1 rfl T.b_range (me_int)) (pg_name (i := 3) sc_law.nd rfl (by first | exact Or.inl rfl | exact Or.inr rfl)) (tg_name 3) (mss_cons (ms_set (i := 4) sc_law.nd rfl (by first | exact Or.inl rfl | exact Or.inr rfl) (me_callM (ok__law_letters_of T) hr (by omega) (takes_of rfl rfl rfl rfl) rfl (ma_lend 1 (pv 1) ma_nil) (ml_lend (fun ρ vs ρ' h => ml_nil h))))
  (mss_cons (ms_set (i := 5) sc_law.nd rfl (by first | exact Or.inl rfl | exact Or.inr rfl) (me_callM (ok__law_table T) hr (by omega) (takes_of rfl rfl rfl rfl) rfl (ma_arg (me_var 4 (pv 4)) ma_nil) (ml_arg (fun ρ vs ρ' h => ml_nil h))))
  (mss_cons (ms_set (i := 6) sc_law.nd rfl (by first | exact Or.inl rfl | exact Or.inr rfl) (me_callM (ok__law_pick T) hr (by omega) (takes_of rfl rfl rfl rfl) rfl (ma_lend 1 (pv 1) (ma_arg (me_op o_add op_addA (me_callB o_len call_lenA rfl T.b_len (by first | boot_by_name | rfl | kernel_rfl) (ma_cons (me_var 4 (pv 4)) ma_nil)) (me_int)) ma_nil)) (ml_lend (ml_arg (fun ρ vs ρ' h => ml_nil h)))))
  (mss_cons (ms_set (i := 7) sc_law.nd rfl (by first | exact Or.inl rfl | exact Or.inr rfl) (me_op o_add op_addA (me_var 6 (pv 6)) (me_callM (ok__law_pick T) hr (by omega) (takes_of rfl rfl rfl rfl) rfl (ma_lend 1 (pv 1) (ma_arg (me_op o_add op_addA (me_op o_sub op_sub (me_callB o_len call_lenA rfl T.b_len (by first | boot_by_name | rfl | kernel_rfl) (ma_cons (me_var 4 (pv 4)) ma_nil)) (me_var 6 (pv 6))) (me_int)) ma_nil)) (ml_lend (ml_arg (fun ρ vs ρ' h => ml_nil h))))))
  (mss_cons (ms_expr (x_append (s := 2) (pv 2) (me_tup (ma_cons (me_var 4 (pv 4)) (ma_cons (me_getT (have h := u1 hr; h) (me_var 5 (pv 5)) (ma_cons (me_int) (ma_cons (me_callB o_len call_lenA rfl T.b_len (by first | boot_by_name | rfl | kernel_rfl) (ma_cons (me_var 4 (pv 4)) ma_nil)) ma_nil))) ma_nil)))))
  (mss_one (ms_if (mt_cmp (o_or o_lt o_ltS) (op_lt.or op_lt_str) (me_var 6 (pv 6)) (me_var 7 (pv 7)) (nomark _)) (mss_one (ms_expr (x_append (s := 2) (pv 2) (me_tup (ma_cons (me_sliceS (me_var 4 (pv 4)) (mo_some (me_var 6 (pv 6))) (mo_some (me_var 7 (pv 7)))) (ma_cons (me_getT (have h := u1 hr; h) (me_var 5 (pv 5)) (ma_cons (me_var 6 (pv 6)) (ma_cons (me_var 7 (pv 7)) ma_nil))) ma_nil)))))) mss_nil))))))))
  (mss_cons (ms_if (mt_not (mt_val (me_callM (ok__law_refusals T) hr (by omega) (takes_of rfl rfl rfl rfl) rfl (ma_lend 1 (pv 1) (ma_arg (me_ix o_ix ix_seq (me_ix o_ix ix_seq (me_var 2 (pv 2)) (me_int) (fun _ _ => rfl)) (me_int) (fun _ _ => rfl)) ma_nil)) (ml_lend (ml_arg (fun ρ vs ρ' h => ml_nil h)))))) (mss_one (ms_ret (me_bl))) mss_nil)
  (mss_cons (ms_for (is := [4, 8]) (passes_of rfl) rfl (mi_seq (me_op o_add op_addA (me_var 2 (pv 2)) (me_slice (me_var 2 (pv 2)) mo_none (mo_some (me_int))))) (pg_tup rfl (pgs_cons (pg_name (i := 4) sc_law.nd rfl (by first | exact Or.inl rfl | exact Or.inr rfl)) (pgs_cons (pg_name (i := 8) sc_law.nd rfl (by first | exact Or.inl rfl | exact Or.inr rfl)) pgs_nil))) (tg_tup [4, 8] 2 rfl) (mss_one (ms_if (mt_not (mt_val (me_callM (ok__law_is_folded T) hr (by omega) (takes_of rfl rfl rfl rfl) rfl (ma_arg (me_var 4 (pv 4)) (ma_arg (me_var 8 (pv 8)) ma_nil)) (ml_arg (ml_arg (fun ρ vs ρ' h => ml_nil h)))))) (mss_one (ms_ret (me_bl))) mss_nil)))
  (mss_one (ms_ret (me_bl))))))))))
end
end K09
set_option Elab.async false
set_option linter.all false
set_option maxRecDepth 100000
set_option maxHeartbeats 0
namespace K09
open PySem PySem.Spec PyProof.Rows L2 Mi PySem.MiX
def x_BadCalling : ExD := ⟨"BadCalling", "number", "a calling has a character that is no letter of the method", "BadCalling.__init__", ⟨6, 17, 6, 21⟩, ⟨6, 23, 6, 29⟩, fun n => ([⟨7, 8, 7, 13⟩, ⟨7, 8, 7, 15⟩, ⟨7, 8, 7, 24⟩, ⟨7, 25, 7, 84⟩, ⟨7, 8, 7, 85⟩, ⟨7, 8, 7, 85⟩, ⟨8, 8, 8, 12⟩, ⟨8, 8, 8, 19⟩, ⟨8, 22, 8, 28⟩, ⟨8, 8, 8, 28⟩] : List Pos).getD n ⟨0, 0, 0, 0⟩⟩
theorem x_BadCalling_txt : ExTxt x_BadCalling := ⟨fun _ _ _ _ _ _ _ _ => rfl, fun _ => ⟨_, rfl⟩⟩
def x_BadText : ExD := ⟨"BadText", "at", "a character cannot stand where it stands", "BadText.__init__", ⟨11, 17, 11, 21⟩, ⟨11, 23, 11, 25⟩, fun n => ([⟨12, 8, 12, 13⟩, ⟨12, 8, 12, 15⟩, ⟨12, 8, 12, 24⟩, ⟨12, 25, 12, 67⟩, ⟨12, 8, 12, 68⟩, ⟨12, 8, 12, 68⟩, ⟨13, 8, 13, 12⟩, ⟨13, 8, 13, 15⟩, ⟨13, 18, 13, 20⟩, ⟨13, 8, 13, 20⟩] : List Pos).getD n ⟨0, 0, 0, 0⟩⟩
theorem x_BadText_txt : ExTxt x_BadText := ⟨fun _ _ _ _ _ _ _ _ => rfl, fun _ => ⟨_, rfl⟩⟩
def x_TooLong : ExD := ⟨"TooLong", "number", "this is longer than is let", "TooLong.__init__", ⟨16, 17, 16, 21⟩, ⟨16, 23, 16, 29⟩, fun n => ([⟨17, 8, 17, 13⟩, ⟨17, 8, 17, 15⟩, ⟨17, 8, 17, 24⟩, ⟨17, 25, 17, 53⟩, ⟨17, 8, 17, 54⟩, ⟨17, 8, 17, 54⟩, ⟨18, 8, 18, 12⟩, ⟨18, 8, 18, 19⟩, ⟨18, 22, 18, 28⟩, ⟨18, 8, 18, 28⟩] : List Pos).getD n ⟨0, 0, 0, 0⟩⟩
theorem x_TooLong_txt : ExTxt x_TooLong := ⟨fun _ _ _ _ _ _ _ _ => rfl, fun _ => ⟨_, rfl⟩⟩
def xs : List ExD := [x_BadCalling, x_BadText, x_TooLong]
theorem xs_txt : ∀ d ∈ xs, ExTxt d := by
  intro d hd
  rcases List.mem_cons.mp hd with rfl | hd
  · exact x_BadCalling_txt
  rcases List.mem_cons.mp hd with rfl | hd
  · exact x_BadText_txt
  rcases List.mem_cons.mp hd with rfl | hd
  · exact x_TooLong_txt
  · cases hd
def dd__law_draw : He.DefD := ⟨("_law_draw", none), "_law_draw", "_law_draw", defArgs (top 26), defBody (top 26), defScope (top 26), [], []⟩
def dd_repeats : He.DefD := ⟨("repeats", none), "repeats", "repeats", defArgs (top 10), defBody (top 10), defScope (top 10), [], []⟩
def dd_call_pieces : He.DefD := ⟨("call_pieces", none), "call_pieces", "call_pieces", defArgs (top 23), defBody (top 23), defScope (top 23), [], []⟩
def dd_by_length : He.DefD := ⟨("by_length", none), "by_length", "by_length", defArgs (top 7), defBody (top 7), defScope (top 7), [], []⟩
def dd_best_row : He.DefD := ⟨("best_row", none), "best_row", "best_row", defArgs (top 9), defBody (top 9), defScope (top 9), [], []⟩
def dd_folded : He.DefD := ⟨("folded", none), "folded", "folded", defArgs (top 8), defBody (top 8), defScope (top 8), [], []⟩
def dd_is_letter : He.DefD := ⟨("is_letter", none), "is_letter", "is_letter", defArgs (top 13), defBody (top 13), defScope (top 13), [], []⟩
def dd_fold_calling : He.DefD := ⟨("fold_calling", none), "fold_calling", "fold_calling", defArgs (top 22), defBody (top 22), defScope (top 22), [], []⟩
def dd__law_told : He.DefD := ⟨("_law_told", none), "_law_told", "_law_told", defArgs (top 34), defBody (top 34), defScope (top 34), [], []⟩
def dd_CallReader___init__ : He.DefD := ⟨("CallReader", some "__init__"), "__init__", "TextReader.__init__", defArgs (inClass (top 17) 0), defBody (inClass (top 17) 0), defScope (inClass (top 17) 0), [], []⟩
def dd_CallReader_digits : He.DefD := ⟨("CallReader", some "digits"), "digits", "TextReader.digits", defArgs (inClass (top 17) 2), defBody (inClass (top 17) 2), defScope (inClass (top 17) 2), [], []⟩
def dd_CallReader_go_in : He.DefD := ⟨("CallReader", some "go_in"), "go_in", "TextReader.go_in", defArgs (inClass (top 17) 4), defBody (inClass (top 17) 4), defScope (inClass (top 17) 4), [], []⟩
def dd_CallReader_go_out : He.DefD := ⟨("CallReader", some "go_out"), "go_out", "TextReader.go_out", defArgs (inClass (top 17) 5), defBody (inClass (top 17) 5), defScope (inClass (top 17) 5), [], []⟩
def dd_CallReader_sign : He.DefD := ⟨("CallReader", some "sign"), "sign", "TextReader.sign", defArgs (inClass (top 17) 1), defBody (inClass (top 17) 1), defScope (inClass (top 17) 1), [], []⟩
def dd_number_told : He.DefD := ⟨("number_told", none), "number_told", "number_told", defArgs (top 14), defBody (top 14), defScope (top 14), [], []⟩
def dd_CallReader_take_number : He.DefD := ⟨("CallReader", some "take_number"), "take_number", "TextReader.take_number", defArgs (inClass (top 17) 3), defBody (inClass (top 17) 3), defScope (inClass (top 17) 3), [], []⟩
def dd_CallReader_one_item : He.DefD := ⟨("CallReader", some "one_item"), "one_item", "CallReader.one_item", defArgs (inClass (top 24) 1), defBody (inClass (top 24) 1), defScope (inClass (top 24) 1), [], []⟩
def dd_CallReader_all_items : He.DefD := ⟨("CallReader", some "all_items"), "all_items", "CallReader.all_items", defArgs (inClass (top 24) 0), defBody (inClass (top 24) 0), defScope (inClass (top 24) 0), [], []⟩
def dd_read_calling : He.DefD := ⟨("read_calling", none), "read_calling", "read_calling", defArgs (top 21), defBody (top 21), defScope (top 21), [], []⟩
def dd__law_is_folded : He.DefD := ⟨("_law_is_folded", none), "_law_is_folded", "_law_is_folded", defArgs (top 35), defBody (top 35), defScope (top 35), [], []⟩
def dd__law_mix : He.DefD := ⟨("_law_mix", none), "_law_mix", "_law_mix", defArgs (top 27), defBody (top 27), defScope (top 27), [], []⟩
def dd__law_pick : He.DefD := ⟨("_law_pick", none), "_law_pick", "_law_pick", defArgs (top 28), defBody (top 28), defScope (top 28), [], []⟩
def dd__law_letters_of : He.DefD := ⟨("_law_letters_of", none), "_law_letters_of", "_law_letters_of", defArgs (top 30), defBody (top 30), defScope (top 30), [], []⟩
def dd__law_is_int : He.DefD := ⟨("_law_is_int", none), "_law_is_int", "_law_is_int", defArgs (top 29), defBody (top 29), defScope (top 29), [], []⟩
def dd__law_is_refused : He.DefD := ⟨("_law_is_refused", none), "_law_is_refused", "_law_is_refused", defArgs (top 36), defBody (top 36), defScope (top 36), [], []⟩
def dd__law_refusals : He.DefD := ⟨("_law_refusals", none), "_law_refusals", "_law_refusals", defArgs (top 37), defBody (top 37), defScope (top 37), [], []⟩
def dd__law_first : He.DefD := ⟨("_law_first", none), "_law_first", "_law_first", defArgs (top 31), defBody (top 31), defScope (top 31), [], []⟩
def dd__law_texts : He.DefD := ⟨("_law_texts", none), "_law_texts", "_law_texts", defArgs (top 32), defBody (top 32), defScope (top 32), [], []⟩
def dd__law_table : He.DefD := ⟨("_law_table", none), "_law_table", "_law_table", defArgs (top 33), defBody (top 33), defScope (top 33), [], []⟩
def dd_law : He.DefD := ⟨("law", none), "law", "law", defArgs (top 38), defBody (top 38), defScope (top 38), [], []⟩
def fn : List He.DefD := ([dd__law_draw, dd_repeats, dd_call_pieces, dd_by_length, dd_best_row, dd_folded, dd_is_letter, dd_fold_calling, dd__law_told, dd_CallReader___init__, dd_CallReader_digits, dd_CallReader_go_in, dd_CallReader_go_out, dd_CallReader_sign, dd_number_told, dd_CallReader_take_number, dd_CallReader_one_item, dd_CallReader_all_items, dd_read_calling, dd__law_is_folded, dd__law_mix, dd__law_pick, dd__law_letters_of, dd__law_is_int, dd__law_is_refused, dd__law_refusals, dd__law_first, dd__law_texts, dd__law_table, dd_law] : List He.DefD)
def fa : List He.Fa := ([.glo "_law_draw", .glo "repeats", .glo "call_pieces", .glo "by_length", .glo "best_row", .glo "folded", .glo "is_letter", .glo "fold_calling", .glo "_law_told", .glo "number_told", .glo "read_calling", .glo "_law_is_folded", .glo "_law_mix", .glo "_law_pick", .glo "_law_letters_of", .glo "_law_is_int", .glo "_law_is_refused", .glo "_law_refusals", .glo "_law_first", .glo "_law_texts", .glo "_law_table", .glo "law", .glo "CallReader", .cls "CallReader", .mkr "CallReader", .noat "CallReader" "at", .noat "CallReader" "text", .noat "CallReader" "depth", .meth "CallReader" "digits", .meth "CallReader" "go_in"] : List He.Fa) ++ ([.meth "CallReader" "go_out", .meth "CallReader" "sign", .meth "CallReader" "take_number", .meth "CallReader" "one_item", .meth "CallReader" "all_items", .free "abs", .free "all", .free "bool", .free "enumerate", .free "int", .free "isinstance", .free "len", .free "min", .free "range", .free "str", .free "sum", .int "MOST_LETTERS" 400, .str "DIGITS" "0123456789", .int "MOST_BRACKETS" 6, .int "MOST_TIMES" 99, .int "MOST_FOLDED" 40] : List He.Fa)
def others : List PySem.Str := (["TouchError", "BadCalling", "BadText", "TooLong", "TextReader", "CallReader", "MOST_LETTERS", "DIGITS", "MOST_BRACKETS", "MOST_TIMES", "MOST_FOLDED", "by_length", "folded", "best_row", "repeats", "is_letter", "number_told", "read_calling", "fold_calling", "call_pieces", "_law_draw", "_law_mix", "_law_pick", "_law_is_int", "_law_letters_of", "_law_first", "_law_texts", "_law_table", "_law_told", "_law_is_folded"] : List PySem.Str) ++ (["_law_is_refused", "_law_refusals"] : List PySem.Str)
abbrev R : PySem.W.OpenRow := PySem.W.OpenLaw.row PySem.Challenge.rw_truetouch_k09_whole_shortest_calling
abbrev hk : PySem.W.Hook := hookM 5 fa fn PySem.Challenge.pw_truetouch_k09_whole_shortest_calling.main.file xs "TouchError" sub
def ob (s : PySem.W.SharedT) : AlM := obsM 5 fa fn PySem.Challenge.pw_truetouch_k09_whole_shortest_calling.main.file xs "TouchError" sub (HandSHeadRun.getT s)
theorem ob_eq (s : PySem.W.SharedT) : ob s = hk.obs s.abs := obsM_eq (HandSHeadRun.getT_eq s)
theorem run (w : World) : HandSHeadRun.RunEq R (PySem.W.view R.prog [38]) hk ob 20000 others w := by
  intro os
  kernel_rfl
end K09
set_option Elab.async false
set_option linter.all false
set_option maxRecDepth 100000
set_option maxHeartbeats 0
namespace K09
open PySem PySem.Spec PyProof.Rows L2 Mi PySem.MiX
theorem tx {K : PySem.W.Frag} {h : Heap} {mg : Str → Option Value} (X : K.In h) (G : h.Ns mainGlobals mg) (c : SaysM fa fn PySem.Challenge.pw_truetouch_k09_whole_shortest_calling.main.file xs "TouchError" sub K) : Tx PySem.Challenge.pw_truetouch_k09_whole_shortest_calling K mg (He.ga K) where
  k_CallReader := ⟨He.glo_ok X G (c.d.facts (f := .glo "CallReader") (by simp [fa])), He.cls_ok (c.d.facts (f := .cls "CallReader") (by simp [fa]))⟩
  fld := fldT_of X G c.d (by simp [flds, fa]) (by simp [flds, fa]) (by simp [flds, fa])
  d__law_draw := by
    obtain ⟨fd, F⟩ := c.d.defs (d := dd__law_draw) (by simp [fn])
    exact ⟨_, fd, F, He.glo_ok X G (c.d.facts (f := .glo "_law_draw") (by simp [fa]))⟩
  d_repeats := by
    obtain ⟨fd, F⟩ := c.d.defs (d := dd_repeats) (by simp [fn])
    exact ⟨_, fd, F, He.glo_ok X G (c.d.facts (f := .glo "repeats") (by simp [fa]))⟩
  d_call_pieces := by
    obtain ⟨fd, F⟩ := c.d.defs (d := dd_call_pieces) (by simp [fn])
    exact ⟨_, fd, F, He.glo_ok X G (c.d.facts (f := .glo "call_pieces") (by simp [fa]))⟩
  d_by_length := by
    obtain ⟨fd, F⟩ := c.d.defs (d := dd_by_length) (by simp [fn])
    exact ⟨_, fd, F, He.glo_ok X G (c.d.facts (f := .glo "by_length") (by simp [fa]))⟩
  d_best_row := by
    obtain ⟨fd, F⟩ := c.d.defs (d := dd_best_row) (by simp [fn])
    exact ⟨_, fd, F, He.glo_ok X G (c.d.facts (f := .glo "best_row") (by simp [fa]))⟩
  d_folded := by
    obtain ⟨fd, F⟩ := c.d.defs (d := dd_folded) (by simp [fn])
    exact ⟨_, fd, F, He.glo_ok X G (c.d.facts (f := .glo "folded") (by simp [fa]))⟩
  d_is_letter := by
    obtain ⟨fd, F⟩ := c.d.defs (d := dd_is_letter) (by simp [fn])
    exact ⟨_, fd, F, He.glo_ok X G (c.d.facts (f := .glo "is_letter") (by simp [fa]))⟩
  d_fold_calling := by
    obtain ⟨fd, F⟩ := c.d.defs (d := dd_fold_calling) (by simp [fn])
    exact ⟨_, fd, F, He.glo_ok X G (c.d.facts (f := .glo "fold_calling") (by simp [fa]))⟩
  d__law_told := by
    obtain ⟨fd, F⟩ := c.d.defs (d := dd__law_told) (by simp [fn])
    exact ⟨_, fd, F, He.glo_ok X G (c.d.facts (f := .glo "_law_told") (by simp [fa]))⟩
  d_CallReader___init__ := by
    obtain ⟨fd, F⟩ := c.d.defs (d := dd_CallReader___init__) (by simp [fn])
    exact ⟨_, fd, F, He.mkr_ok (c.d.facts (f := .mkr "CallReader") (by simp [fa]))⟩
  d_CallReader_digits := by
    obtain ⟨fd, F⟩ := c.d.defs (d := dd_CallReader_digits) (by simp [fn])
    exact ⟨_, fd, F, He.meth_ok (c.d.facts (f := .meth "CallReader" "digits") (by simp [fa]))⟩
  d_CallReader_go_in := by
    obtain ⟨fd, F⟩ := c.d.defs (d := dd_CallReader_go_in) (by simp [fn])
    exact ⟨_, fd, F, He.meth_ok (c.d.facts (f := .meth "CallReader" "go_in") (by simp [fa]))⟩
  d_CallReader_go_out := by
    obtain ⟨fd, F⟩ := c.d.defs (d := dd_CallReader_go_out) (by simp [fn])
    exact ⟨_, fd, F, He.meth_ok (c.d.facts (f := .meth "CallReader" "go_out") (by simp [fa]))⟩
  d_CallReader_sign := by
    obtain ⟨fd, F⟩ := c.d.defs (d := dd_CallReader_sign) (by simp [fn])
    exact ⟨_, fd, F, He.meth_ok (c.d.facts (f := .meth "CallReader" "sign") (by simp [fa]))⟩
  d_number_told := by
    obtain ⟨fd, F⟩ := c.d.defs (d := dd_number_told) (by simp [fn])
    exact ⟨_, fd, F, He.glo_ok X G (c.d.facts (f := .glo "number_told") (by simp [fa]))⟩
  d_CallReader_take_number := by
    obtain ⟨fd, F⟩ := c.d.defs (d := dd_CallReader_take_number) (by simp [fn])
    exact ⟨_, fd, F, He.meth_ok (c.d.facts (f := .meth "CallReader" "take_number") (by simp [fa]))⟩
  d_CallReader_one_item := by
    obtain ⟨fd, F⟩ := c.d.defs (d := dd_CallReader_one_item) (by simp [fn])
    exact ⟨_, fd, F, He.meth_ok (c.d.facts (f := .meth "CallReader" "one_item") (by simp [fa]))⟩
  d_CallReader_all_items := by
    obtain ⟨fd, F⟩ := c.d.defs (d := dd_CallReader_all_items) (by simp [fn])
    exact ⟨_, fd, F, He.meth_ok (c.d.facts (f := .meth "CallReader" "all_items") (by simp [fa]))⟩
  d_read_calling := by
    obtain ⟨fd, F⟩ := c.d.defs (d := dd_read_calling) (by simp [fn])
    exact ⟨_, fd, F, He.glo_ok X G (c.d.facts (f := .glo "read_calling") (by simp [fa]))⟩
  d__law_is_folded := by
    obtain ⟨fd, F⟩ := c.d.defs (d := dd__law_is_folded) (by simp [fn])
    exact ⟨_, fd, F, He.glo_ok X G (c.d.facts (f := .glo "_law_is_folded") (by simp [fa]))⟩
  d__law_mix := by
    obtain ⟨fd, F⟩ := c.d.defs (d := dd__law_mix) (by simp [fn])
    exact ⟨_, fd, F, He.glo_ok X G (c.d.facts (f := .glo "_law_mix") (by simp [fa]))⟩
  d__law_pick := by
    obtain ⟨fd, F⟩ := c.d.defs (d := dd__law_pick) (by simp [fn])
    exact ⟨_, fd, F, He.glo_ok X G (c.d.facts (f := .glo "_law_pick") (by simp [fa]))⟩
  d__law_letters_of := by
    obtain ⟨fd, F⟩ := c.d.defs (d := dd__law_letters_of) (by simp [fn])
    exact ⟨_, fd, F, He.glo_ok X G (c.d.facts (f := .glo "_law_letters_of") (by simp [fa]))⟩
  d__law_is_int := by
    obtain ⟨fd, F⟩ := c.d.defs (d := dd__law_is_int) (by simp [fn])
    exact ⟨_, fd, F, He.glo_ok X G (c.d.facts (f := .glo "_law_is_int") (by simp [fa]))⟩
  d__law_is_refused := by
    obtain ⟨fd, F⟩ := c.d.defs (d := dd__law_is_refused) (by simp [fn])
    exact ⟨_, fd, F, He.glo_ok X G (c.d.facts (f := .glo "_law_is_refused") (by simp [fa]))⟩
  d__law_refusals := by
    obtain ⟨fd, F⟩ := c.d.defs (d := dd__law_refusals) (by simp [fn])
    exact ⟨_, fd, F, He.glo_ok X G (c.d.facts (f := .glo "_law_refusals") (by simp [fa]))⟩
  d__law_first := by
    obtain ⟨fd, F⟩ := c.d.defs (d := dd__law_first) (by simp [fn])
    exact ⟨_, fd, F, He.glo_ok X G (c.d.facts (f := .glo "_law_first") (by simp [fa]))⟩
  d__law_texts := by
    obtain ⟨fd, F⟩ := c.d.defs (d := dd__law_texts) (by simp [fn])
    exact ⟨_, fd, F, He.glo_ok X G (c.d.facts (f := .glo "_law_texts") (by simp [fa]))⟩
  d__law_table := by
    obtain ⟨fd, F⟩ := c.d.defs (d := dd__law_table) (by simp [fn])
    exact ⟨_, fd, F, He.glo_ok X G (c.d.facts (f := .glo "_law_table") (by simp [fa]))⟩
  d_law := by
    obtain ⟨fd, F⟩ := c.d.defs (d := dd_law) (by simp [fn])
    exact ⟨_, fd, F, He.glo_ok X G (c.d.facts (f := .glo "law") (by simp [fa]))⟩
  b_abs := He.free_ok X G (c.d.facts (f := .free "abs") (by simp [fa]))
  b_all := He.free_ok X G (c.d.facts (f := .free "all") (by simp [fa]))
  b_bool := He.free_ok X G (c.d.facts (f := .free "bool") (by simp [fa]))
  b_enumerate := He.free_ok X G (c.d.facts (f := .free "enumerate") (by simp [fa]))
  b_int := He.free_ok X G (c.d.facts (f := .free "int") (by simp [fa]))
  b_isinstance := He.free_ok X G (c.d.facts (f := .free "isinstance") (by simp [fa]))
  b_len := He.free_ok X G (c.d.facts (f := .free "len") (by simp [fa]))
  b_min := He.free_ok X G (c.d.facts (f := .free "min") (by simp [fa]))
  b_range := He.free_ok X G (c.d.facts (f := .free "range") (by simp [fa]))
  b_str := He.free_ok X G (c.d.facts (f := .free "str") (by simp [fa]))
  b_sum := He.free_ok X G (c.d.facts (f := .free "sum") (by simp [fa]))
  c_MOST_LETTERS := by
    obtain ⟨t, e⟩ := He.int_ok X G (c.d.facts (f := .int "MOST_LETTERS" 400) (by simp [fa]))
    exact ⟨_, e, t, rfl⟩
  c_DIGITS := by
    obtain ⟨t, e⟩ := He.str_ok X G (c.d.facts (f := .str "DIGITS" "0123456789") (by simp [fa]))
    exact ⟨_, e, t, rfl⟩
  c_MOST_BRACKETS := by
    obtain ⟨t, e⟩ := He.int_ok X G (c.d.facts (f := .int "MOST_BRACKETS" 6) (by simp [fa]))
    exact ⟨_, e, t, rfl⟩
  c_MOST_TIMES := by
    obtain ⟨t, e⟩ := He.int_ok X G (c.d.facts (f := .int "MOST_TIMES" 99) (by simp [fa]))
    exact ⟨_, e, t, rfl⟩
  c_MOST_FOLDED := by
    obtain ⟨t, e⟩ := He.int_ok X G (c.d.facts (f := .int "MOST_FOLDED" 40) (by simp [fa]))
    exact ⟨_, e, t, rfl⟩
  cls := clsT_of X G (by decide +kernel) xs_txt c
end K09
set_option Elab.async false
set_option linter.all false
set_option maxRecDepth 100000
set_option maxHeartbeats 0
open PySem PySem.W PySem.Calls PyProof.Rows
theorem K09.holds_of (hlaw : ∀ ns : List Int, ns.length ≤ 63 → K09.m_law [.val (.frl (ns.map Mi.D.int))] = .ok (.v (.bl true)) []) : PySem.Challenge.rw_truetouch_k09_whole_shortest_calling.Holds := by
  w_on; o_law
  refine HandSHeadRun.head_any (r := OpenLaw.row PySem.Challenge.rw_truetouch_k09_whole_shortest_calling) (q := view (OpenLaw.row PySem.Challenge.rw_truetouch_k09_whole_shortest_calling).prog [38]) (H := K09.hk) (ob := K09.ob) (M := 20000) (loose := K09.others) (d := HandSHeadRun.topDef (OpenLaw.row PySem.Challenge.rw_truetouch_k09_whole_shortest_calling).prog 38) (kwd := []) K09.ob_eq
    (by kernel_rfl) (fun s => by kernel_rfl) K09.run (by kernel_rfl) (by kernel_rfl) (by kernel_rfl) (by rfl) (by first | assumption | decide +kernel) (by decide +kernel) ⟨rfl, rfl, rfl, rfl, rfl, by decide +kernel⟩ ?hw ?hc
  case hw => w_witness2
  case hc =>
    refine L2.walk_ofE (l := PySem.Challenge.rw_truetouch_k09_whole_shortest_calling) (n := 63) (k := 23) (x := "_law_script") (CX := Mi.CXU (PySem.Challenge.rw_truetouch_k09_whole_shortest_calling).prog) rfl (by decide) (by kernel_rfl) ⟨rfl, by decide, by decide⟩ ?F (fun H s e s' z => Mi.cxu_none H s e s' z)
    intro w mg fa h Y G hmg0
    obtain ⟨K, KX, c⟩ := Y
    have hmg : mg ("law" : PySem.Str) = some (.ref fa) := by
      have e : (HandSHeadRun.topDef (OpenLaw.row PySem.Challenge.rw_truetouch_k09_whole_shortest_calling).prog 38).name = ("law" : PySem.Str) := by kernel_rfl
      rw [← e]
      exact hmg0
    have T := K09.tx KX G c
    obtain ⟨f, fd, F0, hm0⟩ := T.d_law
    have ef : f = fa := by
      rw [hmg] at hm0
      cases hm0
      rfl
    subst ef
    have b := L2.FunD.bindsA (ps := ["_law_script"]) F0 fun _ _ _ _ _ _ us hl => match us, hl with | [_], _ => rfl
    exact ⟨K, fd, Mi.spM K mg 1 [] K09.m_law, KX, fun s v => b s [v] rfl, fun H a ns hl _ hS => Mi.law_sp hS (hlaw ns hl), fun base _ _ => Mi.fnok_wide (K09.fn_law T F0)⟩
theorem PySem.Challenge.cw_truetouch_k09_whole_shortest_calling_holds : PySem.Challenge.rw_truetouch_k09_whole_shortest_calling.Holds := by
  exact K09.holds_of K09.hlaw

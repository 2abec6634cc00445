import PyProof.Rows.All
import Wide.All
import OpenK.AllK
import Wide.FinOn
import HandS.ForMost
import HandS.AnyAll
import PyProof.TupleOfGen
import PyProof.WalksMore
import HandS.Zip
import KE.GoesEnum
import HandS.Deep
import PyProof.Rows.RegFStrParts
import HandS.SortInts
import HandS.TupSets
import HandS.EndBits
import KE.KNest
import KE.DatumIndex
import HandS.GenList
import HandS.Wide
import HandS.Codes
import HandS.Conv
import HandS.TupAny
import KE.GoesZip
import KE.GoesMore
import HandS.DictComp
import HandS.Iter
import KE.KDictPairs
import HandS.TupLen
import HandS.Dict
import HandS.IsInst
import HandS.Style
import HandS.Exc
import HandS.ExcIs
import HandS.ExcValue
import HandS.WordsExc
import HandS.ExcOwn
import HandS.Spec
import PyProof.ReprRoads
import PyProof.ReprBulk
import KE.KDictDisplayH
import HandS.TupMul
import KE.KIndexOf
import KE.KTupSum
import KE.KSortKeyAny
import KE.KDictCopyH
import KE.SortData
import HandS.SortKw
import HandS.MapJoin
import HandS.DictTup
import PyProof.DictMoreH
import KE.KDictOf
import HandS.More
import HandS.DictEq
import HandS.ListEq
import PySem.Challenge.RW_redraw_k51_floors_looked_at
import HandS.List
set_option Elab.async false
set_option linter.all false
set_option maxRecDepth 100000
set_option maxHeartbeats 4000000
/-! generator expressions over a list or a tuple whose element keeps the heap: tuple(..), all(..), any(..) -/
namespace Gv
open PySem PySem.Spec PyProof.Rows L2
/-- a list or a tuple of these -/
def Sq (K : PySem.W.Frag) (H : Hp) (a : Addr) (xs : List V) : Prop := SqL K H a xs ∨ SqT K H a xs
section
variable {X : Cx} {pins : List (Addr × Obj)} {σ : L2.St} {H : Hp} {s : Shared}
/-- iter(a): its items, and a walk over them that writes its own new cell alone -/
theorem iter_sq {a : Addr} {xs : List V} (I : Inv X pins σ H s) (h : Sq X.K H a xs) :
    ∃ its : List Value, Vals xs its ∧ xs.length ≤ sizeLine ∧ a < s.heap.objs.size ∧ ∀ (Q : Value → Shared → Prop) (E : Value → Shared → Prop),
      (∀ (o : Obj) (St : Nat → Heap → Prop), (∀ A' : Around, A'.handled = none → Walks X.prog X.w A' s.heap.objs.size [s.heap.objs.size, a] [s.heap.objs.size] its.length (fun i v => its[i]? = some v) St) → St 0 (s.heap.push o) →
        Q (.ref s.heap.objs.size) { s with heap := s.heap.push o }) → wpAny (model X.prog X.w) X.A (pyIter (.ref a)) Q E s := by
  rcases h with h | h
  · obtain ⟨its, rv, pl, hz⟩ := I.list h
    have hL := pl.isList
    have hlt : a < s.heap.objs.size := let ⟨_, e, _⟩ := hL; Heap.lt_size e
    refine ⟨its, rv, hz, hlt, fun Q E k => wpAny_pyIter_list hL (k _ (fun i h => h.IsListIter s.heap.objs.size a i ∧ h.IsList a its.toArray) (fun A' hA => ?_) ⟨⟨_, Heap.get?_push_size _ rfl, rfl, rfl⟩, ?_⟩)⟩
    · have W := Walks.list (prog := X.prog) (w := X.w) hA s.heap.objs.size a (Nat.ne_of_lt hlt) its.toArray
      simpa using W
    · obtain ⟨o, e, r⟩ := hL
      exact ⟨o, Heap.get?_push_of_some _ e, r⟩
  · obtain ⟨its, rv, pl, hz⟩ := I.tuple h
    have hlt : a < s.heap.objs.size := pl.lt
    refine ⟨its, rv, hz, hlt, fun Q E k => wpAny_pyIter_tuple (show s.heap.IsTuple a its.toArray from pl) (k _ (fun i h => h.IsTupleIter s.heap.objs.size a i ∧ h.IsTuple a its.toArray) (fun A' hA => ?_) ⟨⟨_, Heap.get?_push_size _ rfl, rfl, rfl⟩, ?_⟩)⟩
    · have W := Walks.tuple (prog := X.prog) (w := X.w) hA s.heap.objs.size a (Nat.ne_of_lt hlt) its.toArray
      simpa using W
    · exact pl.push _
/-- the element, of the item x0 the value y0, with all that stood kept -/
def EltV (X : Cx) (pins : List (Addr × Obj)) (σ : L2.St) (scope : Scope) (x : Str) (elt : Expr) (P : Addr) (H1 : Hp) (xs ys : List V) : Prop :=
  ∀ (s1 t : Shared) (C : Addr) (code : Value) (bi : Addr) (A' : Around) (E' : Value → Shared → Prop) (i : Nat) (x0 : V) (u : Value) (m : Str → Option Value),
    Inv X pins σ H1 s1 → A'.handled = none → A'.units ≤ X.A.units + 8 → xs[i]? = some x0 → RelV x0 u → t.heap.Ns C m → m x = some u → (∀ b o, b ≠ P → s1.heap.get? b = some o → t.heap.get? b = some o) →
    wpAny (model X.prog X.w) A' (eval elt (genEnv scope (cloFrom X.env.cells scope.names []) C code bi X.env)) (fun y t' => (∃ y0, ys[i]? = some y0 ∧ RelV y0 y) ∧ Keeps t t') E' t
/-- the generator at g, about to give out the values ys -/
def Ready (X : Cx) (pins : List (Addr × Obj)) (σ : L2.St) (H1 : Hp) (P : Addr) (ys : List V) (g : Addr) (s5 : Shared) : Prop :=
  ∃ (fp wr : List Addr) (G : Array GenState → Array GenState → Prop) (F : Nat → Value → Prop) (St : Nat → Shared → Prop),
    WalksS X.prog X.w X.A.in4 g fp wr G ys.length F St ∧ St 0 s5 ∧ (∀ b ∈ fp, b < s5.heap.objs.size) ∧ g ∈ fp ∧ (∀ i s9, St i s9 → s9.TypeIs (.ref g) "generator") ∧
    (∀ j v, F j v → ∃ y, ys[j]? = some y ∧ RelV y v) ∧ ∀ s', Moved wr G s5 s' → ∃ H2, GxR.Tabbed P H1 H2 ∧ Inv X pins σ H2 s'
theorem gen_sq {c P : Addr} {elt iter : Expr} {x : Str} {px gpos : Pos} {scope : Scope} {te : TE} {k : Nat} {Q' : Value → Shared → Prop} {R : List V → Hp → Prop}
    (hr : Room k X.A) (TB : GxR.TabB X.base X.mg c P) (hcode : X.env.code = .ref c) (S : GxR.GenS X.env scope x) (hi : PE X iter te) (hs : ∀ v, genFold iter X.env v = pure v) (I : Inv X pins σ H s)
    (h : te σ H fun v H1 => ∃ (a : Addr) (xs ys : List V), v = .ref a ∧ Sq X.K H1 a xs ∧ ys.length = xs.length ∧ (∀ pins, EltV X pins σ scope x elt P H1 xs ys) ∧ GxR.TabG H1 P ∧ R ys H1)
    (hQ : ∀ ys H1 g s5, ys.length ≤ sizeLine → R ys H1 → Ready X pins σ H1 P ys g s5 → Q' (.ref g) s5) :
    wpAny (model X.prog X.w) X.A (eval (.GeneratorExp elt [⟨.Name x px, iter, [], 0⟩] scope gpos) X.env) Q' X.xe s := by
  refine wpAny_GeneratorExp_walksQD hr.hd S.co (closure_ok S.free) S.cell S.dot S.loc S.kind (by have := hr.dp; omega) (thn (hi.run pins s σ H _ I h) fun xv s1 ⟨v, H1, I1, r1, q1⟩ => ?_) hs
  obtain ⟨a, xs, ys, rfl, hsq, hyl, hel, ⟨ps, hP, ht⟩, q1⟩ := q1
  cases (show xv = Value.ref a from r1)
  obtain ⟨its, rv, hz, hlt, go⟩ := iter_sq I1 hsq
  refine go _ _ fun o St W st0 => ⟨I1.nolimit.push o, ?_⟩
  have tabS : s1.heap.get? P = some { cls := .none, data := .fields ps } := I1.hok P _ hP
  have ltP : P < s1.heap.objs.size := Heap.lt_size tabS
  have tab2 : (s1.heap.push o).get? P = some { cls := .none, data := .fields ps } := Heap.get?_push_of_some _ tabS
  have hd : PySem.W.CodeHd (s1.heap.push o) c P := TB.code.keeps fun b u e => Heap.get?_push_of_some _ (I1.bk b u e)
  have neI : s1.heap.objs.size ≠ P := fun z => Nat.lt_irrefl _ (z ▸ ltP)
  -- the code object of the expression, its table perhaps longer behind it
  have key : ∀ (REST : Value → Shared → Prop), (∀ (cv : Value) (h3 : Heap) (tk : Nat) (more : Array Value), Heap.ExtBut P (s1.heap.push o) h3 → (s1.heap.push o).objs.size ≤ h3.objs.size → h3.get? P = some { cls := .none, data := .fields (ps ++ more) } → TriplesOk (ps ++ more).toList → REST cv { s1 with heap := h3, toks := tk }) →
      wpAny (model X.prog X.w) X.A (genexprCode X.env gpos (X.env.qual ++ "<genexpr>") scope) REST X.xe { s1 with heap := s1.heap.push o } := fun REST fin => by
    cases hf : codeAmong gpos ps.toList with
    | some cv =>
      have e : ps = ps ++ #[] := by simp
      exact wpAny_genexprCode_hit hcode (hd.code tab2 ht) hf (fin cv _ s1.toks #[] (Heap.ExtBut.refl _ _) (Nat.le_refl _) (e ▸ tab2) (e ▸ ht))
    | none =>
      refine wpAny_genexprCodeX hcode (hd.code tab2 ht) (hd.tab tab2) hf fun c' h3 tk ex ge lt ic _ ta _ => ?_
      obtain ⟨_, _, _, _, _, _, _, _, _, _, _, _, _, _, _, _, _, _, _, tr, _⟩ := ic
      exact fin _ h3 tk _ ex (Nat.le_trans ge (Nat.le_of_lt lt)) ta.2 tr
  refine key _ fun cv h3 tk more ex ge tab3 tr3 => ?_
  obtain ⟨bm, ob, b1, b2, b3, b4, b5, b6, b7, b8⟩ := TB.bm
  have up : ∀ b u, b ≠ P → s1.heap.get? b = some u → h3.get? b = some u := fun b u n e => ex b u n (Heap.get?_push_of_some _ e)
  have sz : s1.heap.objs.size + 1 ≤ h3.objs.size := by rw [← Heap.size_push s1.heap o]; exact ge
  have nlS : cStatics ≠ P ∧ cStatics < s1.heap.objs.size := by
    obtain ⟨_, ns, _⟩ := I1.nolimit
    refine ⟨fun z => ?_, ns.lt⟩
    obtain ⟨o', es, ep, ho, hdd, _⟩ := ns
    rw [z, tabS] at ho
    cases ho
    cases hdd
  refine wpAny_builtinsFor (m := X.mg) (by rw [I1.ok.glob]; exact ((I1.mod.glob.keeps I1.bk).push o).extBut ex TB.gP) b1 b2 (up _ _ b4 (I1.bk _ _ b5)) b6 b7 b8 ?_
  refine ⟨s1.heap.objs.size, [s1.heap.objs.size, a], [s1.heap.objs.size], its.length, (fun i v => its[i]? = some v), St, (fun _ => true), (fun i y => ∃ y0, ys[i]? = some y0 ∧ RelV y0 y), rfl, W, ?_, ?_, (I1.nolimit.push o).extBut ex nlS.1, ?_, ?_, ?_⟩
  · refine (W X.A hr.hd).frame _ _ _ st0 fun b hb u e => ex b u (fun z => ?_) e
    rcases List.mem_cons.mp hb with q | q
    · exact neI (q.symm.trans z)
    · have q2 : b = a := by simpa using q
      exact absurd (q2.symm.trans z) (by
        intro az
        rcases hsq with hh | hh
        · obtain ⟨its', _, pl, _⟩ := I1.list hh
          obtain ⟨oo, _, e1, _, _, d1⟩ := pl
          rw [az, tabS] at e1
          cases e1
          cases d1
        · obtain ⟨its', _, pl, _⟩ := I1.tuple hh
          obtain ⟨oo, e1, _, _, d1⟩ := pl
          rw [az, tabS] at e1
          cases e1
          cases d1)
  · intro b hb
    show b < h3.objs.size
    rcases List.mem_cons.mp hb with q | q
    · rw [q]; exact Nat.lt_of_succ_le sz
    · have q2 : b = a := by simpa using q
      rw [q2]; exact Nat.lt_of_lt_of_le hlt (Nat.le_of_succ_le sz)
  · intro z
    have z2 : cStatics = s1.heap.objs.size := by simpa using z
    exact Nat.ne_of_lt nlS.2 z2
  · intro href hk
    refine ⟨fun A' E' i v t m hA _ _ hv hn hm hkp => ?_, fun A' E' i v t m hA _ hU hv _ hn hm hkp => ?_⟩
    · simp only [List.forIn_nil]
      exact wpAny_pure ⟨rfl, GxR.keeps_refl _⟩
    · have li : i < xs.length := by rw [rv.length]; exact (List.getElem?_eq_some_iff.mp hv).1
      obtain ⟨u, hu, ru⟩ := rv.get (List.getElem?_eq_getElem li)
      rw [hv] at hu
      cases hu
      refine wpAny_mono (hel pins s1 t _ cv _ A' E' i _ v m I1 hA hU (List.getElem?_eq_getElem li) ru hn hm fun b u n e => ?_) (fun y t' r => r) fun _ _ e => e
      have e3 := up b u n e
      refine hkp b (List.mem_range.mpr (Heap.lt_size e3)) (fun z => ?_) u (hk b u e3)
      have z2 : b = s1.heap.objs.size := by simpa using z
      exact Nat.lt_irrefl _ (z2 ▸ Heap.lt_size e)
  · intro g h5 tk5 gs hgb hag hsz5 hk5 W5 hat
    have el : its.length = ys.length := by rw [hyl, ← rv.length]
    simp only [GxR.passing_true, List.length_range, el] at W5 hat
    refine hQ ys H1 g _ (by rw [hyl]; exact hz) q1 ⟨_, _, _, _, _, W5, hat, ?_, List.mem_cons_self, fun i s9 st => st.1.typeIs, ?_, fun s' mv => ?_⟩
    · intro b hb
      show b < h5.objs.size
      rw [hsz5]
      rcases List.mem_cons.mp hb with q | q
      · rw [q]; exact Nat.lt_succ_self _
      · rcases List.mem_cons.mp q with q | q
        · rw [q]; exact Nat.lt_succ_of_lt hag
        · exact Nat.lt_succ_of_lt (Nat.lt_trans (List.mem_range.mp q) hag)
    · intro j v hv
      obtain ⟨i, hij, y0, hy, r⟩ := hv
      obtain ⟨hj, ej⟩ := List.getElem?_eq_some_iff.mp hij
      rw [List.getElem_range] at ej
      subst ej
      exact ⟨y0, hy, r⟩
    · have out : ∀ b u, s1.heap.get? b = some u → b ∉ h3.objs.size :: [s1.heap.objs.size] := fun b u e hb => by
        have l := Heap.lt_size e
        rcases List.mem_cons.mp hb with q | q
        · rw [q] at l
          exact absurd l (Nat.not_lt.mpr (Nat.le_of_succ_le sz))
        · have q2 : b = s1.heap.objs.size := by simpa using q
          exact Nat.lt_irrefl _ (q2 ▸ l)
      have J := GxR.inv_tab (more := more) (h' := s'.heap) (g' := s'.gens) (d' := s'.drawn) (t' := s'.toks) I1 hP (fun b u n e => mv.heap b u (out b u e) (hk5 b u (up b u n e))) (mv.heap P _ (out P _ tabS) (hk5 P _ tab3)) (AllBare.movedS (I1.bare.push hgb) mv)
      rw [GxR.sh_eta s1 s' mv.os] at J
      exact ⟨_, ⟨⟨ps ++ more, upd_same, tr3⟩, fun b hb => upd_ne hb⟩, J⟩
/-- tuple(elt for x in e) -/
def tTupG (X : Cx) (scope : Scope) (x : Str) (elt : Expr) (P : Addr) (te : TE) : TE := fun σ H Q => te σ H fun v H1 => ∃ (a : Addr) (xs ys : List V), v = .ref a ∧ Sq X.K H1 a xs ∧ ys.length = xs.length ∧ (∀ pins, EltV X pins σ scope x elt P H1 xs ys) ∧ GxR.TabG H1 P ∧
  ∀ H2, GxR.Tabbed P H1 H2 → ∀ p, H2 p = none → Q (.ref p) (upd H2 p (.tup ys))
theorem items_vals {ys : List V} {F : Nat → Value → Prop} {acc : Array Value} {n : Nat} (hn : ys.length = n) (hF : ∀ j v, F j v → ∃ y, ys[j]? = some y ∧ RelV y v) (h : ItemsOf F acc n) : Vals ys acc.toList := by
  have gen : ∀ (l : List Value) (zs : List V), zs.length = l.length → (∀ (j : Nat) (v : Value), l[j]? = some v → ∃ y, zs[j]? = some y ∧ RelV y v) → Vals zs l := by
    intro l
    induction l with
    | nil => intro zs e _; cases zs with
      | nil => exact .nil
      | cons z r => cases e
    | cons v r ih => intro zs e k; cases zs with
      | nil => cases e
      | cons z q =>
        obtain ⟨y, hy, ry⟩ := k 0 v rfl
        cases hy
        exact .cons ry (ih q (by simpa using e) fun j v hv => k (j + 1) v hv)
  refine gen acc.toList ys (by rw [hn, ← h.1]; simp) fun j v hv => hF j v (h.2 j v (by simpa using hv))
theorem pe_tupG {c P : Addr} {elt iter : Expr} {x : Str} {px p pos gpos : Pos} {scope : Scope} {te : TE} {k : Nat}
    (hr : Room k X.A) (hg : Gl X "tuple") (hm : X.mg "tuple" = none) (TB : GxR.TabB X.base X.mg c P) (hcode : X.env.code = .ref c) (S : GxR.GenS X.env scope x) (hi : PE X iter te) (hs : ∀ v, genFold iter X.env v = pure v)
    (he : starEach [.GeneratorExp elt [⟨.Name x px, iter, [], 0⟩] scope gpos] X.env = (false, eval (.GeneratorExp elt [⟨.Name x px, iter, [], 0⟩] scope gpos) X.env) :: starEach [] X.env := by rfl) :
    PE X (.Call (.Name "tuple" p) [.GeneratorExp elt [⟨.Name x px, iter, [], 0⟩] scope gpos] [] pos) (tTupG X scope x elt P te) := by
  refine ⟨fun pins s σ H Q I h => ?_⟩
  refine wpAny_Call_Name_kw (ld_blt I hg hm boot_tuple (PyProof.Rows.callWith_type1 ?_ he (by rfl)))
  rw [he]
  show wpAny _ _ (spliced ((false, _) :: backTo pos (starEach [] X.env))) _ _ s
  unfold tTupG at h
  refine Calls.spliced_cons (gen_sq (te := te) (R := fun ys H1 => ∀ H2, GxR.Tabbed P H1 H2 → ∀ p, H2 p = none → Q (.ref p) (upd H2 p (.tup ys))) hr TB hcode S hi hs I (H := H) h fun ys H1 g s5 hz hR hG => ?_)
  · obtain ⟨fp, wr, G, F, St, W, st, hfp, hgf, hty, hF, hI⟩ := hG
    refine Calls.spliced_nil (call_tuple_gen W.in4_3 hty st hfp hgf (fun s' acc mv ia => ?_) hz)
    obtain ⟨H2, hT, J⟩ := hI s' mv
    have rv := items_vals rfl hF ia
    refine ⟨.ref s'.heap.objs.size, _, J.laid (t' := s'.toks) (o := .tup ys) (fun b u e => Heap.get?_push_of_some _ e) (Nat.le_refl _) ⟨hz, acc.toList, rv, ?_⟩, rfl, hR H2 hT _ (J.hok.fresh (Nat.le_refl _))⟩
    have z := IsTup.new s'.heap acc
    simpa using z
/-- all(elt for x in e), any(elt for x in e), the element True or False -/
def tAllG (X : Cx) (scope : Scope) (x : Str) (elt : Expr) (P : Addr) (te : TE) : TE := fun σ H Q => te σ H fun v H1 => ∃ (a : Addr) (xs ys : List V), v = .ref a ∧ Sq X.K H1 a xs ∧ ys.length = xs.length ∧ (∀ pins, EltV X pins σ scope x elt P H1 xs ys) ∧ GxR.TabG H1 P ∧
  ∃ bs : List Bool, ys = bs.map V.bl ∧ ∀ H2, GxR.Tabbed P H1 H2 → Q (.bl (bs.all id)) H2
def tAnyG (X : Cx) (scope : Scope) (x : Str) (elt : Expr) (P : Addr) (te : TE) : TE := fun σ H Q => te σ H fun v H1 => ∃ (a : Addr) (xs ys : List V), v = .ref a ∧ Sq X.K H1 a xs ∧ ys.length = xs.length ∧ (∀ pins, EltV X pins σ scope x elt P H1 xs ys) ∧ GxR.TabG H1 P ∧
  ∃ bs : List Bool, ys = bs.map V.bl ∧ ∀ H2, GxR.Tabbed P H1 H2 → Q (.bl (bs.any id)) H2
theorem truth_bls {A : Around} {bs : List Bool} {F : Nat → Value → Prop} (hF : ∀ j v, F j v → ∃ y, (bs.map V.bl)[j]? = some y ∧ RelV y v) : TruthOf X.prog X.w A F (fun j => bs.getD j false) := by
  intro j v t Q E hv hq
  obtain ⟨y, hy, r⟩ := hF j v hv
  rw [List.getElem?_map] at hy
  cases e : bs[j]? with
  | none => rw [e] at hy; cases hy
  | some b =>
    rw [e] at hy
    cases hy
    cases (show v = Value.bool b from r)
    have e2 : bs.getD j false = b := by rw [List.getD_eq_getElem?_getD, e]; rfl
    exact wpAny_truthy_bool (by rw [← e2]; exact hq)
theorem all_range (bs : List Bool) : (List.range bs.length).all (fun j => bs.getD j false) = bs.all id := by
  rw [Bool.eq_iff_iff, List.all_eq_true, List.all_eq_true]
  constructor
  · intro h b hb
    obtain ⟨j, hj, e⟩ := List.getElem_of_mem hb
    have q := h j (List.mem_range.mpr hj)
    rw [List.getD_eq_getElem?_getD, List.getElem?_eq_getElem hj, e] at q
    exact q
  · intro h j hj
    have hj' := List.mem_range.mp hj
    rw [List.getD_eq_getElem?_getD, List.getElem?_eq_getElem hj']
    exact h _ (List.getElem_mem hj')
theorem any_range (bs : List Bool) : (List.range bs.length).any (fun j => bs.getD j false) = bs.any id := by
  rw [Bool.eq_iff_iff, List.any_eq_true, List.any_eq_true]
  constructor
  · intro ⟨j, hj, q⟩
    have hj' := List.mem_range.mp hj
    rw [List.getD_eq_getElem?_getD, List.getElem?_eq_getElem hj'] at q
    exact ⟨_, List.getElem_mem hj', q⟩
  · intro ⟨b, hb, q⟩
    obtain ⟨j, hj, e⟩ := List.getElem_of_mem hb
    refine ⟨j, List.mem_range.mpr hj, ?_⟩
    rw [List.getD_eq_getElem?_getD, List.getElem?_eq_getElem hj, e]
    exact q
theorem pe_allG {c P : Addr} {elt iter : Expr} {x : Str} {px p pos gpos : Pos} {scope : Scope} {te : TE} {k : Nat}
    (hr : Room k X.A) (hg : Gl X "all") (hm : X.mg "all" = none) (TB : GxR.TabB X.base X.mg c P) (hcode : X.env.code = .ref c) (S : GxR.GenS X.env scope x) (hi : PE X iter te) (hs : ∀ v, genFold iter X.env v = pure v)
    (he : starEach [.GeneratorExp elt [⟨.Name x px, iter, [], 0⟩] scope gpos] X.env = (false, eval (.GeneratorExp elt [⟨.Name x px, iter, [], 0⟩] scope gpos) X.env) :: starEach [] X.env := by rfl) :
    PE X (.Call (.Name "all" p) [.GeneratorExp elt [⟨.Name x px, iter, [], 0⟩] scope gpos] [] pos) (tAllG X scope x elt P te) := by
  refine ⟨fun pins s σ H Q I h => ?_⟩
  refine wpAny_Call_Name_kw (ld_blt I hg hm boot_all (PyProof.Rows.callWith_builtin1 ?_ he (by rfl)))
  rw [he]
  show wpAny _ _ (spliced ((false, _) :: backTo pos (starEach [] X.env))) _ _ s
  unfold tAllG at h
  refine Calls.spliced_cons (gen_sq (te := te) (R := fun ys H1 => ∃ bs : List Bool, ys = bs.map V.bl ∧ ∀ H2, GxR.Tabbed P H1 H2 → Q (.bl (bs.all id)) H2) hr TB hcode S hi hs I (H := H) h fun ys H1 g s5 hz hR hG => ?_)
  obtain ⟨bs, rfl, hR⟩ := hR
  obtain ⟨fp, wr, G, F, St, W, st, hfp, hgf, hty, hF, hI⟩ := hG
  refine Calls.spliced_nil (call_all_walkS (W.in4_1.self 0 _ _ _ st ⟨g, fp, wr, G, _, F, St, _, rfl, W.in4_1, st, truth_bls hF, fun s' mv => ?_⟩))
  obtain ⟨H2, hT, J⟩ := hI s' mv
  refine ⟨.bl _, H2, J, rfl, ?_⟩
  rw [List.length_map, all_range]
  exact hR H2 hT
theorem pe_anyG {c P : Addr} {elt iter : Expr} {x : Str} {px p pos gpos : Pos} {scope : Scope} {te : TE} {k : Nat}
    (hr : Room k X.A) (hg : Gl X "any") (hm : X.mg "any" = none) (TB : GxR.TabB X.base X.mg c P) (hcode : X.env.code = .ref c) (S : GxR.GenS X.env scope x) (hi : PE X iter te) (hs : ∀ v, genFold iter X.env v = pure v)
    (he : starEach [.GeneratorExp elt [⟨.Name x px, iter, [], 0⟩] scope gpos] X.env = (false, eval (.GeneratorExp elt [⟨.Name x px, iter, [], 0⟩] scope gpos) X.env) :: starEach [] X.env := by rfl) :
    PE X (.Call (.Name "any" p) [.GeneratorExp elt [⟨.Name x px, iter, [], 0⟩] scope gpos] [] pos) (tAnyG X scope x elt P te) := by
  refine ⟨fun pins s σ H Q I h => ?_⟩
  refine wpAny_Call_Name_kw (ld_blt I hg hm boot_any (PyProof.Rows.callWith_builtin1 ?_ he (by rfl)))
  rw [he]
  show wpAny _ _ (spliced ((false, _) :: backTo pos (starEach [] X.env))) _ _ s
  unfold tAnyG at h
  refine Calls.spliced_cons (gen_sq (te := te) (R := fun ys H1 => ∃ bs : List Bool, ys = bs.map V.bl ∧ ∀ H2, GxR.Tabbed P H1 H2 → Q (.bl (bs.any id)) H2) hr TB hcode S hi hs I (H := H) h fun ys H1 g s5 hz hR hG => ?_)
  obtain ⟨bs, rfl, hR⟩ := hR
  obtain ⟨fp, wr, G, F, St, W, st, hfp, hgf, hty, hF, hI⟩ := hG
  refine Calls.spliced_nil (call_any_walkS (W.in4_1.self 0 _ _ _ st ⟨g, fp, wr, G, _, F, St, _, rfl, W.in4_1, st, truth_bls hF, fun s' mv => ?_⟩))
  obtain ⟨H2, hT, J⟩ := hI s' mv
  refine ⟨.bl _, H2, J, rfl, ?_⟩
  rw [List.length_map, any_range]
  exact hR H2 hT
/-- an element f[x]: f a captured name of a tuple, x the walk's own -/
theorem elt_item {f x : Str} {scope : Scope} {P fa : Addr} {H1 : Hp} {xs ys zs : List V} {j : Nat} {p1 p2 p3 : Pos} (hk : scope.kind = .function) (hx : scope.names.lookup x = some .local) (hf : scope.names.lookup f = some .free)
    (hcl : (cloFrom X.env.cells scope.names []).lookup f = some ((X.env.cells.lookup f).getD 0)) (hj : X.N[j]? = some f) (hkf : X.env.kindOf f = some .cell) (hσ : σ[j]? = some (some (.ref fa))) (hq : SqT X.K H1 fa zs) (hT : GxR.TabG H1 P)
    (hv : ∀ (i : Nat) x0, xs[i]? = some x0 → ∃ (n : Int) (y : V), x0 = .int n ∧ atI zs n = some y ∧ ys[i]? = some y) (hdf : (f == ("__debug__" : Str)) = false := by decide) (hdx : (x == ("__debug__" : Str)) = false := by decide) (hcf : (f == ("__classdict__" : Str)) = false := by decide) :
    EltV X pins σ scope x (.Subscript (.Name f p1) (.Name x p2) p3) P H1 xs ys := by
  intro s1 t C code bi A' E' i x0 u m I hA hU hx0 ru hn hm hkp
  obtain ⟨n, y, rfl, hat, hy⟩ := hv i x0 hx0
  obtain ⟨tk, rfl⟩ := (show ∃ t, u = Value.int n t from ru)
  obtain ⟨ps, hP, _⟩ := hT
  have tabS : s1.heap.get? P = some { cls := .none, data := .fields ps } := I.hok P _ hP
  obtain ⟨m1, _, hl⟩ := I.loc
  obtain ⟨uf, rf, lk⟩ := hl j f _ hj hσ (.inr (.inl hkf))
  cases (show uf = Value.ref fa from rf)
  obtain ⟨c, hc, ic⟩ : ∃ c, X.env.cells.lookup f = some c ∧ s1.heap.IsCell c (some (.ref fa)) := by
    rcases lk with ⟨z, _⟩ | ⟨_, c, hc, ic⟩
    · rw [hkf] at z; cases z
    · exact ⟨c, hc, ic⟩
  have ic2 : t.heap.IsCell c (some (.ref fa)) := by
    obtain ⟨o, ho, hd⟩ := ic
    refine ⟨o, hkp c o (fun z => ?_) ho, hd⟩
    rw [z, tabS] at ho
    cases ho
    cases hd
  obtain ⟨its, rv, pl, hz⟩ := I.tuple hq
  have pl2 : IsTup t.heap fa its.toArray := by
    obtain ⟨o, ho, hcl', nn, hd⟩ := pl
    refine ⟨o, hkp fa o (fun z => ?_) ho, hcl', nn, hd⟩
    rw [z, tabS] at ho
    cases ho
    cases hd
  obtain ⟨jj, h1, h2, h3, h4, h5⟩ := atI_get hat
  obtain ⟨wv, ew, rw'⟩ := rv.get h2
  have hlen := rv.length
  have hn63 := line63
  have clf : (genEnv scope (cloFrom X.env.cells scope.names []) C code bi X.env).cells.lookup f = some c := by
    show (cloFrom X.env.cells scope.names []).lookup f = some c
    rw [hcl, hc]
    rfl
  refine Subscript_ (wpAny_Name (wpAny_loadName_free hk hf clf ic2 (wpAny_Name (wpAny_loadName_local hk hx hn hm ?_) hdx) hcf) hdf)
  exact subscriptTail_builtinR (x := wv) pl2.typeIs slot_tuple_getitem.lookup
    (getItem_tuple (j := jj) (Q := fun r s' => r = wv ∧ ((∃ y0, ys[i]? = some y0 ∧ RelV y0 r) ∧ Keeps t s')) pl2 (by omega) (by omega) (by rw [List.size_toArray, ← hlen]; exact h1) (by simpa using ew) ⟨rfl, ⟨y, hy, rw'⟩, GxR.keeps_refl _⟩) (by rfl)
end
end Gv

set_option Elab.async false
set_option linter.all false
set_option maxRecDepth 100000
set_option maxHeartbeats 4000000
/-! enumerate(t), t a tuple -/
namespace Et
open PySem PySem.Spec PyProof.Rows L2
theorem meets_one {v : Value} {o : Obj} {B : Heap → Prop} (hB : Begins v o B) :
    Meets (Builtin.«enumerate.__new__» ⟨[.type "enumerate", v], []⟩) (fun _ R s => B s.heap ∧
      R (.ok (.ret (.ref (s.heap.push o).objs.size))) { s with heap := (s.heap.push o).push { cls := .type "enumerate", data := .fields #[.none, .bool false, .ref s.heap.objs.size, rawInt 0, .none, .none] } }) :=
  .of_wp fun prog w A R s h => by
    obtain ⟨hp, g, d, tk, os⟩ := s
    obtain ⟨hb, h⟩ := h
    have hsub := sub_enumerate
    have begin1 : ∀ {A1 : Around} {E1 : Value → Shared → Prop} {Q1 : Value → Shared → Prop}, Q1 (.ref hp.objs.size) ⟨hp.push o, g, d, tk, os⟩ → wpAny (model prog w) A1 (pyIter v) Q1 E1 ⟨hp, g, d, tk, os⟩ := fun q => hB.iter prog w _ _ ⟨hp, g, d, tk, os⟩ _ hb q
    wp_walk using begin1
    refine wpAny_stack_any fun stk => wpAny_pure ?_
    split
    next c _ _ _ _ _ =>
      cases (c == Value.type "enumerate") <;> (wp_walk using begin1; exact ⟨_, rfl, h⟩)
    next => wp_walk using begin1; exact ⟨_, rfl, h⟩
theorem make {prog : Program} {w : World} {A : Around} {E : Value → Shared → Prop} {s : Shared} {v : Value} {o : Obj} {B : Heap → Prop} {Q : Value → Shared → Prop} (hB : Begins v o B) (hb : B s.heap)
    (k : ∀ h', IsEnum h' (s.heap.objs.size + 1) s.heap.objs.size 0 .none → h'.get? s.heap.objs.size = some o → (∀ b o, s.heap.get? b = some o → h'.get? b = some o) → Q (.ref (s.heap.objs.size + 1)) { s with heap := h' }) :
    wpAny (model prog w) A (call (.type "enumerate") [v]) Q E s := by
  refine callType_new F.called_enumerate (by decide) (F.typeCall_enumerate_1 _) (F.newCall_enumerate_1 _) (fun obj => F.args_object_init_2 obj _) F.entry_enumerate_new (meets_one hB) ⟨hb, ?_⟩
  have z : (s.heap.push o).objs.size = s.heap.objs.size + 1 := Heap.size_push ..
  generalize hn : ({ cls := .type "enumerate", data := .fields #[.none, .bool false, .ref s.heap.objs.size, rawInt 0, .none, .none] } : Obj) = en
  have e : ((s.heap.push o).push en).get? (s.heap.objs.size + 1) = some en := by
    have q := Heap.get?_push_size (s.heap.push o) (o := en) (by rw [← hn]; rfl)
    rw [z] at q
    exact q
  have ie : IsEnum ((s.heap.push o).push en) (s.heap.objs.size + 1) s.heap.objs.size 0 .none := by
    subst hn
    exact e
  show _ ∧ _
  rw [z]
  exact ⟨⟨_, e, by rw [← hn]⟩, k _ ie (Heap.get?_push_of_some _ (Heap.get?_push_size _ hB.free)) fun b u x => Heap.get?_push_of_some _ (Heap.get?_push_of_some _ x)⟩
/-- the tuple at a walked with its places -/
def ItE (K : PySem.W.Frag) (a : Addr) : It :=
  ⟨fun i H => ∃ (xs : List V) (x : V), SqT K H a xs ∧ xs[i]? = some x, fun i H v H' => ∃ T x, v = .ref T ∧ H T = none ∧ H' = upd H T (.tup [.int (i : Nat), x]) ∧ ∀ xs, SqT K H a xs → xs[i]? = some x,
    fun i H => ∃ xs : List V, SqT K H a xs ∧ xs.length = i⟩
theorem turn {P : Program} {w : World} {K : PySem.W.Frag} {elts : List Expr} {kk : Nat} {tpos : Pos} (a e it : Addr) (hei : e ≠ it) :
    Turn P w K (.Tuple elts kk tpos) (ItE K a) [e, it] e (fun i h => (∃ old, IsEnum h e it ((i : Nat) : Int) old) ∧ h.IsTupleIter it a i) where
  mem := List.mem_cons_self
  obj := fun i h st b hb => by
    obtain ⟨⟨old, he⟩, o, ho, _, hd⟩ := st
    rcases List.mem_cons.mp hb with z | z
    · rw [z]; exact ⟨_, he, fun v q => nomatch q⟩
    · rw [List.mem_singleton.mp z]; exact ⟨o, ho, fun v q => by rw [hd] at q; cases q⟩
  keep := fun i h h' st k => ⟨let ⟨old, he⟩ := st.1; ⟨old, k e (by simp) _ he⟩, st.2.at fun o q => k it (by simp) o q⟩
  item := by
    intro X hP hw hK hc i pins s σ H E I hf st hg
    subst hP hw hK
    obtain ⟨⟨old, he⟩, hit⟩ := st
    obtain ⟨xs, x, hq, hx⟩ := hg
    obtain ⟨its, rv, pl, hz⟩ := I.tuple hq
    obtain ⟨u, hu, ru⟩ := rv.get hx
    have le : e < s.heap.objs.size := Heap.lt_size he
    have li : it < s.heap.objs.size := by obtain ⟨_, q, _⟩ := hit; exact Heap.lt_size q
    have nai : a ≠ it := fun z => by
      obtain ⟨o, q, hcl, _⟩ := hit
      obtain ⟨o2, q2, hcl2, _⟩ := pl
      rw [z, q] at q2
      cases q2
      rw [hcl] at hcl2
      exact absurd (Value.type.inj hcl2) (by decide)
    have nea : e ≠ a := fun z => by
      obtain ⟨o2, q2, hcl2, _⟩ := pl
      rw [← z] at q2
      have q3 := Option.some.inj (he.symm.trans q2)
      rw [← q3] at hcl2
      exact absurd (Value.type.inj hcl2) (by decide)
    have D := Draws.tuple (prog := X.prog) (w := X.w) (A := X.A.in1) (I.ok.hd hc) it a nai its.toArray
    have hlt : i < its.toArray.size := by simpa using (List.getElem?_eq_some_iff.mp hu).1
    refine wpAny_pyNext_enum_itemD D he ⟨hit, pl⟩ hlt hei (by simp [hei, nea]) fun y h' tk hy ho st' hT hsz hk => ?_
    obtain rfl : y = u := by
      have q : its[i]? = some y := by simpa using hy
      exact Option.some.inj (q.symm.trans hu)
    refine ⟨_, rfl, wpAny_letOwnedTupleGo_enum (s := { s with heap := h', toks := tk + 1 }) ho fun h'' he' sb => ?_⟩
    have tT : h''.get? s.heap.objs.size = some { cls := .type "tuple", data := .seq #[.int i tk, y] } := (sb.2 _ (Nat.ne_of_gt le)).trans hT
    have J : Inv X pins σ (upd H s.heap.objs.size (.tup [.int (i : Nat), x])) { s with heap := h'', toks := tk + 1 } :=
      I.turnedNew (ch := [e, it]) (fun b ob nb q => (sb.2 b (fun z => nb (by simp [z]))).trans (hk b ob (fun z => nb (by simp [z])) (fun z => nb (by simp [z])) q)) hf (Nat.le_refl _)
        ⟨by show 2 ≤ sizeLine; decide, [.int i tk, y], .cons ⟨_, rfl⟩ (.cons ru .nil), ⟨_, tT, rfl, _, rfl⟩⟩
    refine ⟨.ref s.heap.objs.size, _, J, rfl, ⟨_, x, rfl, I.hok.fresh (Nat.le_refl _), rfl, fun ys hy => by rw [I.tuple_inj hy hq]; exact hx⟩, ⟨⟨y, ?_⟩, st'.1.at fun o q => (sb.2 it (Ne.symm hei)).trans q⟩, fun b hb => ?_⟩
    · have c1 : ((i + 1 : Nat) : Int) = (i : Int) + 1 := by omega
      rw [c1]; exact he'
    · have lb : b < s.heap.objs.size := by
        rcases List.mem_cons.mp hb with z | z
        · rw [z]; exact le
        · rw [List.mem_singleton.mp z]; exact li
      rw [upd_ne (Nat.ne_of_lt lb)]
      exact (hf b hb).1
  done := by
    intro X hP hw hK hc i pins s σ H E I hf st hg
    subst hP hw hK
    obtain ⟨⟨old, he⟩, hit⟩ := st
    obtain ⟨xs, hq, hx⟩ := hg
    obtain ⟨its, rv, pl, hz⟩ := I.tuple hq
    obtain ⟨f0, f1, f2, f3, f4, f5⟩ := hf it (by simp)
    have hl := rv.length
    have nai : a ≠ it := fun z => by
      obtain ⟨o, q, hcl, _⟩ := hit
      obtain ⟨o2, q2, hcl2, _⟩ := pl
      rw [z, q] at q2
      cases q2
      rw [hcl] at hcl2
      exact absurd (Value.type.inj hcl2) (by decide)
    have D := Draws.tuple (prog := X.prog) (w := X.w) (A := X.A.in1) (I.ok.hd hc) it a nai its.toArray
    have en : i = its.toArray.size := by rw [List.size_toArray, ← hl, hx]
    exact wpAny_pyNext_enum_endD D he (by rw [← en]; exact ⟨hit, pl⟩) fun h' eb => ⟨rfl, I.turned (t' := s.toks) (fun b o hb q => eb b o hb q) f0 f1 f3 f4 f5⟩
  self := fun A i s Q E st h => let ⟨⟨_, he⟩, _⟩ := st; wpAny_pyIter_enum he h
def iEnumT (K : PySem.W.Frag) (ta : TA) : TI := fun σ H R => ta σ H fun vs H1 => ∃ a xs, vs = [.ref a] ∧ SqT K H1 a xs ∧ R (ItE K a) H1
theorem pi_enumT {X : Cx} {e : Expr} {ta : TA} {p pos tpos : Pos} {elts : List Expr} {kk : Nat} (hg : Gl X "enumerate") (hm : X.mg "enumerate" = none) (ha : PA X [e] ta) (hs : starEach [e] X.env = [(false, eval e X.env)] := by rfl) :
    PI X (.Tuple elts kk tpos) (.Call (.Name "enumerate" p) [e] [] pos) (iEnumT X.K ta) := by
  refine ⟨fun pins s σ H R I h => ?_⟩
  refine Call_ (ld_blt I hg hm boot_enumerate (PyProof.Rows.callWith_type1 (thn (ha.run pos pins s σ H _ I h) fun us s1 ⟨vs, H1, I1, r1, q1⟩ => ?_) hs rfl))
  obtain ⟨a, xs, rfl, hq, q⟩ := q1
  obtain ⟨u, rfl, ru⟩ := vals1 r1
  cases (show u = Value.ref a from ru)
  obtain ⟨its, rv, pl, hz⟩ := I1.tuple hq
  refine make (begins_tuple a its.toArray) pl fun h' ie io kp => wpAny_pyIter_enum ie ?_
  refine ⟨s1.heap.objs.size + 1, [s1.heap.objs.size + 1, s1.heap.objs.size], _, _, H1, rfl, I1.kept (t' := s1.toks) kp, turn a (s1.heap.objs.size + 1) s1.heap.objs.size (Nat.succ_ne_self _), ⟨⟨.none, ie⟩, _, io, rfl, rfl⟩, fun b hb => ?_, q⟩
  have lb : s1.heap.objs.size ≤ b := by
    rcases List.mem_cons.mp hb with z | z
    · rw [z]; exact Nat.le_succ _
    · rw [List.mem_singleton.mp z]; exact Nat.le_refl _
  exact I1.fpOk lb (I1.hok.fresh lb)
/-- for (i, x) in enumerate(t): an invariant over the turns -/
theorem for_enumT {K : PySem.W.Frag} {a : Addr} {xs : List V} {g : TG} {tb : TS} {D : Ends} {σ : L2.St} {H : Hp} (Pv : Nat → L2.St → Hp → Prop) (h0 : Pv 0 σ H) (hl : ∀ i σ H, i ≤ xs.length → Pv i σ H → SqT K H a xs)
    (hs : ∀ i x σ H T, xs[i]? = some x → Pv i σ H → H T = none → g (.ref T) σ (upd H T (.tup [.int (i : Nat), x])) fun σ2 H2 => tb { D with nx := Pv (i + 1), ct := Pv (i + 1), bk := D.nx } σ2 H2) (hd : ∀ σ H, Pv xs.length σ H → D.nx σ H) :
    ∃ W : Nat → Nat → L2.St → Hp → Prop, (∃ m, W 0 m σ H) ∧ ∀ i m σ H, W i m σ H →
      ((ItE K a).stop i H ∧ D.nx σ H) ∨ ((ItE K a).go i H ∧ ∃ N : L2.St → Hp → Prop, (∀ σ' H', N σ' H' → ∃ m', m' < m ∧ W (i + 1) m' σ' H') ∧ ∀ x H', (ItE K a).yld i H x H' → g x σ H' fun σ2 H2 => tb { D with nx := N, ct := N, bk := D.nx } σ2 H2) := by
  refine ⟨fun i m σ H => i + m = xs.length ∧ Pv i σ H, ⟨xs.length, by omega, h0⟩, ?_⟩
  rintro i m σ H ⟨e, p⟩
  have q := hl i σ H (by omega) p
  by_cases c : i < xs.length
  · refine .inr ⟨⟨xs, xs[i], q, List.getElem?_eq_getElem c⟩, Pv (i + 1), fun σ' H' p' => ⟨m - 1, by omega, by omega, p'⟩, fun v H' hy => ?_⟩
    obtain ⟨T, x, rfl, nT, rfl, fx⟩ := hy
    exact hs i x σ H T (fx xs q) p nT
  · have e2 : i = xs.length := by omega
    subst e2
    exact .inl ⟨⟨xs, q, rfl⟩, hd σ H p⟩
theorem lc_enumT {K : PySem.W.Frag} {a : Addr} {xs : List V} {g : TG} {tt : TT} {te : TE} {vs : List Nat} {σ : L2.St} {H1 : Hp} {D : Addr} {Qd : Hp → Prop} (Pv : Nat → Hp → Prop) (h0 : Pv 0 (upd H1 D (.lst []))) (hl : ∀ i H, i ≤ xs.length → Pv i H → SqT K H a xs)
    (hs : ∀ i x H T, xs[i]? = some x → Pv i H → H T = none → g (.ref T) (wipe σ vs) (upd H T (.tup [.int (i : Nat), x])) fun σ2 H2 => wipe σ2 vs = wipe σ vs ∧ tt σ2 H2 fun b H3 =>
      if b = true then te σ2 H3 fun y H4 => ∃ acc, H4 D = some (.lst acc) ∧ acc.length < sizeLine ∧ Pv (i + 1) (upd H4 D (.lst (acc ++ [y]))) else Pv (i + 1) H3) (hd : ∀ H, Pv xs.length H → Qd H) :
    ∃ W : Nat → Nat → Hp → Prop, (∃ m, W 0 m (upd H1 D (.lst []))) ∧ ∀ i m H, W i m H →
      ((ItE K a).stop i H ∧ Qd H) ∨ ((ItE K a).go i H ∧ ∃ Nx : Hp → Prop, (∀ H', Nx H' → ∃ m', m' < m ∧ W (i + 1) m' H') ∧ ∀ x H', (ItE K a).yld i H x H' → g x (wipe σ vs) H' fun σ2 H2 => wipe σ2 vs = wipe σ vs ∧ tt σ2 H2 fun b H3 =>
        if b = true then te σ2 H3 fun y H4 => ∃ acc, H4 D = some (.lst acc) ∧ acc.length < sizeLine ∧ Nx (upd H4 D (.lst (acc ++ [y]))) else Nx H3) := by
  refine ⟨fun i m H => i + m = xs.length ∧ Pv i H, ⟨xs.length, by omega, h0⟩, ?_⟩
  rintro i m H ⟨e, p⟩
  have q := hl i H (by omega) p
  by_cases c : i < xs.length
  · refine .inr ⟨⟨xs, xs[i], q, List.getElem?_eq_getElem c⟩, Pv (i + 1), fun H' p' => ⟨m - 1, by omega, by omega, p'⟩, fun v H' hy => ?_⟩
    obtain ⟨T, x, rfl, nT, rfl, fx⟩ := hy
    exact hs i x H T (fx xs q) p nT
  · have e2 : i = xs.length := by omega
    subst e2
    exact .inl ⟨⟨xs, q, rfl⟩, hd H p⟩
end Et

set_option Elab.async false
set_option linter.all false
set_option maxRecDepth 100000
set_option maxHeartbeats 4000000
/-! riddles as they lie in the heap, their data, and what a filling breaks -/
namespace Dt
open PySem PySem.Spec PyProof.Rows L2
/-! ### in, of a tuple of data -/
def rInT (K : PySem.W.Frag) : R2 := fun x y H Q => ∃ d ds, Dp K H x d ∧ Dp K H y (.tuple ds) ∧ SeqAt.shaped d = true ∧ SeqAt.shaped (.tuple ds) = true ∧ Q (.bl (ds.any fun z => PyData.eqv z d)) H
theorem op_inT {X : Cx} (hu : X.A.units + 65 < cLine) : OpR X (compareOp .In) (rInT X.K) := by
  intro pins s σ H x y v u Q I rx ry h
  obtain ⟨d, ds, hd, he, sd, se, q⟩ := h
  obtain ⟨as, r1⟩ := Dp.reads I d x v hd rx
  obtain ⟨bs, r2⟩ := Dp.reads I (.tuple ds) y u he ry
  exact SeqAt.in_tuple_reads r2 r1 (SeqAt.canLay_of_shaped se) (SeqAt.canLay_of_shaped sd) (room_in_shaped sd hu) ⟨.bl _, H, I, rfl, q⟩
/-! ### wishes and riddles -/
abbrev Row := List Int
abbrev WD := List Int × List Row
def IsRow (H : Hp) (r : Addr) (row : Row) : Prop := H r = some (.tup (row.map V.int))
def IsWish (H : Hp) (wa : Addr) (wd : WD) : Prop := ∃ (pa ra : Addr) (rs : List Addr), H wa = some (.tup [.ref pa, .ref ra]) ∧ H pa = some (.tup (wd.1.map V.int)) ∧ H ra = some (.tup (rs.map V.ref)) ∧ Paired (IsRow H) rs wd.2
def IsRid (H : Hp) (ri : Addr) (many hues : Int) (wds : List WD) : Prop := ∃ (wt : Addr) (was : List Addr), H ri = some (.tup [.int many, .int hues, .ref wt]) ∧ H wt = some (.tup (was.map V.ref)) ∧ Paired (IsWish H) was wds
/-- tuples stay -/
def Tups (H H' : Hp) : Prop := ∀ b xs, H b = some (.tup xs) → H' b = some (.tup xs)
theorem Tups.refl (H : Hp) : Tups H H := fun _ _ e => e
theorem Tups.trans {H H1 H2 : Hp} (a : Tups H H1) (b : Tups H1 H2) : Tups H H2 := fun c xs e => b c xs (a c xs e)
theorem tups_same {H H' : Hp} (s : Same H H') : Tups H H' := fun b xs e => s b _ e
theorem tups_upd {H : Hp} {p : Addr} {o : HO} (h : ∀ xs, H p ≠ some (.tup xs)) : Tups H (upd H p o) := fun b xs e => by
  rw [upd_ne (fun z => h xs (by rw [← z]; exact e))]
  exact e
theorem pairedMap {α β : Type} {F G : α → β → Prop} : ∀ {l : List α} {m : List β}, (∀ a b, F a b → G a b) → Paired F l m → Paired G l m
  | _, _, _, .nil => .nil
  | _, _, k, .cons h t => .cons (k _ _ h) (pairedMap k t)
theorem pairedLen {α β : Type} {F : α → β → Prop} : ∀ {l : List α} {m : List β}, Paired F l m → l.length = m.length
  | _, _, .nil => rfl
  | _, _, .cons _ t => by rw [List.length_cons, List.length_cons, pairedLen t]
theorem pairedGet {α β : Type} {F : α → β → Prop} : ∀ {l : List α} {m : List β} {i : Nat} {b : β}, Paired F l m → m[i]? = some b → ∃ a, l[i]? = some a ∧ F a b
  | _, _, _, _, .nil, h => by simp at h
  | _, _, 0, _, .cons h _, e => by cases e; exact ⟨_, rfl, h⟩
  | _, _, i + 1, b, .cons _ t, e => pairedGet (i := i) (b := b) t e
theorem pairedGetL {α β : Type} {F : α → β → Prop} : ∀ {l : List α} {m : List β} {i : Nat} {a : α}, Paired F l m → l[i]? = some a → ∃ b, m[i]? = some b ∧ F a b
  | _, _, _, _, .nil, h => by simp at h
  | _, _, 0, _, .cons h _, e => by cases e; exact ⟨_, rfl, h⟩
  | _, _, i + 1, a, .cons _ t, e => pairedGetL (i := i) (a := a) t e
theorem IsWish.mono {H H' : Hp} {wa : Addr} {wd : WD} (t : Tups H H') (h : IsWish H wa wd) : IsWish H' wa wd := by
  obtain ⟨pa, ra, rs, h1, h2, h3, h4⟩ := h
  exact ⟨pa, ra, rs, t _ _ h1, t _ _ h2, t _ _ h3, pairedMap (fun a b e => t _ _ e) h4⟩
theorem IsRid.mono {H H' : Hp} {ri : Addr} {m h : Int} {wds : List WD} (t : Tups H H') (x : IsRid H ri m h wds) : IsRid H' ri m h wds := by
  obtain ⟨wt, was, h1, h2, h3⟩ := x
  exact ⟨wt, was, t _ _ h1, t _ _ h2, pairedMap (fun _ _ e => IsWish.mono t e) h3⟩
/-- what may come of the law's drawing -/
structure Good (many hues : Int) (wd : WD) : Prop where
  one : 1 ≤ wd.1.length
  three : wd.1.length ≤ 3
  pl : ∀ p ∈ wd.1, 0 ≤ p ∧ p < many
  some_ : 1 ≤ wd.2.length
  few : wd.2.length ≤ 64
  row : ∀ r ∈ wd.2, r.length = wd.1.length ∧ ∀ h ∈ r, 0 ≤ h ∧ h < hues
structure GoodR (many hues : Int) (wds : List WD) : Prop where
  m1 : 1 ≤ many
  m6 : many ≤ 6
  h2 : 2 ≤ hues
  h4 : hues ≤ 4
  eight : wds.length ≤ 8
  each : ∀ wd ∈ wds, Good many hues wd
structure GoodF (many hues : Int) (fs : List Int) : Prop where
  len : (fs.length : Int) = many
  hue : ∀ h ∈ fs, 0 ≤ h ∧ h < hues
/-! ### the data -/
def rowD (r : Row) : PyData := .tuple (r.map .int)
def wishD (wd : WD) : PyData := .tuple [rowD wd.1, .tuple (wd.2.map rowD)]
def ridD (many hues : Int) (wds : List WD) : PyData := .tuple [.int many, .int hues, .tuple (wds.map wishD)]
section
variable {K : PySem.W.Frag} {H : Hp}
theorem dpInts : ∀ ns : List Int, DpAll K H (ns.map V.int) (ns.map PyData.int)
  | [] => .nil
  | n :: r => .cons (.int n) (dpInts r)
theorem dpRow {r : Addr} {row : Row} (h : IsRow H r row) : Dp K H (.ref r) (rowD row) := .tup (.inl (.inl h)) (dpInts row)
theorem dpRows : ∀ {rs : List Addr} {rows : List Row}, Paired (IsRow H) rs rows → DpAll K H (rs.map V.ref) (rows.map rowD)
  | _, _, .nil => .nil
  | _, _, .cons h t => .cons (dpRow h) (dpRows t)
theorem dpWish {wa : Addr} {wd : WD} (h : IsWish H wa wd) : Dp K H (.ref wa) (wishD wd) := by
  obtain ⟨pa, ra, rs, h1, h2, h3, h4⟩ := h
  exact .tup (.inl (.inl h1)) (.cons (dpRow h2) (.cons (.tup (.inl (.inl h3)) (dpRows h4)) .nil))
theorem dpWishes : ∀ {was : List Addr} {wds : List WD}, Paired (IsWish H) was wds → DpAll K H (was.map V.ref) (wds.map wishD)
  | _, _, .nil => .nil
  | _, _, .cons h t => .cons (dpWish h) (dpWishes t)
theorem dpRid {ri : Addr} {m h : Int} {wds : List WD} (x : IsRid H ri m h wds) : Dp K H (.ref ri) (ridD m h wds) := by
  obtain ⟨wt, was, h1, h2, h3⟩ := x
  exact .tup (.inl (.inl h1)) (.cons (.int m) (.cons (.int h) (.cons (.tup (.inl (.inl h2)) (dpWishes h3)) .nil)))
end
/-! ### data of this kind is laid, shallow, light and shown -/
/-- a measure of data: laid, at most so deep, at most so heavy, ints short, no dict -/
structure Fine (d : PyData) (n w : Nat) : Prop where
  lay : d.canLay0 = true
  dep : d.depth ≤ n
  wei : d.weight ≤ w
  sho : d.showable = true
  noD : d.hasDict = false
  sh13 : d.intsShort 13 = true
structure FineAll (ds : List PyData) (n w : Nat) : Prop where
  lay : PyData.canLayAll0 ds = true
  dep : PyData.depthAll ds ≤ n
  wei : PyData.weightAll ds ≤ w
  sho : PyData.showableAll ds = true
  noD : PyData.hasDictAll ds = false
  sh13 : PyData.intsShortAll 13 ds = true
theorem FineAll.nil (n : Nat) : FineAll [] n 0 := ⟨rfl, Nat.zero_le _, Nat.le_refl _, rfl, rfl, rfl⟩
theorem FineAll.cons {d : PyData} {ds : List PyData} {n w u : Nat} (h : Fine d n w) (t : FineAll ds n u) : FineAll (d :: ds) n (w + 1 + u) := by
  refine ⟨?_, ?_, ?_, ?_, ?_, ?_⟩
  · simp only [PyData.canLayAll0, h.lay, t.lay, Bool.and_self]
  · have a := h.dep
    have b := t.dep
    simp only [PyData.depthAll]
    omega
  · have a := h.wei
    have b := t.wei
    simp only [PyData.weightAll]
    omega
  · simp only [PyData.showableAll, h.sho, t.sho, Bool.and_self]
  · simp only [PyData.hasDictAll, h.noD, t.noD, Bool.or_self]
  · simp only [PyData.intsShortAll, h.sh13, t.sh13, Bool.and_self]
theorem Fine.tuple {ds : List PyData} {n w : Nat} (t : FineAll ds n w) : Fine (.tuple ds) (n + 1) w := by
  refine ⟨by simp only [PyData.canLay0]; exact t.lay, ?_, by simp only [PyData.weight]; exact t.wei, by simp only [PyData.showable]; exact t.sho, by simp only [PyData.hasDict]; exact t.noD, by simp only [PyData.intsShort]; exact t.sh13⟩
  have a := t.dep
  simp only [PyData.depth]
  omega
theorem Fine.list {ds : List PyData} {n w : Nat} (t : FineAll ds n w) : Fine (.list ds) (n + 1) w := by
  refine ⟨by simp only [PyData.canLay0]; exact t.lay, ?_, by simp only [PyData.weight]; exact t.wei, by simp only [PyData.showable]; exact t.sho, by simp only [PyData.hasDict]; exact t.noD, by simp only [PyData.intsShort]; exact t.sh13⟩
  have a := t.dep
  simp only [PyData.depth]
  omega
theorem Fine.mono {d : PyData} {n w n' w' : Nat} (h : Fine d n w) (a : n ≤ n') (b : w ≤ w') : Fine d n' w' := ⟨h.lay, Nat.le_trans h.dep a, Nat.le_trans h.wei b, h.sho, h.noD, h.sh13⟩
theorem FineAll.mono {d : List PyData} {n w n' w' : Nat} (h : FineAll d n w) (a : n ≤ n') (b : w ≤ w') : FineAll d n' w' := ⟨h.lay, Nat.le_trans h.dep a, Nat.le_trans h.wei b, h.sho, h.noD, h.sh13⟩
theorem fineAll_map {α : Type} {f : α → PyData} {n w : Nat} : ∀ (l : List α), (∀ x ∈ l, Fine (f x) n w) → FineAll (l.map f) n (l.length * (w + 1))
  | [], _ => FineAll.nil n |>.mono (Nat.le_refl _) (Nat.zero_le _)
  | x :: r, h => by
    have t := fineAll_map r fun y hy => h y (List.mem_cons_of_mem _ hy)
    refine (FineAll.cons (h x List.mem_cons_self) t).mono (Nat.le_refl _) ?_
    rw [List.length_cons, Nat.succ_mul]
    omega
theorem fine_int {i : Int} (h0 : 0 ≤ i) (h1 : i < 64) : Fine (.int i) 1 7 := by
  obtain ⟨n, rfl⟩ : ∃ n : Nat, i = n := ⟨i.toNat, by omega⟩
  have hn : n < 64 := by omega
  have hl : n.log2 ≤ 5 := by
    by_cases e : n = 0
    · subst e; decide
    · have := (Nat.log2_lt e).mpr (show n < 2 ^ 6 by omega)
      omega
  refine ⟨rfl, by simp [PyData.depth], ?_, ?_, rfl, ?_⟩
  · simp only [PyData.weight]
    split
    · omega
    · have e : ((n : Int)).natAbs = n := by omega
      rw [e]
      omega
  · simp only [PyData.showable]
    have e : ((n : Int)).natAbs = n := by omega
    rw [e]
    exact decide_eq_true (by omega)
  · have all : ∀ m : Nat, m < 64 → PyData.intsShort 13 (.int (m : Int)) = true := by decide +kernel
    exact all n hn
theorem Fine.shaped {d : PyData} {n w : Nat} (h : Fine d n w) (hn : n ≤ 64) : SeqAt.shaped d = true := by
  show (d.canLay0 && decide (d.depth ≤ 64)) = true
  rw [h.lay, decide_eq_true (Nat.le_trans h.dep hn)]
  rfl
theorem Fine.shows {d : PyData} {n w : Nat} (h : Fine d n w) (hn : n ≤ 64) (hw : w ≤ 1048576) : d.shown.length ≤ sizeLine := by
  have l : d.layable0 = true := by
    show (d.canLay0 && decide (d.depth ≤ 64) && decide (d.weight ≤ 2 ^ 20)) = true
    rw [h.lay, decide_eq_true (Nat.le_trans h.dep hn), decide_eq_true (show d.weight ≤ 2 ^ 20 from Nat.le_trans h.wei (Nat.le_trans hw (by decide)))]
    rfl
  exact Nat.le_trans (shown_le13 l h.sh13) (by decide)
/-! ### equality of rows -/
theorem eqvAll_ints : ∀ a b : List Int, PyData.eqvAll (a.map .int) (b.map .int) = decide (a = b)
  | [], [] => by simp [PyData.eqvAll]
  | [], _ :: _ => by simp [PyData.eqvAll]
  | _ :: _, [] => by simp [PyData.eqvAll]
  | x :: r, y :: q => by
    simp only [List.map_cons, PyData.eqvAll, PyData.eqv, eqvAll_ints r q]
    by_cases h : x = y
    · subst h; simp
    · simp [h]
theorem eqv_row (a b : Row) : PyData.eqv (rowD a) (rowD b) = decide (a = b) := by
  unfold rowD
  rw [PyData.eqv]
  exact eqvAll_ints a b
theorem anyRows (r : Row) : ∀ rows : List Row, ((rows.map rowD).any fun z => PyData.eqv z (rowD r)) = decide (r ∈ rows)
  | [] => by simp
  | x :: q => by
    rw [List.map_cons, List.any_cons, anyRows r q, eqv_row]
    by_cases h : x = r
    · subst h; simp
    · have h2 : ¬ r = x := fun e => h e.symm
      simp [h, h2]
/-! ### what is broken -/
def atF (fs : List Int) (p : Int) : Int := fs.getD p.toNat 0
def huesA (fs ps : List Int) : List Int := ps.map (atF fs)
def brk (fs : List Int) (wd : WD) : Bool := decide (huesA fs wd.1 ∈ wd.2)
def brkAt (fs : List Int) (wds : List WD) (k : Nat) : Bool := match wds[k]? with
  | some wd => brk fs wd
  | none => false
def broL (fs : List Int) (wds : List WD) (i : Nat) : List Int := ((List.range i).filter (brkAt fs wds)).map fun (k : Nat) => (k : Int)
theorem brkAt_of {fs : List Int} {wds : List WD} {k : Nat} {wd : WD} (h : wds[k]? = some wd) : brkAt fs wds k = brk fs wd := by
  unfold brkAt
  rw [h]
theorem broL_yes {fs : List Int} {wds : List WD} {i : Nat} (h : brkAt fs wds i = true) : broL fs wds (i + 1) = broL fs wds i ++ [(i : Int)] := by
  unfold broL
  rw [List.range_succ, List.filter_append, List.map_append]
  simp [h]
theorem broL_no {fs : List Int} {wds : List WD} {i : Nat} (h : brkAt fs wds i = false) : broL fs wds (i + 1) = broL fs wds i := by
  unfold broL
  rw [List.range_succ, List.filter_append, List.map_append]
  simp [h]
theorem broL_len (fs : List Int) (wds : List WD) (i : Nat) : (broL fs wds i).length ≤ i := by
  unfold broL
  rw [List.length_map]
  have q := List.length_filter_le (brkAt fs wds) (List.range i)
  rw [List.length_range] at q
  exact q
theorem broL_mem {fs : List Int} {wds : List WD} {i : Nat} {z : Int} (h : z ∈ broL fs wds i) : 0 ≤ z ∧ z < i := by
  unfold broL at h
  obtain ⟨k, hk, rfl⟩ := List.mem_map.mp h
  have := List.mem_range.mp (List.mem_filter.mp hk).1
  omega
theorem at_some {fs : List Int} {many hues : Int} {p : Int} (h : GoodF many hues fs) (h0 : 0 ≤ p) (h1 : p < many) : fs[p.toNat]? = some (atF fs p) := by
  have hl := h.len
  have hp : p.toNat < fs.length := by omega
  unfold atF
  rw [List.getD_eq_getElem?_getD, List.getElem?_eq_getElem hp]
  rfl
theorem atI_fs {fs : List Int} {many hues : Int} {p : Int} (h : GoodF many hues fs) (h0 : 0 ≤ p) (h1 : p < many) : atI (fs.map V.int) p = some (.int (atF fs p)) := by
  have e : p = ((p.toNat : Nat) : Int) := by omega
  have g : (fs.map V.int)[p.toNat]? = some (.int (atF fs p)) := by rw [List.getElem?_map, at_some h h0 h1]; rfl
  rw [e]
  rw [← e]
  have q := atI_nat g
  rw [← e] at q
  exact q
/-! ### riddles are fine data -/
theorem fine_row {r : Row} (h : ∀ z ∈ r, 0 ≤ z ∧ z < 64) (hl : r.length ≤ 8) : Fine (rowD r) 2 64 :=
  (Fine.tuple (fineAll_map r fun z hz => fine_int (h z hz).1 (h z hz).2)).mono (by omega) (by omega)
theorem fine_wish {many hues : Int} {wd : WD} (g : Good many hues wd) (hm : many ≤ 6) (hh : hues ≤ 4) : Fine (wishD wd) 4 5000 := by
  have a : Fine (rowD wd.1) 2 64 := fine_row (fun z hz => ⟨(g.pl z hz).1, by have := (g.pl z hz).2; omega⟩) (by have := g.three; omega)
  have b : Fine (.tuple (wd.2.map rowD)) 3 4200 := by
    refine (Fine.tuple (fineAll_map wd.2 fun r hr => fine_row (fun z hz => ⟨((g.row r hr).2 z hz).1, by have := ((g.row r hr).2 z hz).2; omega⟩) (by have := (g.row r hr).1; have := g.three; omega))).mono (Nat.le_refl _) ?_
    have := g.few
    omega
  exact (Fine.tuple (FineAll.cons (a.mono (by omega) (Nat.le_refl _)) (FineAll.cons b (FineAll.nil _)))).mono (Nat.le_refl _) (by omega)
theorem fine_rid {many hues : Int} {wds : List WD} (g : GoodR many hues wds) : Fine (ridD many hues wds) 6 50000 := by
  have c : Fine (.tuple (wds.map wishD)) 5 40100 := by
    refine (Fine.tuple (fineAll_map wds fun wd hw => fine_wish (g.each wd hw) g.m6 g.h4)).mono (Nat.le_refl _) ?_
    have := g.eight
    omega
  have m := fine_int (i := many) (by have := g.m1; omega) (by have := g.m6; omega)
  have h := fine_int (i := hues) (by have := g.h2; omega) (by have := g.h4; omega)
  exact (Fine.tuple (FineAll.cons (m.mono (by omega) (Nat.le_refl _)) (FineAll.cons (h.mono (by omega) (Nat.le_refl _)) (FineAll.cons c (FineAll.nil _))))).mono (Nat.le_refl _) (by omega)
theorem fine_fill {many hues : Int} {fs : List Int} (g : GoodF many hues fs) (hm : many ≤ 6) (hh : hues ≤ 4) : Fine (rowD fs) 2 64 :=
  fine_row (fun z hz => ⟨(g.hue z hz).1, by have := (g.hue z hz).2; omega⟩) (by have := g.len; omega)
theorem fine_bro (fs : List Int) (wds : List WD) {i : Nat} (h : i ≤ 8) : Fine (.list ((broL fs wds i).map .int)) 2 64 := by
  refine (Fine.list (fineAll_map (broL fs wds i) fun z hz => fine_int (broL_mem hz).1 (by have := (broL_mem hz).2; omega))).mono (by omega) ?_
  have := broL_len fs wds i
  omega
end Dt

set_option Elab.async false
set_option linter.all false
set_option maxRecDepth 100000
set_option maxHeartbeats 4000000
/-! sorted(xs) of tuples of small ints, any number of them -/
namespace Tt
open PySem PySem.Spec PyProof.Rows L2
def rk (h : Heap) (B : Int) (v : Value) : Int := TS.code B (TS.intsOf h v)
theorem swo_rk (f : Value → Int) : SrtO.Swo fun v u => decide (f v < f u) := by
  refine ⟨fun x y h => ?_, fun x y z h1 h2 => ?_⟩
  · have a := of_decide_eq_true h
    exact decide_eq_false (by omega)
  · have a := of_decide_eq_false h1
    have b := of_decide_eq_false h2
    exact decide_eq_false (by omega)
section
variable {prog : Program} {w : World} {A : Around} {E : Value → Shared → Prop} {s : Shared}
theorem cmp_tups {d : Nat} {B : Int} {vs : List Value} (x : TS.TupsOk s.heap d B vs) (r : Value → Int) (hr : ∀ v, v ∈ vs → ∀ ns, TS.TupInts s.heap v ns → r v = TS.code B ns) :
    SrtO.Cmp prog w A s (tuples' true) (fun p => p.1 ∈ vs) (SrtO.lt2 fun v u => decide (r v < r u)) := by
  intro p q hp hq
  obtain ⟨ns, tp, lp, bp⟩ := x _ hp
  obtain ⟨ms, tq, lq, bq⟩ := x _ hq
  show wpAny (model prog w) A (keyLt' (tuples' true) p.1 q.1) (fun b s' => s' = s ∧ b = decide (r p.1 < r q.1)) (fun _ _ => False) s
  rw [hr _ hp _ tp, hr _ hq _ tq]
  obtain ⟨a, xs, e1, ⟨o, ho, hc, n, hdt⟩, i⟩ := tp
  obtain ⟨a', ys, e2, ⟨o', ho', hc', n', hdt'⟩, i'⟩ := tq
  rw [e1, e2]
  refine PySem.W.kat_lt ho hdt ho' hdt' ?_
  have l1 := i.length
  have l2 := i'.length
  rw [Array.length_toList] at l1 l2
  rw [show decide (xs.size < ys.size) = false from decide_eq_false (by omega)]
  exact TS.lex_ints 0 i i' (by omega) bp bq ⟨rfl, rfl⟩
theorem sortable {a : Addr} {d : Nat} {B : Int} {vs : List Value} (hd : 1 ≤ d) (h2 : 2 ≤ vs.length) (x : TS.TupsOk s.heap d B vs) (ha : ∀ o, s.heap.get? a = some o → o.cls ≠ .type "tuple") (r : Value → Int) (hr : ∀ v, v ∈ vs → ∀ ns, TS.TupInts s.heap v ns → r v = TS.code B ns) :
    SrtO.SortableO prog w A s a vs fun v u => decide (r v < r u) := by
  intro h' keep
  have k2 : ∀ b o, s.heap.get? b = some o → o.cls = .type "tuple" → h'.get? b = some o := fun b o e c => keep b o (fun z => by subst z; exact ha o e c) e
  have x' := x.keeps k2
  obtain ⟨fs, kt, hl, hi⟩ := TS.firsts_of hd vs x'
  refine ⟨tuples' true, fun Q E hq => ?_, cmp_tups (s := { s with heap := h' }) x' r fun v hv ns t => ?_⟩
  · refine PySem.W.kat_kind (T := .type "int") kt (by omega) (fun f hm => ?_) (by rfl) ?_
    · obtain ⟨n, t, rfl⟩ := hi f hm
      exact PySem.W.Looks.of_pure rfl
    · rw [show (Value.type "int" != Value.type "tuple") = true by decide +kernel]
      exact hq
  · obtain ⟨n0, t0, _⟩ := x v hv
    rw [show ns = n0 from t.ints.symm.trans (t0.keeps k2).ints]
    exact hr v hv n0 t0
end
/-- sorted(xs): ts the tuples' places, k what stands at each -/
def rSortedT (K : PySem.W.Frag) : List V → Hp → VK → Prop := fun vs H Q => ∃ (a : Addr) (ts : List Addr) (k : Addr → List Int) (d : Nat) (B : Int), vs = [.ref a] ∧ SqL K H a (ts.map V.ref) ∧ 1 ≤ d ∧ (∀ t ∈ ts, H t = some (.tup ((k t).map V.int)) ∧ (k t).length = d ∧ TS.Bd B (k t)) ∧
  ∀ (ts' : List Addr) (p : Addr), ts'.Perm ts → ts'.Pairwise (fun u v => TS.code B (k u) ≤ TS.code B (k v)) → H p = none → Q (.ref p) (upd H p (.lst (ts'.map V.ref)))
theorem vals_refs : ∀ {ts : List Addr} {us : List Value}, Vals (ts.map V.ref) us → us = ts.map Value.ref
  | [], _, .nil => rfl
  | t :: r, _, .cons h q => by
    cases h
    rw [vals_refs q]
    rfl
theorem refs_vals : ∀ ts : List Addr, Vals (ts.map V.ref) (ts.map Value.ref)
  | [] => .nil
  | t :: r => .cons rfl (refs_vals r)
theorem cr_sortedT {X : Cx} : CallR X (.builtin "sorted") (rSortedT X.K) := by
  intro pins s σ H vs us Q I r h
  obtain ⟨a, ts, k, d, B, rfl, hs, hd, ht, q⟩ := h
  obtain ⟨its, rv, hl, hz⟩ := I.list hs
  obtain ⟨u, rfl, ru⟩ := vals1 r
  cases (show u = Value.ref a from ru)
  obtain rfl := vals_refs rv
  have tup : ∀ t ∈ ts, TS.TupInts s.heap (.ref t) (k t) := fun t hm => by
    obtain ⟨_, its, rr, hT⟩ := I.hok t _ (ht t hm).1
    exact ⟨t, its.toArray, rfl, hT, by simpa using rr.ints⟩
  have ok : TS.TupsOk s.heap d B (ts.map Value.ref) := fun v hv => by
    obtain ⟨t, hm, rfl⟩ := List.mem_map.mp hv
    exact ⟨k t, tup t hm, (ht t hm).2.1, (ht t hm).2.2⟩
  have rk_at : ∀ v ∈ ts.map Value.ref, ∀ ns, TS.TupInts s.heap v ns → rk s.heap B v = TS.code B ns := fun v _ ns t => by
    unfold rk
    rw [t.ints]
  refine SrtO.sorted_ord (swo_rk (rk s.heap B)) hl.isList (by rw [← rv.length]; exact hz) (fun h2 h₁ a' ha' kk => ?_) fun out so sb => ?_
  · have keep : ∀ b o, s.heap.get? b = some o → o.cls = .type "tuple" → h₁.get? b = some o := fun b o e _ => (kk b o e).2
    refine sortable (s := { s with heap := h₁ }) hd h2 (ok.keeps keep) (fun o e c => ?_) (rk s.heap B) fun v hv ns t => ?_
    · have e' := Option.some.inj (e.symm.trans ha')
      rw [e'] at c
      exact absurd (Value.type.inj c) (by decide)
    · obtain ⟨n0, t0, _⟩ := ok v hv
      rw [show ns = n0 from t.ints.symm.trans (t0.keeps keep).ints]
      exact rk_at v hv n0 t0
  · obtain ⟨ep, he⟩ := PyProof.Rows.sortedAll_at s.heap (ts.map Value.ref) out.toArray
    have pm := sb.perm
    obtain ⟨ts', rfl, pt⟩ : ∃ ts' : List Addr, out = ts'.map Value.ref ∧ ts'.Perm ts := by
      have back : ∀ v ∈ out, ∃ t, v = Value.ref t := fun v hv => by
        obtain ⟨t, _, e⟩ := List.mem_map.mp (pm.mem_iff.mp hv)
        exact ⟨t, e.symm⟩
      have g : ∀ l : List Value, (∀ v ∈ l, ∃ t, v = Value.ref t) → ∃ m : List Addr, l = m.map Value.ref := by
        intro l
        induction l with
        | nil => intro _; exact ⟨[], rfl⟩
        | cons v r ih =>
          intro hv
          obtain ⟨t, rfl⟩ := hv v List.mem_cons_self
          obtain ⟨m, rfl⟩ := ih fun z hz => hv z (List.mem_cons_of_mem _ hz)
          exact ⟨t :: m, rfl⟩
      obtain ⟨m, rfl⟩ := g out back
      let f : Value → Addr := fun v => match v with | .ref t => t | _ => 0
      have q2 := pm.map f
      rw [List.map_map, List.map_map] at q2
      have e1 : (f ∘ Value.ref) = id := by funext z; rfl
      rw [e1, List.map_id, List.map_id] at q2
      exact ⟨m, rfl, q2⟩
    refine ⟨.ref (s.heap.objs.size + 1), _, I.laid (t' := s.toks) (o := .lst (ts'.map V.ref)) (fun _ _ => PyProof.Rows.sortedAll_old) (Nat.le_succ _) ⟨?_, ts'.map Value.ref, ep, refs_vals ts', he⟩, rfl, q ts' _ pt ?_ (I.hok.fresh (Nat.le_succ _))⟩
    · rw [List.length_map, pt.length_eq]
      rw [List.length_map] at hz
      exact hz
    · have so2 := List.pairwise_map.mp so
      refine List.Pairwise.imp_of_mem (fun {x y} hx hy h => ?_) so2
      have h2 := of_decide_eq_false h
      unfold rk at h2
      rw [(tup x (pt.mem_iff.mp hx)).ints, (tup y (pt.mem_iff.mp hy)).ints] at h2
      omega
end Tt

set_option Elab.async false
set_option linter.all false
set_option maxRecDepth 100000
set_option maxHeartbeats 4000000
/-! the law's own call: tables of code objects tracked, and no repr under way around it -/
namespace Lg
open PySem PySem.Spec PyProof.Rows L2
/-- the def's body, run where A stands -/
theorem run_at {P : Program} {w : World} {K : PySem.W.Frag} {mg : Str → Option Value} {base : Heap} {k : Nat} {f : Addr} {x qual : Str} {st : Stmt} {fd : FuncData} {N ps : List Str} {A : Around} {outer : List Env} {s : Shared} {H : Hp} {args : Args} {us : List Value} {vs : List V} {Q : VK} {E : XK}
    (F : Fun K x qual st f fd) (S : FnScope N ps (defScope st)) (hr : Room (k + 1) A) (e0 : Env0 P w K mg base A outer s H) (hb : BindsTo s fd args (ps.zip us)) (r : Vals vs us) (hl : vs.length = ps.length)
    (body : ∀ cdv : Value, Room k (A.deeper (envOfC qual (defScope st) s.heap.objs.size f cdv)) → ∃ t, PSs (cxOf CX0 P w K mg base N qual (defScope st) f cdv A outer s H E).nox (defBody st) t ∧ t { nx := fun _ H' => Q .non H', rt := Q } (start N vs) H) :
    codeAny (model P w) A (.call (.ref f) args) (CR CX0 outer P w H s Q E) s := by
  obtain ⟨oc, od, kV, doc, pm, an, cdv, ct, osl, rfl, lk, hcd⟩ := F.ex
  have old : ∀ b o, base.get? b = some o → s.heap.get? b = some o := fun b o e => (e0.bs b o e).1
  have KX := e0.mod.kin.keeps old
  have lim := e0.mod.nolimit.keeps old
  obtain ⟨t, pt, ht⟩ := body cdv (hr.deeper _)
  refine codeAny_call_function hr.depth (KX _ _ lk) rfl S.co S.gen rfl (PySem.W.codeRec_of KX hcd) (hb _ _ _ _ (wpAny_newFunctionEnv_cells S.kind (fun y hy => ?_) fun env he s1 ic => ?_))
  · rcases S.par y.1 (List.of_mem_zip (show (y.1, y.2) ∈ ps.zip us from hy)).1 with z | z
    · exact .inl z
    · exact .inr ⟨z, PySem.W.cellsFrom_some _ _ _ (.inl z)⟩
  · subst he
    refine ⟨lim.keeps ic.toInCall.keep, codeAny_func (wpAny_mono (pt.nox.run [] s1 (start N vs) H _ (inv_start S hr.hd e0 hl r ic) ht) (fun fl s' q => ?_) fun _ _ q => q)⟩
    cases fl with
    | ret u => obtain ⟨v, σ', H', J, rv, q⟩ := q; exact ⟨v, H', J.os, J.bare, J.base, J.hok, rv, q⟩
    | next => obtain ⟨σ', H', J, q⟩ := q; exact ⟨.non, H', J.os, J.bare, J.base, J.hok, rfl, q⟩
    | brk => obtain ⟨_, _, _, q⟩ := q; exact q.elim
    | cont => obtain ⟨_, _, _, q⟩ := q; exact q.elim
/-- the abstract heap at the law's call: the tables, and the script where the top didn't write it -/
def H0 (K : PySem.W.Frag) (T : List Addr) (a : Addr) (o : Obj) (xs : List V) : Hp := fun b => if b ∈ T then some (.tbl #[]) else if b = a ∧ K.lookup a = none then some (.frz o (.lst xs)) else none
theorem H0_three (K : PySem.W.Frag) (T : List Addr) (a : Addr) (o : Obj) (xs : List V) (b : Addr) : (b ∈ T ∧ H0 K T a o xs b = some (.tbl #[])) ∨ (b = a ∧ K.lookup a = none ∧ H0 K T a o xs b = some (.frz o (.lst xs))) ∨ (H0 K T a o xs b = none ∧ b ∉ T) := by
  unfold H0
  by_cases h : b ∈ T
  · exact .inl ⟨h, if_pos h⟩
  · by_cases h2 : b = a ∧ K.lookup a = none
    · exact .inr (.inl ⟨h2.1, h2.2, by rw [if_neg h, if_pos h2]⟩)
    · exact .inr (.inr ⟨by rw [if_neg h, if_neg h2], h⟩)
theorem law_at {P : Program} {w : World} {K : PySem.W.Frag} {mg mb : Str → Option Value} {k : Nat} {fa a : Addr} {cs : List (Addr × Addr)} {x qual : Str} {st : Stmt} {fd : FuncData} {N : List Str} {par : Str} {s : Shared} {vs : List Value} {ns : List Int}
    (KX : K.In s.heap) (hns : s.heap.Ns mainGlobals mg) (hbl : s.heap.Ns builtinsNs mb) (hbb : ∀ x : Str, x ≠ "__name__" → mb x = bootBuiltins x) (hlim : s.heap.NoLimit) (hg : s.gens = #[])
    (hT : ∀ p ∈ cs, s.heap.get? p.2 = some { cls := .none, data := .fields #[] }) (nT : ∀ p ∈ cs, K.lookup p.2 = none) (hC : ∀ p ∈ cs, PySem.W.CodeHd s.heap p.1 p.2)
    (hbm : ∃ (bm : Addr) (ob : Obj), mg "__builtins__" = some (.ref bm) ∧ bm ≠ builtinsNs ∧ s.heap.get? bm = some ob ∧ ob.cls = .type "module" ∧ ob.dict = some builtinsNs ∧ ob.data = .plain)
    (ha : s.heap.get? a = some { cls := .type "list", data := .seq vs.toArray }) (hi : IntsAre vs ns) (hlen : ns.length ≤ sizeLine) (hr : Room (k + 1) callerA)
    (F : Fun K x qual st fa fd) (S : FnScope N [par] (defScope st)) (hb : ∀ (s : Shared) (u : Value), BindsTo s fd ⟨[u], []⟩ [(par, u)])
    (body : ∀ (base : Heap) (H : Hp) (cdv : Value), K.In base → base.Ns mainGlobals mg → (∀ p ∈ cs, GxR.TabB base mg p.1 p.2) → (∀ p ∈ cs, H p.2 = some (.tbl #[])) → SqL K H a (ns.map V.int) → Room k (callerA.deeper (envOfC qual (defScope st) s.heap.objs.size fa cdv)) →
      ∃ t, PSs (cxOf CX0 P w K mg base N qual (defScope st) fa cdv callerA [] s H (fun _ _ _ => False)).nox (defBody st) t ∧ t { nx := fun _ _ => False, rt := fun v _ => v = .bl true } (start N [.ref a]) H) :
    codeAny (model P w) callerA (.call (.ref fa) ⟨[.ref a], []⟩) (fun r s' => r = .ok (.ret (.bool true)) ∧ OldK s.heap s'.heap ∧ s'.os = s.os ∧ AllBare s'.gens) s := by
  have rv := vals_ints hi
  have lv := hi.length
  generalize hso : ({ cls := .type "list", data := .seq vs.toArray } : Obj) = so at ha
  have inT : ∀ b, b ∈ cs.map (·.2) → s.heap.get? b = some { cls := .none, data := .fields #[] } ∧ K.lookup b = none := fun b h => by
    obtain ⟨p, hp, rfl⟩ := List.mem_map.mp h
    exact ⟨hT p hp, nT p hp⟩
  generalize hH : H0 K (cs.map (·.2)) a so (ns.map V.int) = H
  have three := H0_three K (cs.map (·.2)) a so (ns.map V.int)
  rw [hH] at three
  -- an object of another kind isn't tracked
  have clean : ∀ b o, s.heap.get? b = some o → o.data ≠ .fields #[] → (∀ v n, o.data ≠ .seq v n) → H b = none := fun b o e h1 h2 => by
    rcases three b with ⟨z, _⟩ | ⟨z, _, _⟩ | ⟨z, _⟩
    · rw [(inT b z).1] at e; cases e; exact absurd rfl h1
    · rw [z, ha, ← hso] at e; cases e; exact absurd rfl (h2 _ _)
    · exact z
  have low : ∀ b o, s.heap.get? b = some o → o.data ≠ .fields #[] → (∀ v n, o.data ≠ .seq v n) → (hidT s.heap H).get? b = some o := fun b o e h1 h2 => hidT_get e (clean b o e h1 h2)
  have lowNs : ∀ b m, s.heap.Ns b m → (hidT s.heap H).Ns b m := fun b m ⟨o, es, ep, e, d, q⟩ => ⟨o, es, ep, low b o e (by rw [d]; exact fun z => nomatch z) (by rw [d]; exact fun _ _ z => nomatch z), d, q⟩
  have kb : K.In (hidT s.heap H) := fun b o e => hidT_get (KX b o e) (by
    rcases three b with ⟨z, _⟩ | ⟨z, q, _⟩ | ⟨z, _⟩
    · rw [(inT b z).2] at e; cases e
    · rw [z, q] at e; cases e
    · exact z)
  have hok : HOk P w H s.heap := fun b u e => by
    rcases three b with ⟨z, q⟩ | ⟨z, _, q⟩ | ⟨q, _⟩
    · rw [e] at q; cases q; exact (inT b z).1
    · rw [e] at q; cases q; rw [z]; exact ⟨ha, by rw [List.length_map]; exact hlen, vs, 0, rv, by rw [ha, ← hso]⟩
    · rw [e] at q; cases q
  have tb : ∀ p ∈ cs, GxR.TabB (hidT s.heap H) mg p.1 p.2 := fun p hp => by
    refine ⟨?_, ?_, fun z => ?_⟩
    · obtain ⟨o, us, fl, t1, fg, t2, b1, tx, t3, e1, e2, e3, e4, rest⟩ := hC p hp
      exact ⟨o, us, fl, t1, fg, t2, b1, tx, t3, low _ _ e1 (by rw [e3]; intro z; cases z; simp at e4) (by rw [e3]; exact fun _ _ z => nomatch z), e2, e3, e4, rest⟩
    · obtain ⟨bm, ob, m1, m2, m3, m4, m5, m6⟩ := hbm
      refine ⟨bm, ob, m1, m2, fun z => ?_, fun z => ?_, low _ _ m3 (by rw [m6]; exact fun z => nomatch z) (by rw [m6]; exact fun _ _ z => nomatch z), m4, m5, m6⟩
      · obtain ⟨o, es, ep, e, d, _⟩ := hns
        rw [z, e] at m3; cases m3; rw [d] at m6; cases m6
      · rw [z, hT p hp] at m3; cases m3; cases m6
    · obtain ⟨o, es, ep, e, d, _⟩ := hns
      rw [z, hT p hp] at e; cases e; cases d
  have tabH : ∀ p ∈ cs, H p.2 = some (.tbl #[]) := fun p hp => by
    have hm : p.2 ∈ cs.map (·.2) := List.mem_map.mpr ⟨p, hp, rfl⟩
    rcases three p.2 with ⟨_, q⟩ | ⟨z, _, _⟩ | ⟨_, q⟩
    · exact q
    · have e := (inT _ hm).1
      rw [z, ha, ← hso] at e; cases e
    · exact absurd hm q
  have hS : SqL K H a (ns.map V.int) := by
    rcases three a with ⟨z, _⟩ | ⟨_, _, q⟩ | ⟨q, nt⟩
    · have e := (inT a z).1
      rw [ha, ← hso] at e; cases e
    · exact .inl (.inr ⟨so, q⟩)
    · cases e : K.lookup a with
      | none => rw [← hH] at q; unfold H0 at q; rw [if_neg nt, if_pos ⟨rfl, e⟩] at q; cases q
      | some o =>
        have e2 := KX a o e
        rw [ha, ← hso] at e2; cases e2
        exact .inr ⟨_, vs.toArray, _, e, rfl, rfl, rfl, by rw [List.size_toArray, lv]; exact hlen, by simpa using rv⟩
  have e0 : Env0 P w K mg (hidT s.heap H) callerA [] s H := ⟨rfl, ⟨kb, lowNs _ _ hns, ⟨mb, lowNs _ _ hbl, hbb⟩, let ⟨mc, q1, q2⟩ := hlim; ⟨mc, lowNs _ _ q1, q2⟩⟩, fun b o e => of_hidT e, Nat.le_of_eq (hidT_size _ _), trivial, (fun b z => nomatch z), hok, .of_eq hg⟩
  refine codeAny_mono (run_at (vs := [.ref a]) (us := [.ref a]) (Q := fun v _ => v = .bl true) (E := fun _ _ _ => False) F S hr e0 (hb s (.ref a)) (.cons rfl .nil) rfl fun cdv hrm => ?_) fun r s' h => ?_
  · obtain ⟨t, p1, p2⟩ := body _ H cdv kb (lowNs _ _ hns) tb tabH hS hrm
    refine ⟨t, p1, ?_⟩
    have e : (fun (_ : L2.St) (H' : Hp) => (fun (v : V) (_ : Hp) => v = V.bl true) V.non H') = fun _ _ => False := by
      funext _ _
      exact propext ⟨(fun z => nomatch z), fun z => z.elim⟩
    rw [e]
    exact p2
  · match r, h with
    | .ok (.ret u), h =>
      obtain ⟨v, H', os, bare, un, hok', r', q⟩ := h
      obtain rfl : v = .bl true := q
      obtain rfl : u = Value.bool true := r'
      have grown : ∀ p ∈ cs, ∃ more : Array Value, s'.heap.get? p.2 = some { cls := .none, data := .fields more } := fun p hp => by
        obtain ⟨more, z⟩ := un.tbls p.2 #[] (tabH p hp)
        exact ⟨_, hok' p.2 _ z⟩
      have kept : ∀ b o, b ∉ cs.map (·.2) → s.heap.get? b = some o → s'.heap.get? b = some o := fun b o nb e => by
        rcases three b with ⟨z, _⟩ | ⟨z, _, q⟩ | ⟨q, _⟩
        · exact absurd z nb
        · have z2 := hok' b _ (un.frzs b so _ q)
          rw [z, ha] at e
          cases e
          exact z2.1
        · exact un.keep b o e q (by intro z; cases z) (by intro z; cases z)
      refine ⟨rfl, ⟨fun b o e => ?_, fun b o e => ?_⟩, os, bare⟩
      · by_cases hm : b ∈ cs.map (·.2)
        · obtain ⟨p, hp, rfl⟩ := List.mem_map.mp hm
          obtain ⟨more, z⟩ := grown p hp
          rw [hT p hp] at e
          cases e
          exact .inr (.inl ⟨((hC p hp).tab (hT p hp)).isCodeTable, rfl, #[], more, rfl, by rw [Array.empty_append]; exact z⟩)
        · exact .inl (kept b o hm e)
      · by_cases hm : b ∈ cs.map (·.2)
        · obtain ⟨p, hp, rfl⟩ := List.mem_map.mp hm
          obtain ⟨more, z⟩ := grown p hp
          exact ⟨_, z⟩
        · exact ⟨o, kept b o hm e⟩
/-! ### repr of data -/
/-- repr(x), x data -/
theorem call_repr {X : Cx} (hg : X.A.guards = some []) (hu : X.A.units + 64 < cLine) : CallR X (.builtin "repr") (fun xs H Q => ∃ (a : Addr) (d : PyData), xs = [.ref a] ∧ Dp X.K H (.ref a) d ∧ d.showable = true ∧ d.hasDict = false ∧ d.depth < 63 ∧ d.shown.length ≤ sizeLine ∧ Q (.str d.shown) H) := by
  intro pins s σ H xs us Q I r h
  obtain ⟨a, d, rfl, hd, h1, h2, h3, h4, q⟩ := h
  obtain ⟨u, rfl, ru⟩ := vals1 r
  obtain ⟨as, rd⟩ := Dp.reads I d _ u hd ru
  cases (show u = Value.ref a from ru)
  refine repr_of_reads' rd h1 (fun e => by rw [h2] at e; cases e) hg (by omega) (fun _ _ e => e) (fun h' u tk hk => ?_) h4
  exact ⟨.str d.shown, H, I.kept (t' := _) hk, ⟨_, rfl⟩, q⟩
end Lg

set_option Elab.async false
set_option linter.all false
set_option maxRecDepth 100000
set_option maxHeartbeats 4000000
namespace Lg
open PySem PySem.Spec PyProof.Rows L2
/-- the code object and the table of the def named x -/
def TabOf (mg : Str → Option Value) (h : Heap) (x : Str) (p : Addr × Addr) : Prop :=
  ∃ (a : Addr) (o : Obj) (fd : FuncData), mg x = some (.ref a) ∧ h.get? a = some o ∧ o.data = .func fd ∧ fd.code = .ref p.1 ∧ PySem.W.CodeHd h p.1 p.2 ∧ h.get? p.2 = some { cls := .none, data := .fields #[] }
theorem TabOf.code {K : PySem.W.Frag} {mg : Str → Option Value} {h : Heap} {x : Str} {p : Addr × Addr} {f : Addr} {cl : Value} {dd : Option Addr} {fd : FuncData} {sl : Array (Option Value)} (T : TabOf mg h x p) (X : K.In h) (hf : mg x = some (.ref f)) (l : K.lookup f = some ⟨cl, dd, .func fd, sl⟩) : fd.code = .ref p.1 := by
  obtain ⟨a, o, fd', h1, h2, h3, h4, _⟩ := T
  rw [hf] at h1
  cases h1
  rw [X _ _ l] at h2
  cases h2
  cases h3
  exact h4
theorem no_tab {K : PySem.W.Frag} {h : Heap} {P : Addr} (X : K.In h) (hK : PySem.W.noTabs K = true) (e : h.get? P = some { cls := .none, data := .fields #[] }) : K.lookup P = none := by
  cases z : K.lookup P with
  | none => rfl
  | some o =>
    have z2 := X _ _ z
    rw [e] at z2
    cases z2
    exact absurd (show false = true from List.all_eq_true.mp hK (P, _) (PySem.W.mem_of_lookupK z)) Bool.false_ne_true
theorem walk_of {l : PySem.W.OpenLaw} {n k : Nat} {q : Program} {loose : List Str} {XP : (Str → Option Value) → Heap → Prop} {YP : World → Heap → Prop} {d : DefRec} {K : Params → PySem.W.Frag} {x qual par : Str} {st : Stmt} {N : List Str} (names : List Str)
    (hn : l.most = some n) (hn2 : n ≤ sizeLine) (hdf : d.params.defaults = []) (hr : Room (k + 1) callerA) (hrec : (names.all fun y => (recsOf q).any fun e => e.name == y) = true) (hK : ∀ w : World, PySem.W.noTabs (K w.params) = true) (hY : ∀ (w : World) (h : Heap), YP w h → (K w.params).In h) (S : FnScope N [par] (defScope st))
    (F : ∀ (w : World) (mg : Str → Option Value) (fa : Addr) (h : Heap) (tb : Str → Addr × Addr), (K w.params).In h → h.Ns mainGlobals mg → mg d.name = some (.ref fa) → (∀ y ∈ names, TabOf mg h y (tb y)) →
      ∃ fd : FuncData, Fun (K w.params) x qual st fa fd ∧ (∀ (s : Shared) (u : Value), BindsTo s fd ⟨[u], []⟩ [(par, u)]) ∧ ∀ (base : Heap) (H : Hp) (cdv : Value) (a : Addr) (ns : List Int) (s : Shared), (K w.params).In base → base.Ns mainGlobals mg → (∀ y ∈ names, GxR.TabB base mg (tb y).1 (tb y).2) → (∀ y ∈ names, H (tb y).2 = some (.tbl #[])) → ns.length ≤ n → (∀ z ∈ ns, Builtin.Int.intBits z ≤ 1048576) → SqL (K w.params) H a (ns.map V.int) → Room k (callerA.deeper (envOfC qual (defScope st) s.heap.objs.size fa cdv)) →
        ∃ t, PSs (cxOf CX0 l.prog w (K w.params) mg base N qual (defScope st) fa cdv callerA [] s H (fun _ _ _ => False)).nox (defBody st) t ∧ t { nx := fun _ _ => False, rt := fun v _ => v = .bl true } (start N [.ref a]) H) :
    PySem.W.WalkO q loose XP YP l.row.toRowW d [] (fun f vs => PySem.call f vs) := by
  refine Att.attach_callB hn hdf fun w s₀ s₁ mg mb fa o pm cd doc a vs ns G Y ho hd hcd hmg hobj hints hlen hbits hg => ?_
  have KX := hY w _ Y
  have ex : ∀ y : Str, ∃ p : Addr × Addr, y ∈ names → TabOf mg s₁.heap y p := fun y => by
    by_cases hy : y ∈ names
    · obtain ⟨dL, hm, hn1⟩ := List.any_eq_true.mp (List.all_eq_true.mp hrec y hy)
      have hn2 : dL.name = y := beq_iff_eq.mp hn1
      obtain ⟨a', o', fd', c', P', h1, h2, h3, h4, h5, h6⟩ := G.T.tab dL hm
      rw [hn2] at h1
      exact ⟨(c', P'), fun _ => ⟨a', o', fd', h1, h2, h3, h4, PySem.W.CodeHd.of h5 h6, h6.2⟩⟩
    · exact ⟨(0, 0), fun z => absurd z hy⟩
  have tbx : ∃ tb : Str → Addr × Addr, ∀ y ∈ names, TabOf mg s₁.heap y (tb y) := ⟨fun y => Classical.choose (ex y), fun y => Classical.choose_spec (ex y)⟩
  obtain ⟨tb, ht⟩ := tbx
  obtain ⟨fd, hF, hb, body⟩ := F w mg fa _ tb KX G.T.g hmg ht
  have cm : ∀ p ∈ names.map tb, ∃ y ∈ names, tb y = p := fun p hp => List.mem_map.mp hp
  refine law_at (cs := names.map tb) KX G.T.g G.T.b G.T.builtins G.T.nolimit hg (fun p hp => ?_) (fun p hp => ?_) (fun p hp => ?_) G.T.bmain hobj hints (Nat.le_trans hlen hn2) hr hF S hb fun base H cdv kb gn tB tH hS hrm => body base H cdv a ns s₁ kb gn (fun y hy => tB _ (List.mem_map_of_mem hy)) (fun y hy => tH _ (List.mem_map_of_mem hy)) hlen hbits hS hrm
  · obtain ⟨y, hy, rfl⟩ := cm p hp
    obtain ⟨_, _, _, _, _, _, _, _, z⟩ := ht y hy
    exact z
  · obtain ⟨y, hy, rfl⟩ := cm p hp
    obtain ⟨_, _, _, _, _, _, _, _, z⟩ := ht y hy
    exact no_tab KX (hK w) z
  · obtain ⟨y, hy, rfl⟩ := cm p hp
    obtain ⟨_, _, _, _, _, _, _, z, _⟩ := ht y hy
    exact z
end Lg

set_option Elab.async false
set_option linter.all false
set_option maxRecDepth 100000
set_option maxHeartbeats 4000000
/-! fillings, counts, clashes: the data -/
namespace Dt
open PySem PySem.Spec PyProof.Rows L2
def longer (hues : Nat) (f : List Int) : List (List Int) := (List.range hues).map fun (h : Nat) => f ++ [(h : Int)]
def fillL (hues : Nat) : Nat → List (List Int)
  | 0 => [[]]
  | n + 1 => (fillL hues n).flatMap (longer hues)
theorem fill_good {hues : Nat} : ∀ {n : Nat} {f : List Int}, f ∈ fillL hues n → f.length = n ∧ ∀ h ∈ f, 0 ≤ h ∧ h < (hues : Int)
  | 0, f, h => by
    cases List.mem_singleton.mp h
    exact ⟨rfl, fun _ z => nomatch z⟩
  | n + 1, f, h => by
    obtain ⟨g, hg, hf⟩ := List.mem_flatMap.mp h
    obtain ⟨k, hk, rfl⟩ := List.mem_map.mp hf
    obtain ⟨l, a⟩ := fill_good hg
    have hk := List.mem_range.mp hk
    refine ⟨by simp [l], fun z hz => ?_⟩
    rcases List.mem_append.mp hz with q | q
    · exact a z q
    · cases List.mem_singleton.mp q
      omega
theorem longer_len (hues : Nat) (f : List Int) : (longer hues f).length = hues := by simp [longer]
theorem flat_len {hues : Nat} : ∀ l : List (List Int), (l.flatMap (longer hues)).length = l.length * hues
  | [] => by simp
  | f :: r => by rw [List.flatMap_cons, List.length_append, longer_len, flat_len r, List.length_cons, Nat.succ_mul, Nat.add_comm]
theorem fill_len (hues : Nat) : ∀ n : Nat, (fillL hues n).length = hues ^ n
  | 0 => by simp [fillL]
  | n + 1 => by rw [fillL, flat_len, fill_len hues n, Nat.pow_succ]
theorem fill_goodF {many hues : Int} (m0 : 0 ≤ many) (h0 : 0 ≤ hues) {f : List Int} (h : f ∈ fillL hues.toNat many.toNat) : GoodF many hues f := by
  obtain ⟨a, b⟩ := fill_good h
  exact ⟨by omega, fun z hz => by have := b z hz; omega⟩
theorem pow_le_4096 {h n : Nat} (hh : h ≤ 4) (hn : n ≤ 6) : h ^ n ≤ 4096 := by
  have a : h ^ n ≤ 4 ^ n := Nat.pow_le_pow_left hh n
  have b : 4 ^ n ≤ 4 ^ 6 := Nat.pow_le_pow_right (by decide) hn
  have c : (4 : Nat) ^ 6 = 4096 := by decide
  omega
/-! ### counts -/
def bump (ns : List Int) (i : Nat) : List Int := ns.set i (ns.getD i 0 + 1)
def cnt0 (wds : List WD) : List Int := List.replicate (wds.length + 1) 0
def cntL (wds : List WD) (fss : List (List Int)) : List Int := fss.foldl (fun ns f => bump ns (broL f wds wds.length).length) (cnt0 wds)
theorem cnt_snoc (wds : List WD) (fss : List (List Int)) (f : List Int) : cntL wds (fss ++ [f]) = bump (cntL wds fss) (broL f wds wds.length).length := by
  unfold cntL
  rw [List.foldl_append]
  rfl
theorem bump_len (ns : List Int) (i : Nat) : (bump ns i).length = ns.length := by simp [bump]
theorem foldl_len (wds : List WD) : ∀ (fss : List (List Int)) (ns : List Int), (fss.foldl (fun ns f => bump ns (broL f wds wds.length).length) ns).length = ns.length
  | [], _ => rfl
  | f :: r, ns => by rw [List.foldl_cons, foldl_len wds r, bump_len]
theorem cnt_len (wds : List WD) (fss : List (List Int)) : (cntL wds fss).length = wds.length + 1 := by
  unfold cntL
  rw [foldl_len]
  simp [cnt0]
theorem bump_mem {ns : List Int} {i : Nat} {b : Int} (h : ∀ z ∈ ns, 0 ≤ z ∧ z ≤ b) (hb : 0 ≤ b) : ∀ z ∈ bump ns i, 0 ≤ z ∧ z ≤ b + 1 := fun z hz => by
  unfold bump at hz
  rcases List.mem_or_eq_of_mem_set hz with q | q
  · have := h z q; omega
  · subst q
    rw [List.getD_eq_getElem?_getD]
    cases e : ns[i]? with
    | none => simp; omega
    | some x => have := h x (List.mem_of_getElem? e); simp; omega
theorem foldl_mem (wds : List WD) : ∀ (fss : List (List Int)) (ns : List Int) (b : Int), 0 ≤ b → (∀ z ∈ ns, 0 ≤ z ∧ z ≤ b) → ∀ z ∈ fss.foldl (fun ns f => bump ns (broL f wds wds.length).length) ns, 0 ≤ z ∧ z ≤ b + fss.length
  | [], _, b, _, h => fun z hz => by have := h z hz; simp; omega
  | f :: r, ns, b, hb, h => fun z hz => by
    have := foldl_mem wds r (bump ns (broL f wds wds.length).length) (b + 1) (by omega) (bump_mem h hb) z hz
    rw [List.length_cons]
    omega
theorem cnt_mem (wds : List WD) (fss : List (List Int)) : ∀ z ∈ cntL wds fss, 0 ≤ z ∧ z ≤ fss.length := fun z hz => by
  have := foldl_mem wds fss (cnt0 wds) 0 (by omega) (fun z hz => by
    have := List.eq_of_mem_replicate hz
    omega) z hz
  omega
theorem bump_eq {ns : List Int} {i : Nat} {x : Int} (h : ns[i]? = some x) : bump ns i = ns.set i (x + 1) := by
  unfold bump
  rw [List.getD_eq_getElem?_getD, h]
  rfl
/-! ### clashes -/
def clB (a b : WD) : Bool := a.1.any fun p => decide (p ∈ b.1)
theorem clB_comm (a b : WD) : clB a b = clB b a := by
  rw [Bool.eq_iff_iff]
  unfold clB
  simp only [List.any_eq_true, decide_eq_true_eq]
  exact ⟨fun ⟨x, h1, h2⟩ => ⟨x, h2, h1⟩, fun ⟨x, h1, h2⟩ => ⟨x, h2, h1⟩⟩
def clAt (wds : List WD) (a : WD) (k : Nat) : Bool := match wds[k]? with
  | some wd => clB a wd
  | none => false
def clsL (wds : List WD) (a : WD) (i : Nat) : List Int := ((List.range i).filter (clAt wds a)).map fun (k : Nat) => (k : Int)
theorem clAt_of {wds : List WD} {a wd : WD} {k : Nat} (h : wds[k]? = some wd) : clAt wds a k = clB a wd := by
  unfold clAt
  rw [h]
theorem clsL_yes {wds : List WD} {a : WD} {i : Nat} (h : clAt wds a i = true) : clsL wds a (i + 1) = clsL wds a i ++ [(i : Int)] := by
  unfold clsL
  rw [List.range_succ, List.filter_append, List.map_append]
  simp [h]
theorem clsL_no {wds : List WD} {a : WD} {i : Nat} (h : clAt wds a i = false) : clsL wds a (i + 1) = clsL wds a i := by
  unfold clsL
  rw [List.range_succ, List.filter_append, List.map_append]
  simp [h]
theorem clsL_len (wds : List WD) (a : WD) (i : Nat) : (clsL wds a i).length ≤ i := by
  unfold clsL
  rw [List.length_map]
  have q := List.length_filter_le (clAt wds a) (List.range i)
  rw [List.length_range] at q
  exact q
theorem clsL_mem {wds : List WD} {a : WD} {i : Nat} {z : Int} (h : z ∈ clsL wds a i) : 0 ≤ z ∧ z < i := by
  unfold clsL at h
  obtain ⟨k, hk, rfl⟩ := List.mem_map.mp h
  have := List.mem_range.mp (List.mem_filter.mp hk).1
  omega
def clsAll (wds : List WD) : List (List Int) := wds.map fun wd => clsL wds wd wds.length
/-! ### fine data -/
theorem short_int (m : Nat) (h : m < 10 ^ 10) : PyData.intsShort 13 (.int (m : Int)) = true := by
  have e := (Nat.length_repr_le_iff (n := m) (by decide : 0 < 10)).mpr h
  show decide ((Str.ofString (Nat.repr m)).length ≤ 13) = true
  rw [decide_eq_true_eq, Str.ofString_eq_toList]
  have z : (Str.mk ((Nat.repr m).toList.map Char.toNat).toArray).length = (Nat.repr m).length := by
    show ((Nat.repr m).toList.map Char.toNat).toArray.size = _
    rw [List.size_toArray, List.length_map, String.length_toList]
  omega
theorem fine_intM {i : Int} (h0 : 0 ≤ i) (h1 : i < 5000) : Fine (.int i) 1 14 := by
  obtain ⟨n, rfl⟩ : ∃ n : Nat, i = n := ⟨i.toNat, by omega⟩
  have hn : n < 5000 := by omega
  have hl : n.log2 ≤ 12 := by
    by_cases e : n = 0
    · subst e; decide
    · have := (Nat.log2_lt e).mpr (show n < 2 ^ 13 by omega)
      omega
  refine ⟨rfl, by simp [PyData.depth], ?_, ?_, rfl, short_int n (by omega)⟩
  · simp only [PyData.weight]
    split
    · omega
    · have e : ((n : Int)).natAbs = n := by omega
      rw [e]
      omega
  · simp only [PyData.showable]
    have e : ((n : Int)).natAbs = n := by omega
    rw [e]
    exact decide_eq_true (by omega)
theorem fine_ints {ns : List Int} (h : ∀ z ∈ ns, 0 ≤ z ∧ z < 5000) : Fine (.list (ns.map .int)) 2 (ns.length * 15) :=
  (Fine.list (fineAll_map ns fun z hz => fine_intM (h z hz).1 (h z hz).2)).mono (by omega) (by omega)
def listsD (ls : List (List Int)) : PyData := .list (ls.map fun l => .list (l.map .int))
theorem fine_lists {ls : List (List Int)} (hl : ls.length ≤ 300) (h : ∀ l ∈ ls, l.length ≤ 20 ∧ ∀ z ∈ l, 0 ≤ z ∧ z < 5000) : Fine (listsD ls) 3 100000 := by
  refine (Fine.list (fineAll_map (n := 2) (w := 300) ls fun l hl => (fine_ints (h l hl).2).mono (Nat.le_refl _) (by have := (h l hl).1; omega))).mono (by omega) (by omega)
end Dt

set_option Elab.async false
set_option linter.all false
set_option maxRecDepth 100000
set_option maxHeartbeats 4000000
/-! elements of generator expressions: x in f[0] -/
namespace Gv
open PySem PySem.Spec PyProof.Rows L2
variable {X : Cx} {pins : List (Addr × Obj)} {σ : L2.St}
theorem reads_ints (h : Heap) : ∀ (ns : List Int) (us : List Value), Vals (ns.map V.int) us → ∃ as, ReadsAll h us (ns.map PyData.int) as
  | [], _, r => by cases r; exact ⟨_, .nil⟩
  | n :: q, _, r => by
    cases r with
    | cons r1 r2 =>
      obtain ⟨as, z⟩ := reads_ints h q _ r2
      obtain ⟨t, rfl⟩ := r1
      exact ⟨_, .cons (.int n t) z⟩
theorem canAll_ints : ∀ ns : List Int, PyData.canLayAll0 (ns.map PyData.int) = true
  | [] => rfl
  | n :: q => by simp only [List.map_cons, PyData.canLayAll0, PyData.canLay0, canAll_ints q, Bool.and_self]
theorem any_ints (n : Int) : ∀ ns : List Int, ((ns.map PyData.int).any fun y => PyData.eqv y (.int n)) = decide (n ∈ ns)
  | [] => by simp
  | m :: q => by
    rw [List.map_cons, List.any_cons, any_ints n q]
    by_cases e : m = n
    · subst e; simp [PyData.eqv]
    · have e2 : ¬ n = m := fun z => e z.symm
      simp [PyData.eqv, e, e2]
theorem elt_in0 {f x : Str} {scope : Scope} {P fa pa : Addr} {H1 : Hp} {xs ys zs : List V} {ns : List Int} {j jj : Nat} {p1 p2 p3 p4 p5 : Pos} (hk : scope.kind = .function) (hx : scope.names.lookup x = some .local) (hf : scope.names.lookup f = some .free)
    (hcl : (cloFrom X.env.cells scope.names []).lookup f = some ((X.env.cells.lookup f).getD 0)) (hj : X.N[j]? = some f) (hkf : X.env.kindOf f = some .cell) (hσ : σ[j]? = some (some (.ref fa))) (hq : SqT X.K H1 fa (.ref pa :: zs)) (hp : SqT X.K H1 pa (ns.map V.int)) (hT : GxR.TabG H1 P) (hu : X.A.units + 64 < cLine)
    (hv : ∀ (i : Nat) x0, xs[i]? = some x0 → ∃ (n : Int), x0 = .int n ∧ ys[i]? = some (.bl (decide (n ∈ ns)))) (hdf : (f == ("__debug__" : Str)) = false := by decide) (hdx : (x == ("__debug__" : Str)) = false := by decide) (hcf : (f == ("__classdict__" : Str)) = false := by decide) :
    EltV X pins σ scope x (.Compare (.Name x p1) [.In] [.Subscript (.Name f p2) (.Constant (.int 0) jj p3) p4] p5) P H1 xs ys := by
  intro s1 t C code bi A' E' i x0 u m I hA hU hx0 ru hn hm hkp
  obtain ⟨n, rfl, hy⟩ := hv i x0 hx0
  obtain ⟨tk, rfl⟩ := (show ∃ t, u = Value.int n t from ru)
  obtain ⟨ps, hP, _⟩ := hT
  have tabS : s1.heap.get? P = some { cls := .none, data := .fields ps } := I.hok P _ hP
  obtain ⟨m1, _, hl⟩ := I.loc
  obtain ⟨uf, rf, lk⟩ := hl j f _ hj hσ (.inr (.inl hkf))
  cases (show uf = Value.ref fa from rf)
  obtain ⟨c, hc, ic⟩ : ∃ c, X.env.cells.lookup f = some c ∧ s1.heap.IsCell c (some (.ref fa)) := by
    rcases lk with ⟨z, _⟩ | ⟨_, c, hc, ic⟩
    · rw [hkf] at z; cases z
    · exact ⟨c, hc, ic⟩
  have ic2 : t.heap.IsCell c (some (.ref fa)) := by
    obtain ⟨o, ho, hd⟩ := ic
    refine ⟨o, hkp c o (fun z => ?_) ho, hd⟩
    rw [z, tabS] at ho
    cases ho
    cases hd
  have tup2 : ∀ {a : Addr} {its : Array Value}, IsTup s1.heap a its → IsTup t.heap a its := fun {a its} pl => by
    obtain ⟨o, ho, hcl', nn, hd⟩ := pl
    refine ⟨o, hkp a o (fun z => ?_) ho, hcl', nn, hd⟩
    rw [z, tabS] at ho
    cases ho
    cases hd
  obtain ⟨its, rv, pl, hz⟩ := I.tuple hq
  have pl2 := tup2 pl
  obtain ⟨its2, rv2, plb, hz2⟩ := I.tuple hp
  have plb2 := tup2 plb
  have clf : (genEnv scope (cloFrom X.env.cells scope.names []) C code bi X.env).cells.lookup f = some c := by
    show (cloFrom X.env.cells scope.names []).lookup f = some c
    rw [hcl, hc]
    rfl
  have hat0 : atI (.ref pa :: zs) 0 = some (.ref pa) := atI_nat (j := 0) rfl
  obtain ⟨j2, h1, h2, h3, h4, h5⟩ := atI_get hat0
  obtain ⟨wv, ew, rw'⟩ := rv.get h2
  cases (show wv = Value.ref pa from rw')
  have hlen := rv.length
  refine wpAny_Compare1 ?_
  refine wpAny_Name (wpAny_loadName_local hk hx hn hm ?_) hdx
  refine Subscript_ (wpAny_Name (wpAny_loadName_free hk hf clf ic2 ?_ hcf) hdf)
  refine wpAny_Constant_int ?_
  refine subscriptTail_builtinR (x := Value.ref pa) (show IsTup { t with toks := t.toks + 1 }.heap fa its.toArray from pl2).typeIs slot_tuple_getitem.lookup
    (getItem_tuple (j := j2) (show IsTup { t with toks := t.toks + 1 }.heap fa its.toArray from pl2) (by decide) (by decide) (by rw [List.size_toArray, ← hlen]; exact h1) (by simpa using ew) ⟨rfl, ?_⟩) (by rfl)
  obtain ⟨as, ra⟩ := reads_ints t.heap ns its2 rv2
  obtain ⟨o, ho, hcl', nn, hd⟩ := plb2
  refine PySem.SeqAt.in_tuple_reads (xs := ns.map PyData.int) (d := .int n) (.tuple (h := t.heap) ho hcl' hd (by simpa using ra)) (.int n tk) (canAll_ints ns) rfl ?_ ⟨⟨_, hy, ?_⟩, GxR.keeps_tok _ _⟩
  · have : min (PyData.depthAll (ns.map PyData.int)) (PyData.int n).depth ≤ 1 := Nat.le_trans (Nat.min_le_right _ _) (by simp [PyData.depth])
    omega
  · rw [any_ints]
    rfl
end Gv

set_option Elab.async false
set_option linter.all false
set_option maxRecDepth 100000
set_option maxHeartbeats 4000000
/-! comprehensions with two fors: the loops; an item of a list, by values -/
namespace Cp
open PySem PySem.Spec PyProof.Rows L2
theorem lc2_list {K : PySem.W.Frag} {a : Addr} {xs : List V} {g : TG} {tt : TT} {B : L2.St → Hp → (Hp → Prop) → Prop} {vs : List Nat} {σ : L2.St} {H1 : Hp} {D : Addr} {Qd : Hp → Prop} (Pv : Nat → Hp → Prop) (h0 : Pv 0 (upd H1 D (.lst []))) (hl : ∀ i H, i ≤ xs.length → Pv i H → SqL K H a xs)
    (hs : ∀ i x H, xs[i]? = some x → Pv i H → g x (wipe σ vs) H fun σ2 H2 => wipe σ2 vs = wipe σ vs ∧ tt σ2 H2 fun b H3 => if b = true then B σ2 H3 (Pv (i + 1)) else Pv (i + 1) H3) (hd : ∀ H, Pv xs.length H → Qd H) :
    ∃ W : Nat → Nat → Hp → Prop, (∃ m, W 0 m (upd H1 D (.lst []))) ∧ ∀ i m H, W i m H →
      ((Itl K a).stop i H ∧ Qd H) ∨ ((Itl K a).go i H ∧ ∃ Nx : Hp → Prop, (∀ H', Nx H' → ∃ m', m' < m ∧ W (i + 1) m' H') ∧ ∀ x H', (Itl K a).yld i H x H' → g x (wipe σ vs) H' fun σ2 H2 => wipe σ2 vs = wipe σ vs ∧ tt σ2 H2 fun b H3 => if b = true then B σ2 H3 Nx else Nx H3) := by
  refine ⟨fun i m H => m = xs.length - i ∧ i ≤ xs.length ∧ Pv i H, ⟨xs.length, by simp, Nat.zero_le _, h0⟩, ?_⟩
  rintro i m H ⟨rfl, hi, p⟩
  have q := hl i H hi p
  by_cases hlt : i < xs.length
  · refine .inr ⟨⟨xs, xs[i], q, by simp [hlt]⟩, Pv (i + 1), fun H' p' => ⟨xs.length - (i + 1), by omega, rfl, hlt, p'⟩, fun x H' y => ?_⟩
    obtain ⟨e, y⟩ := y
    subst e
    exact hs i x _ (y xs q) p
  · have e : i = xs.length := by omega
    subst e
    exact .inl ⟨⟨xs, q, by simp⟩, hd H p⟩
theorem lcin_range {lo : Int} {n : Nat} {g : TG} {tt : TT} {te : TE} {vs : List Nat} {σ : L2.St} {H4 : Hp} {D : Addr} {Qd : Hp → Prop} (Pv : Nat → Hp → Prop) (h0 : Pv 0 H4)
    (hs : ∀ i H, i < n → Pv i H → g (.int (lo + i)) (wipe σ vs) H fun σ2 H2 => wipe σ2 vs = wipe σ vs ∧ tt σ2 H2 fun b H3 =>
      if b = true then te σ2 H3 fun y H4 => ∃ acc, H4 D = some (.lst acc) ∧ acc.length < sizeLine ∧ Pv (i + 1) (upd H4 D (.lst (acc ++ [y]))) else Pv (i + 1) H3) (hd : ∀ H, Pv n H → Qd H) :
    ∃ W : Nat → Nat → Hp → Prop, (∃ m, W 0 m H4) ∧ ∀ i m H, W i m H →
      ((Itr lo n).stop i H ∧ Qd H) ∨ ((Itr lo n).go i H ∧ ∃ Nx : Hp → Prop, (∀ H', Nx H' → ∃ m', m' < m ∧ W (i + 1) m' H') ∧ ∀ x H', (Itr lo n).yld i H x H' → g x (wipe σ vs) H' fun σ2 H2 => wipe σ2 vs = wipe σ vs ∧ tt σ2 H2 fun b H3 =>
        if b = true then te σ2 H3 fun y H4 => ∃ acc, H4 D = some (.lst acc) ∧ acc.length < sizeLine ∧ Nx (upd H4 D (.lst (acc ++ [y]))) else Nx H3) := by
  refine ⟨fun i m H => m = n - i ∧ i ≤ n ∧ Pv i H, ⟨n, by simp, Nat.zero_le _, h0⟩, ?_⟩
  rintro i m H ⟨rfl, hi, p⟩
  by_cases hlt : i < n
  · refine .inr ⟨hlt, Pv (i + 1), fun H' p' => ⟨n - (i + 1), by omega, rfl, hlt, p'⟩, fun x H' y => ?_⟩
    obtain ⟨e, y⟩ := y
    subst e y
    exact hs i _ hlt p
  · have e : i = n := by omega
    subst e
    exact .inl ⟨Nat.le_refl _, hd H p⟩
/-- xs[k], k from 0 on -/
def rIxN (K : PySem.W.Frag) : V → V → Hp → VK → Prop := fun x y H Q => ∃ (p : Addr) (xs : List V) (k : Nat) (v : V), x = .ref p ∧ y = .int k ∧ SqL K H p xs ∧ xs[k]? = some v ∧ Q v H
theorem pget_list {X : Cx} : PGet X (rIxN X.K) := by
  intro pins s σ H o i ov iv Q I ro ri h
  obtain ⟨p, xs, k, z, rfl, rfl, hq, he, q⟩ := h
  cases ro
  obtain ⟨t, rfl⟩ := ri
  obtain ⟨its, r, pl, hz⟩ := I.list hq
  obtain ⟨w, ew, rw'⟩ := r.get he
  have hl := r.length
  have hn := line63
  have hk := (List.getElem?_eq_some_iff.mp he).1
  exact wpAny_getItem_list pl.isList (by omega) (by omega) (by simpa using ew) ⟨z, H, I, rw', q⟩
end Cp

set_option Elab.async false
set_option linter.all false
set_option maxRecDepth 100000
set_option maxHeartbeats 4000000
/-! all(..) and any(..) of a generator expression: any source, any target, any element -/
namespace Gx
open PySem PySem.Spec PyProof.Rows L2 GenW
/-- the element's context: a frame of its own over the def's -/
abbrev gcx (X : Cx) (A : Around) (s : Shared) (H : Hp) (cenv : Env) (fp : List Addr) : Cx :=
  { X with A := A, s_0 := s, H_0 := H, env := cenv, outer := X.stack, stack := cenv :: X.stack, ex := fp, fn := fun _ => false, pn := [], xe := fun _ _ => False }
structure GenK (scope : Scope) : Prop where
  co : scope.isCoroutine = false
  cell : ∀ y ∈ scope.names, y.2 ≠ .cell
  dot : scope.names.lookup (".0" : Str) = some NameKind.local
/-- nothing but the generators' own table has turned -/
structure Kept (s s' : Shared) : Prop where
  os : s'.os = s.os
  bare : AllBare s'.gens
  keep : ∀ b o, s.heap.get? b = some o → s'.heap.get? b = some o
theorem Inv.keptS {X : Cx} {pins : List (Addr × Obj)} {σ : L2.St} {H : Hp} {s s' : Shared} (I : Inv X pins σ H s) (k : Kept s s') : Inv X pins σ H s' :=
  I.call' (ch := []) k.os (Un.kept k.keep) (I.hok.kept k.keep) k.bare fun b z => by simp at z
section
variable {X : Cx} {pins : List (Addr × Obj)} {σ : L2.St} {H : Hp} {s : Shared}
theorem gen_start {scope : Scope} {own : List (Str × Nat)} {fp : List Addr} {code : Value} {A : Around} {s' : Shared} {m : Str → Option Value} (I : Inv X pins σ H s) (ok : BlkOk X.N X.env.scope scope own) (S : GenK scope) (hN : X.N.Nodup) (hfp : ∀ b ∈ fp, FpOk X pins H b ∧ b < s.heap.objs.size)
    (hA : A.handled = none) (hfr : A.frames = some (genEnv scope (cloFrom X.env.cells scope.names []) s.heap.objs.size code builtinsNs X.env :: X.stack))
    (k : Kept s s') (hns : s'.heap.Ns s.heap.objs.size m) :
    Inv (gcx X A s H (genEnv scope (cloFrom X.env.cells scope.names []) s.heap.objs.size code builtinsNs X.env) fp) [] (wipe σ (own.map (·.2))) H s' := by
  have hfree : ∀ y ∈ scope.names, y.2 = .free → ∃ c, X.env.cells.lookup y.1 = some c := fun y hy e => by
    rcases ok.free y hy e with k | k
    · exact I.ok.has _ (.inl k)
    · exact I.ok.has _ (.inr k)
  generalize hcenv : genEnv scope (cloFrom X.env.cells scope.names []) s.heap.objs.size code builtinsNs X.env = cenv at hfr
  have hL : cenv.locals = s.heap.objs.size := by rw [← hcenv]; rfl
  have hcl : cenv.cells = cloFrom X.env.cells scope.names [] := by rw [← hcenv]; rfl
  have hsc : cenv.scope = scope := by rw [← hcenv]; rfl
  have mem : ∀ {y c}, cenv.cells.lookup y = some c → X.env.cells.lookup y = some c ∧ c < s.heap.objs.size := fun {y c} e => by
    rw [hcl] at e
    rcases cloFrom_mem (PySem.mem_of_lookup e) with hm | ⟨h1, rfl⟩
    · cases hm
    · obtain ⟨c, hc⟩ := hfree _ h1 rfl
      rw [hc]
      obtain ⟨w, z⟩ := I.cell _ _ hc
      exact ⟨rfl, z.lt⟩
  have look : ∀ {y}, scope.names.lookup y = some .free → ∃ c, cenv.cells.lookup y = some c ∧ X.env.cells.lookup y = some c := fun {y} hl => by
    have hy : (y, NameKind.free) ∈ scope.names := PySem.mem_of_lookup hl
    obtain ⟨c', e'⟩ := mem_lookup (cloFrom_has (cells := X.env.cells) (acc := []) hy)
    rw [← hcl] at e'
    exact ⟨c', e', (mem e').1⟩
  have okB : (gcx X A s H cenv fp).Ok := by
    refine ⟨I.ok.mod, by show cenv.scope.kind = _; rw [hsc]; exact ok.kind, by show cenv.globals = _; rw [← hcenv]; exact I.ok.glob, by show cenv.builtins = _; rw [← hcenv]; rfl, by show s.heap.objs.size ≤ cenv.locals; rw [hL]; exact Nat.le_refl _,
      fun y z c e1 e2 => I.ok.inj y z c (mem e1).1 (mem e2).1, fun y hy => ?_, (fun y c z e => nomatch z), fun _ => hA, hfr, .inr ⟨rfl, ?_⟩, fun b hb => ⟨?_, fun y c e z => ?_⟩, I.bs, Nat.le_trans I.ok.bsz I.sz, fun b o e hb => ?_, fun b hb z => ?_, I.stack, I.stkFree⟩
    · show ∃ c, cenv.cells.lookup y = some c
      rcases hy with hy | hy
      · have e : scope.names.lookup y = some .cell := by rw [← hsc]; exact hy
        exact absurd rfl (S.cell _ (PySem.mem_of_lookup e))
      · have e : scope.names.lookup y = some .free := by rw [← hsc]; exact hy
        obtain ⟨c, h1, _⟩ := look e
        exact ⟨c, h1⟩
    · show cenv.frame = some cenv.locals
      rw [← hcenv]
      rfl
    · show b ≠ cenv.locals
      rw [hL]; exact Nat.ne_of_lt (hfp b hb).2
    · exact (hfp b hb).1.2.2.2.2.1 y c (mem e).1 z
    · rcases (hfp b hb).1.2.2.2.1 with z | z
      · exact I.ok.noex b o e z
      · exact absurd (Nat.lt_of_lt_of_le (Heap.lt_size e) (Nat.le_trans I.ok.bsz z)) (Nat.lt_irrefl _)
    · rcases List.mem_cons.mp (I.stkSub b z) with z | z
      · exact (hfp b hb).1.2.1 z
      · exact (hfp b hb).1.2.2.1 z
  refine ⟨okB, k.os, k.bare, Un.kept k.keep, ⟨m, ?_, fun i y av e1 e2 e3 => ?_⟩, fun y c e => ?_, ?_, fun y c e => I.freeC y c (mem e).1, fun p hp => ?_, I.hok.kept k.keep, by rw [wipe_length]; exact I.len⟩
  · show Heap.Ns _ cenv.locals _
    rw [hL]
    exact hns
  · obtain ⟨e2, hne⟩ := wipe_some e2
    have hfr : scope.names.lookup y = some .free := by
      have key : ∀ k, scope.names.lookup y = some k → k = .local ∨ k = .cell ∨ k = .free → scope.names.lookup y = some .free := fun k e hk' => by
        have no : ¬ (k = .local ∨ k = .cell) := fun hh => by
          rcases ok.own _ (PySem.mem_of_lookup e) hh with e' | e'
          · obtain ⟨p, hp, hpy⟩ := List.mem_map.mp e'
            have e3 := ok.ix p hp
            have : p.1 = y := hpy
            rw [this] at e3
            exact hne (List.mem_map.mpr ⟨p, hp, nodup_ix hN e3 e1⟩)
          · exact e' (List.mem_of_getElem? e1)
        rcases hk' with rfl | rfl | rfl
        · exact absurd (.inl rfl) no
        · exact absurd (.inr rfl) no
        · exact e
      have e3 : Vis cenv.scope y := e3
      rw [hsc] at e3
      rcases e3 with e3 | e3 | e3
      · exact key _ e3 (.inl rfl)
      · exact key _ e3 (.inr (.inl rfl))
      · exact key _ e3 (.inr (.inr rfl))
    obtain ⟨m2, hn, hl⟩ := I.loc
    have hvis : Vis X.env.scope y := (ok.free _ (PySem.mem_of_lookup hfr) rfl).elim (fun k => .inr (.inl k)) (fun k => .inr (.inr k))
    obtain ⟨w, r, q⟩ := hl i y av e1 e2 hvis
    refine ⟨w, r, .inr ⟨.inr (by show cenv.scope.names.lookup y = _; rw [hsc]; exact hfr), ?_⟩⟩
    obtain ⟨c, h1, h2⟩ := look hfr
    rcases q with ⟨k, _⟩ | ⟨_, c', e', z⟩
    · have k : X.env.scope.names.lookup y = some .local := k
      rcases ok.free _ (PySem.mem_of_lookup hfr) rfl with k' | k' <;> rw [show X.env.scope.names.lookup y = _ from k'] at k <;> cases k
    · rw [h2] at e'; cases e'
      exact ⟨c, h1, z.keeps k.keep⟩
  · obtain ⟨w, z⟩ := I.cell y c (mem e).1
    exact ⟨w, z.keeps k.keep⟩
  · show H cenv.locals = none
    rw [hL]; exact I.hok.fresh (Nat.le_refl _)
  · exact absurd (show p ∈ ([] : List (Addr × Obj)) ++ [] from hp) (by simp)
end
end Gx

set_option Elab.async false
set_option linter.all false
set_option maxRecDepth 100000
set_option maxHeartbeats 4000000
namespace Gx
open PySem PySem.Spec PyProof.Rows L2 GenW
/-- the end of the walk -/
def RG (X : Cx) (pz : List (Addr × Obj)) (σ0 : L2.St) (QT : Hp → Prop) : GenEnd := fun _ _ r s₁ => ((r = .ok (.ret .none) ∨ r = .ok .next) ∧ ∃ H', Inv X pz σ0 H' s₁ ∧ QT H') ∨ ∃ e, r = .error e ∧ False
/-- a truth is handed out: by d it goes on -/
def YG (X : Cx) (pz : List (Addr × Obj)) (d : Bool) (QF : Hp → Prop) : Protocol := fun _ _ v s kap => ∃ (c : Bool) (σ' : L2.St) (H' : Hp), v = .bool c ∧ Inv X pz σ' H' s ∧ (if c = d then ∀ s', Kept s s' → kap (.send .none) s' else QF H')
/-- the source's turns, the target, the tests, the element -/
def Turns (J : It) (g : TG) (tt : TT) (te : TE) (vs : List Nat) (σ : L2.St) (d : Bool) (QT QF : Hp → Prop) (W : Nat → Nat → Hp → Prop) : Prop := ∀ i m H, W i m H →
  (J.stop i H ∧ QT H) ∨ (J.go i H ∧ ∃ Nx : Hp → Prop, (∀ H', Nx H' → ∃ m', m' < m ∧ W (i + 1) m' H') ∧ ∀ x H', J.yld i H x H' → g x (wipe σ vs) H' fun σ2 H2 => wipe σ2 vs = wipe σ vs ∧ tt σ2 H2 fun b H3 =>
    if b = true then te σ2 H3 fun y H4 => ∃ c, y = .bl c ∧ (if c = d then Nx H4 else QF H4) else Nx H3)
section
variable {X : Cx} {A B : Around} {s3 : Shared} {H3 : Hp} {cenv : Env} {fp : List Addr} {σ : L2.St}
theorem seg_loop {elt tg iter : Expr} {ifs : List Expr} {scope : Scope} {pos : Pos} {it : Addr} {J : It} {tn : Nat → Heap → Prop} {g : TG} {tt : TT} {te : TE} {vs : List Nat} {d : Bool} {QT QF : Hp → Prop} {W : Nat → Nat → Hp → Prop} {pz : List (Addr × Obj)}
    (T : Turn X.prog X.w X.K tg J fp it tn) (hc : X.calm = true) (hov : B.over (.compLoop (.GeneratorExp elt [⟨tg, iter, ifs, 0⟩] scope pos) 0 (.ref it) .none cenv) [] = A) (hco : cenv.scope.isCoroutine = false) (hpz : ∀ p ∈ pz, p.1 ∉ fp)
    (pg : PG (gcx X A s3 H3 cenv fp) tg g) (pt : PTs (gcx X A s3 H3 cenv fp) ifs tt) (pe : PE (gcx X A s3 H3 cenv fp) elt te) (turn : Turns J g tt te vs σ d QT QF W) :
    ∀ (m n i : Nat) (s₀ s : Shared) (H : Hp), m < n → Inv (gcx X A s3 H3 cenv fp) pz (wipe σ vs) H s → tn i s.heap → (∀ b ∈ fp, H b = none) → W i m H →
      Seg (model X.prog X.w) B (RG (gcx X A s3 H3 cenv fp) pz (wipe σ vs) QT) (YG (gcx X A s3 H3 cenv fp) pz d QF) n s₀
        (.compLoop (.GeneratorExp elt [⟨tg, iter, ifs, 0⟩] scope pos) 0 (.ref it) .none cenv)
        ((model X.prog X.w).den (.compLoop (.GeneratorExp elt [⟨tg, iter, ifs, 0⟩] scope pos) 0 (.ref it) .none cenv)) [] s := by
  have stat : ∀ {σ' : L2.St} {H' : Hp} {s' : Shared}, Inv (gcx X A s3 H3 cenv fp) pz σ' H' s' → (∀ b ∈ fp, H' b = none) → ∀ b ∈ fp, FpOk (gcx X A s3 H3 cenv fp) pz H' b := fun {σ' H' s'} I' hn b hb =>
    ⟨hn b hb, (I'.ok.exf b hb).1, I'.ok.exfs b hb, .inl hb, fun x c e => (I'.ok.exf b hb).2 x c e, fun p hp z => hpz p (by simpa using hp) (by rw [z]; exact hb)⟩
  intro m
  induction m using Nat.strongRecOn with
  | ind m ih =>
    intro n i s₀ s H hmn I st nf w
    show Seg _ B _ _ _ s₀ _ ((compTurn (.GeneratorExp elt [⟨tg, iter, ifs, 0⟩] scope pos) 0 (.ref it) .none cenv).onRaise (leaving cenv)) [] s
    rw [compTurn_gen, Sem.onRaise_eq_wrap]
    refine seg_bind_wrap (wpAny_standAt ?_)
    rcases turn i m H w with ⟨stop, qq⟩ | ⟨go, Nx, hNx, step⟩
    · refine seg_bind_wrap ?_
      rw [hov]
      refine wpAny_mono (T.done (gcx X A s3 H3 cenv fp) rfl rfl rfl hc i pz s _ H (fun _ _ => False) I (stat I nf) st stop) (fun r s6 hx => ?_) fun _ _ e => e.elim
      obtain ⟨rfl, I6⟩ := hx
      exact seg_end (.ok .next) (.inl ⟨.inr rfl, H, I6, qq⟩)
    · refine seg_bind_wrap ?_
      rw [hov]
      refine wpAny_mono (T.item (gcx X A s3 H3 cenv fp) rfl rfl rfl hc i pz s _ H (fun _ _ => False) I (stat I nf) st go) (fun r s6 hx => ?_) fun _ _ e => e.elim
      obtain ⟨u, rfl, h6⟩ := hx
      refine seg_bind_wrap ?_
      rw [hov]
      refine wpAny_mono h6 (fun _ s7 hx => ?_) fun _ _ e => e.elim
      obtain ⟨x, H7, I7, r7, y7, st7, n7⟩ := hx
      have I7' := I7.pinned (stat I7 n7) (T.obj _ _ st7)
      refine seg_bind_wrap ?_
      rw [hov]
      refine wpAny_mono (pg.run _ s7 _ H7 x u _ I7' r7 (step x H7 y7)) (fun _ s8 hx => ?_) fun _ _ e => e.elim
      obtain ⟨σ8, H8, I8, hw8, q8⟩ := hx
      refine seg_bind_wrap ?_
      rw [hov]
      refine wpAny_mono (pt.run _ s8 σ8 H8 _ I8 q8) (fun b s9 hx => ?_) fun _ _ e => e.elim
      obtain ⟨H9, I9, q9⟩ := hx
      -- the turn's end
      have fin : ∀ {s' : Shared} {H' : Hp} {m' : Nat}, Inv (gcx X A s3 H3 cenv fp) (pz ++ pinsAt fp s7.heap) σ8 H' s' → Inv (gcx X A s3 H3 cenv fp) pz (wipe σ vs) H' s' ∧ tn (i + 1) s'.heap ∧ ∀ b ∈ fp, H' b = none := fun {s' H' m'} I' => by
        have pin' : ∀ b ∈ fp, ∀ o, s7.heap.get? b = some o → s'.heap.get? b = some o ∧ H' b = none := fun b hb o e =>
          let z := I'.pin (b, o) (List.mem_append_right _ (List.mem_append_right _ (mem_pinsAt hb e)))
          ⟨z.1, z.2.1⟩
        have hl : (wipe σ vs).length = σ8.length := by rw [← hw8, wipe_length]
        refine ⟨(I'.unpinned (pins := pz)).weak hl (fun j v e => ?_), T.keep _ _ _ st7 fun b hb o e => (pin' b hb o e).1, fun b hb => ?_⟩
        · rw [← hw8] at e
          exact (wipe_some e).1
        · obtain ⟨o, e, _⟩ := T.obj _ _ st7 b hb
          exact (pin' b hb o e).2
      cases b with
      | false =>
        simp only [Bool.false_eq_true, if_false] at q9 ⊢
        obtain ⟨m', hm, w'⟩ := hNx H9 q9
        obtain ⟨f1, f2, f3⟩ := fin (m' := m') I9
        exact seg_again rfl (ih m' hm n (i + 1) s₀ _ H9 (by omega) f1 f2 f3 w')
      | true =>
        simp only [if_true] at q9 ⊢
        have hy : ∀ v, yieldOut cenv v = yieldValue v := fun v => by simp only [yieldOut, hco, Bool.false_eq_true, if_false]
        simp only [hy]
        rw [Sem.bind_eq_wrap', Sem.bind_eq_wrap', Sem.wrap_wrap, Sem.wrap_wrap]
        refine seg_wrap ?_
        rw [hov]
        refine wpAny_mono (pe.run _ s9 σ8 H9 _ I9 q9) (fun z s10 hx => ?_) fun _ _ e => e.elim
        obtain ⟨yv, H10, I10, r10, c, rfl, nx⟩ := hx
        cases (show z = Value.bool c from r10)
        obtain ⟨n, rfl⟩ : ∃ n', n = n' + 1 := ⟨n - 1, by omega⟩
        refine seg_at (seg_yield rfl rfl rfl ⟨c, σ8, H10, rfl, I10.unpinned, ?_⟩)
        by_cases hcd : c = d
        · rw [if_pos hcd] at nx ⊢
          intro s'' hk
          obtain ⟨m', hm, w'⟩ := hNx H10 nx
          obtain ⟨f1, f2, f3⟩ := fin (m' := m') (Inv.keptS I10 hk)
          exact seg_again rfl (ih m' hm n (i + 1) s'' s'' H10 (by omega) f1 f2 f3 w')
        · rw [if_neg hcd] at nx ⊢
          exact nx
theorem seg_start {elt tg iter : Expr} {ifs : List Expr} {scope : Scope} {pos : Pos} {it : Addr} {J : It} {tn : Nat → Heap → Prop} {R : GenEnd} {Y : Protocol} {n : Nat} {s₀ s : Shared}
    (T : Turn X.prog X.w X.K tg J fp it tn) (st : tn 0 s.heap)
    (loop : Seg (model X.prog X.w) B R Y n s₀ (.compLoop (.GeneratorExp elt [⟨tg, iter, ifs, 0⟩] scope pos) 0 (.ref it) .none cenv) ((model X.prog X.w).den (.compLoop (.GeneratorExp elt [⟨tg, iter, ifs, 0⟩] scope pos) 0 (.ref it) .none cenv)) [] s) :
    Seg (model X.prog X.w) B R Y n s₀ (.compStart (.GeneratorExp elt [⟨tg, iter, ifs, 0⟩] scope pos) 0 (.ref it) .none cenv) ((model X.prog X.w).den (.compStart (.GeneratorExp elt [⟨tg, iter, ifs, 0⟩] scope pos) 0 (.ref it) .none cenv)) [] s := by
  show Seg _ B _ _ _ s₀ _ ((compStart (.GeneratorExp elt [⟨tg, iter, ifs, 0⟩] scope pos) 0 (.ref it) .none cenv).onRaise (leaving cenv)) [] s
  unfold compStart
  rw [Sem.onRaise_eq_wrap]
  show Seg _ B _ _ _ s₀ _ ((ask >>= _).wrap _ _ _ _) [] s
  refine seg_bind_wrap (wpAny_askSetting ?_)
  split
  · exact seg_again rfl loop
  · first
      | exact seg_bind_wrap (wpAny_rule (seg_bind_wrap (wpAny_standAt (seg_bind_wrap (T.self _ 0 s _ _ st (seg_again rfl loop))))))
      | (refine seg_bind_wrap (wpAny_rule ?_); show Seg _ B _ _ _ s₀ _ ((standAt iter.pos >>= _).wrap _ _ _ _) [] s; exact seg_bind_wrap (wpAny_standAt (seg_bind_wrap (T.self _ 0 s _ _ st (seg_again rfl loop)))))
end
/-- the consumer: all's loop by d = true, any's by d = false -/
def loopId (d : Bool) : String := if d then "all.loop" else "any.loop"
theorem walk_loop {X : Cx} {pz : List (Addr × Obj)} {σ0 : L2.St} {QT QF : Hp → Prop} {A : Around} {a : Addr} {g : Nat} {go : Obj} (d : Bool) {R : Result → Shared → Prop} (hpz : (a, go) ∈ pz) (hgo : ∀ h : Heap, h.get? a = some go → h.IsGen a g)
    (hh : A.handled = none) (hd : A.depth < recursionLimit)
    (hT : ∀ H' s1 s', Inv X pz σ0 H' s1 → QT H' → Kept s1 s' → R (.ok (.ret (.bool d))) s') (hF : ∀ σ' H' s1 s', Inv X pz σ' H' s1 → QF H' → Kept s1 s' → R (.ok (.ret (.bool (!d)))) s') :
    ∀ (n : Nat) (s : Shared), s.heap.IsGen a g → s.heap.NoLimit →
      (∃ gs, s.gens[g]? = some gs ∧ gs.Goes (model X.prog X.w) A.in1.in1 (RG X pz σ0 QT) (YG X pz d QF) n (.send .none) (s.setGen g .running)) →
      codeAny (model X.prog X.w) A (.builtin (loopId d) ⟨[.ref a], []⟩) R s := by
  intro n
  induction n with
  | zero =>
    intro s hg hl ⟨gs, hgs, hgo'⟩
    cases d
    · show codeAny (model X.prog X.w) A (.builtin "any.loop" ⟨[.ref a], []⟩) R s
      refine codeAny_builtin F.entry_any_loop ?_
      rw [Around.under_plainId F.plain_any_loop _]
      show wpAny _ A.in1 (pyNext (.ref a) >>= _) _ _ s
      refine wpAny_bind (next_genG (A := A.in1) (Er := fun _ _ => False) hh hl hd hg hgs hgo' (fun v s₁ gs' hbare hv => ?_) (fun s₁ hp h' hk => ?_) fun e s₁ he => he.elim)
      · obtain ⟨c, σ', H', rfl, I, hq⟩ := hv
        by_cases hcd : c = false
        · rw [if_pos hcd] at hq
          exact (hq s₁ ⟨rfl, I.bare, fun _ _ e => e⟩).elim
        · rw [if_neg hcd] at hq
          have hc : c = true := by cases c <;> simp at hcd ⊢
          subst hc
          refine wpAny_bind (wpAny_holding (wpAny_truthy_bool ?_))
          refine wpAny_bind (wpAny_letGo ?_)
          simp only [if_true]
          refine wpAny_bind (wpAny_rule (wpAny_pure ?_))
          exact hF σ' H' s₁ _ I hq ⟨rfl, allBare_setGen I.bare hbare, fun _ _ e => e⟩
      · obtain ⟨H', I, q⟩ := hp
        refine wpAny_bind (wpAny_rule (wpAny_pure ?_))
        exact hT H' s₁ _ I q ⟨rfl, allBare_setGen I.bare rfl, hk⟩
    · show codeAny (model X.prog X.w) A (.builtin "all.loop" ⟨[.ref a], []⟩) R s
      refine codeAny_builtin F.entry_all_loop ?_
      rw [Around.under_plainId F.plain_all_loop _]
      show wpAny _ A.in1 (pyNext (.ref a) >>= _) _ _ s
      refine wpAny_bind (next_genG (A := A.in1) (Er := fun _ _ => False) hh hl hd hg hgs hgo' (fun v s₁ gs' hbare hv => ?_) (fun s₁ hp h' hk => ?_) fun e s₁ he => he.elim)
      · obtain ⟨c, σ', H', rfl, I, hq⟩ := hv
        by_cases hcd : c = true
        · rw [if_pos hcd] at hq
          exact (hq s₁ ⟨rfl, I.bare, fun _ _ e => e⟩).elim
        · rw [if_neg hcd] at hq
          have hc : c = false := by cases c <;> simp at hcd ⊢
          subst hc
          refine wpAny_bind (wpAny_holding (wpAny_truthy_bool ?_))
          refine wpAny_bind (wpAny_letGo ?_)
          simp only [Bool.false_eq_true, if_false]
          refine wpAny_bind (wpAny_rule (wpAny_pure ?_))
          exact hF σ' H' s₁ _ I hq ⟨rfl, allBare_setGen I.bare hbare, fun _ _ e => e⟩
      · obtain ⟨H', I, q⟩ := hp
        refine wpAny_bind (wpAny_rule (wpAny_pure ?_))
        exact hT H' s₁ _ I q ⟨rfl, allBare_setGen I.bare rfl, hk⟩
  | succ n ih =>
    intro s hg hl ⟨gs, hgs, hgo'⟩
    have hgl : g < s.gens.size := (Array.getElem?_eq_some_iff.mp hgs).1
    have again : ∀ (σ' : L2.St) (H' : Hp) (s₁ : Shared) (gs' : GenState), gs'.bare = true → Inv X pz σ' H' s₁ → g + 1 ≤ (s₁.setGen g gs').gens.size → (∀ s', Kept s₁ s' → gs'.Goes (model X.prog X.w) A.in1.in1 (RG X pz σ0 QT) (YG X pz d QF) n (.send .none) s') →
        codeAny (model X.prog X.w) A (.builtin (loopId d) ⟨[.ref a], []⟩) R (s₁.setGen g gs') := fun σ' H' s₁ gs' hbare I hsz hq => by
      have hsz1 : g < s₁.gens.size := by
        have q : (s₁.setGen g gs').gens.size = s₁.gens.size := setGen_size _ _ _
        omega
      refine ih (s₁.setGen g gs') (hgo _ (I.pin (a, go) (List.mem_append_right _ hpz)).1) I.nolimit ⟨gs', setGen_at hsz1, hq _ ⟨rfl, allBare_setGen (s := s₁.setGen g gs') (allBare_setGen I.bare hbare) rfl, fun _ _ e => e⟩⟩
    cases d
    · show codeAny (model X.prog X.w) A (.builtin "any.loop" ⟨[.ref a], []⟩) R s
      refine codeAny_builtin F.entry_any_loop ?_
      rw [Around.under_plainId F.plain_any_loop _]
      show wpAny _ A.in1 (pyNext (.ref a) >>= _) _ _ s
      refine wpAny_bind (wpAny_gsz (n := g + 1) hgl (next_genG (A := A.in1) (Er := fun _ _ => False) hh hl hd hg hgs hgo' (fun v s₁ gs' hbare hv => ?_) (fun s₁ hp h' hk => ?_) fun e s₁ he => he.elim))
      · intro hsz
        obtain ⟨c, σ', H', rfl, I, hq⟩ := hv
        refine wpAny_bind (wpAny_holding (wpAny_truthy_bool ?_))
        refine wpAny_bind (wpAny_letGo ?_)
        cases c with
        | false =>
          rw [if_pos rfl] at hq
          simp only [Bool.false_eq_true, if_false]
          exact wpAny_pure ⟨plainId_quiet F.plain_any_loop _, again σ' H' s₁ gs' hbare I hsz hq⟩
        | true =>
          rw [if_neg (by decide)] at hq
          simp only [if_true]
          refine wpAny_bind (wpAny_rule (wpAny_pure ?_))
          exact hF σ' H' s₁ _ I hq ⟨rfl, allBare_setGen I.bare hbare, fun _ _ e => e⟩
      · intro hsz
        obtain ⟨H', I, q⟩ := hp
        refine wpAny_bind (wpAny_rule (wpAny_pure ?_))
        exact hT H' s₁ _ I q ⟨rfl, allBare_setGen I.bare rfl, hk⟩
    · show codeAny (model X.prog X.w) A (.builtin "all.loop" ⟨[.ref a], []⟩) R s
      refine codeAny_builtin F.entry_all_loop ?_
      rw [Around.under_plainId F.plain_all_loop _]
      show wpAny _ A.in1 (pyNext (.ref a) >>= _) _ _ s
      refine wpAny_bind (wpAny_gsz (n := g + 1) hgl (next_genG (A := A.in1) (Er := fun _ _ => False) hh hl hd hg hgs hgo' (fun v s₁ gs' hbare hv => ?_) (fun s₁ hp h' hk => ?_) fun e s₁ he => he.elim))
      · intro hsz
        obtain ⟨c, σ', H', rfl, I, hq⟩ := hv
        refine wpAny_bind (wpAny_holding (wpAny_truthy_bool ?_))
        refine wpAny_bind (wpAny_letGo ?_)
        cases c with
        | true =>
          rw [if_pos rfl] at hq
          simp only [if_true]
          exact wpAny_pure ⟨plainId_quiet F.plain_all_loop _, again σ' H' s₁ gs' hbare I hsz hq⟩
        | false =>
          rw [if_neg (by decide)] at hq
          simp only [Bool.false_eq_true, if_false]
          refine wpAny_bind (wpAny_rule (wpAny_pure ?_))
          exact hF σ' H' s₁ _ I hq ⟨rfl, allBare_setGen I.bare hbare, fun _ _ e => e⟩
      · intro hsz
        obtain ⟨H', I, q⟩ := hp
        refine wpAny_bind (wpAny_rule (wpAny_pure ?_))
        exact hT H' s₁ _ I q ⟨rfl, allBare_setGen I.bare rfl, hk⟩
end Gx

set_option Elab.async false
set_option linter.all false
set_option maxRecDepth 100000
set_option maxHeartbeats 4000000
namespace Gx
open PySem PySem.Spec PyProof.Rows L2 GenW
theorem over_gen {B : Around} {elt : Expr} {gens : List Comprehension} {scope : Scope} {pos : Pos} {it acc : Value} {env : Env} {st : List Env} (h : B.frames = some st) :
    (B.over (.compLoop (.GeneratorExp elt gens scope pos) 0 it acc env) []).frames = some (env :: st) := by
  have e1 : (B.over (.compLoop (.GeneratorExp elt gens scope pos) 0 it acc env) []).frames = pushEnvs (Code.envs (.compLoop (.GeneratorExp elt gens scope pos) 0 it acc env)) (pushEnvs (envsOf (([] : List Frame).map Frame.where_)) B.frames) := rfl
  rw [e1, h]
  rfl
/-- the reading: by d the walk goes on -/
def tQX (d : Bool) (wi : TI) (g : TG) (tt : TT) (te : TE) (vs : List Nat) (P : Addr) : TE := fun σ H Q => wi σ H fun J H1 => GxR.TabG H1 P ∧ ∀ H2, GxR.Tabbed P H1 H2 → ∃ W : Nat → Nat → Hp → Prop, (∃ m, W 0 m H2) ∧
  Turns J g tt te vs σ d (fun H => Q (.bl d) H) (fun H => Q (.bl (!d)) H) W
section
variable {X : Cx} {pins : List (Addr × Obj)} {σ : L2.St} {H : Hp} {s : Shared}
theorem gen_core {c P : Addr} {elt tg iter : Expr} {ifs : List Expr} {gpos : Pos} {scope : Scope} {own : List (Str × Nat)} {wi : TI} {g : TG} {tt : TT} {te : TE} {k : Nat} {d : Bool} {Q : VK}
    (hr : Room (k + 1) X.A) (hc : X.calm = true) (hN : X.N.Nodup) (TB : GxR.TabB X.base X.mg c P) (hcode : X.env.code = .ref c) (ok : BlkOk X.N X.env.scope scope own) (S : GenK scope) (hi : PI X tg iter wi) (hs : ∀ v, genFold iter X.env v = pure v)
    (hg : ∀ (A : Around) (s : Shared) (H : Hp) (C : Addr) (code : Value) (fp : List Addr), Room k A → PG (gcx X A s H (genEnv scope (cloFrom X.env.cells scope.names []) C code builtinsNs X.env) fp) tg g)
    (ht : ∀ (A : Around) (s : Shared) (H : Hp) (C : Addr) (code : Value) (fp : List Addr), Room k A → PTs (gcx X A s H (genEnv scope (cloFrom X.env.cells scope.names []) C code builtinsNs X.env) fp) ifs tt)
    (he : ∀ (A : Around) (s : Shared) (H : Hp) (C : Addr) (code : Value) (fp : List Addr), Room k A → PE (gcx X A s H (genEnv scope (cloFrom X.env.cells scope.names []) C code builtinsNs X.env) fp) elt te)
    (I : Inv X pins σ H s) (h : tQX d wi g tt te (own.map (·.2)) P σ H Q) :
    wpAny (model X.prog X.w) X.A (eval (.GeneratorExp elt [⟨tg, iter, ifs, 0⟩] scope gpos) X.env) (fun v s5 => ∃ (a : Addr) (gn : Nat), v = .ref a ∧ s5.heap.IsGen a gn ∧
      codeAny (model X.prog X.w) X.A (.builtin (loopId d) ⟨[.ref a], []⟩) (fun r s' => ∃ b, r = .ok (.ret (.bool b)) ∧ EP X pins σ Q (.bool b) s') s5) X.xe s := by
  have hfree : ∀ y ∈ scope.names, y.2 = .free → ∃ c, X.env.cells.lookup y.1 = some c := fun y hy e => by
    rcases ok.free y hy e with k | k
    · exact I.ok.has _ (.inl k)
    · exact I.ok.has _ (.inr k)
  refine wpAny_GeneratorExp_make S.co (closure_ok hfree) S.cell S.dot ok.kind hr.depth (wpAny_mono (hi.run pins s σ H _ I h) (fun xv s1 h1 => wpAny_mono h1 (fun itv s2 h2 => ?_) fun _ _ e => e) fun _ _ e => e) hs
  obtain ⟨it, fp, tn, J, H1, rfl, I2, T, st2, f2, ⟨ps, hP, htr⟩, hW⟩ := h2
  refine ⟨I2.nolimit, ?_⟩
  have tabS : s2.heap.get? P = some { cls := .none, data := .fields ps } := I2.hok P _ hP
  have hd : PySem.W.CodeHd s2.heap c P := TB.code.keeps fun b u e => I2.bk b u e
  have key : ∀ (REST : Value → Shared → Prop), (∀ (cv : Value) (h3 : Heap) (tk : Nat) (more : Array Value), Heap.ExtBut P s2.heap h3 → s2.heap.objs.size ≤ h3.objs.size → h3.get? P = some { cls := .none, data := .fields (ps ++ more) } → TriplesOk (ps ++ more).toList → REST cv { s2 with heap := h3, toks := tk }) →
      wpAny (model X.prog X.w) X.A (genexprCode X.env gpos (X.env.qual ++ "<genexpr>") scope) REST X.xe s2 := fun REST fin => by
    cases hf : codeAmong gpos ps.toList with
    | some cv =>
      have e : ps = ps ++ #[] := by simp
      exact wpAny_genexprCode_hit hcode (hd.code tabS htr) hf (fin cv _ s2.toks #[] (Heap.ExtBut.refl _ _) (Nat.le_refl _) (e ▸ tabS) (e ▸ htr))
    | none =>
      refine wpAny_genexprCodeX hcode (hd.code tabS htr) (hd.tab tabS) hf fun c' h3 tk ex ge lt ic _ ta _ => ?_
      obtain ⟨_, _, _, _, _, _, _, _, _, _, _, _, _, _, _, _, _, _, _, tr, _⟩ := ic
      exact fin _ h3 tk _ ex (Nat.le_trans ge (Nat.le_of_lt lt)) ta.2 tr
  refine key _ fun cv h3 tk more ex ge tab3 tr3 => ?_
  obtain ⟨bm, ob, b1, b2, b3, b4, b5, b6, b7, b8⟩ := TB.bm
  refine wpAny_builtinsFor (m := X.mg) (by rw [I2.ok.glob]; exact (I2.mod.glob.keeps I2.bk).extBut ex TB.gP) b1 b2 (ex _ _ b4 (I2.bk _ _ b5)) b6 b7 b8 ?_
  intro h' hn' hs'
  generalize hs3 : ({ s2 with heap := h3, toks := tk } : Shared) = s3 at hn' hs' ⊢
  have e3 : s3.heap = h3 := by rw [← hs3]
  have I3 : Inv X pins σ (upd H1 P (.tbl (ps ++ more))) s3 := by
    rw [← hs3]
    exact GxR.inv_tab (more := more) (h' := h3) (g' := s2.gens) (d' := s2.drawn) (t' := tk) I2 hP (fun b o n e => ex b o n e) tab3 I2.bare
  obtain ⟨W, ⟨m0, w0⟩, turn⟩ := hW _ ⟨⟨ps ++ more, upd_same, tr3⟩, fun b hb => upd_ne hb⟩
  have neP : ∀ b ∈ fp, b ≠ P := fun b hb z => by
    have := (f2 b hb).1
    rw [z, hP] at this
    cases this
  have f3 : ∀ b ∈ fp, FpOk X pins (upd H1 P (.tbl (ps ++ more))) b ∧ b < s3.heap.objs.size := fun b hb => by
    obtain ⟨o, e, _⟩ := T.obj _ _ st2 b hb
    refine ⟨⟨?_, (f2 b hb).2⟩, by rw [e3]; exact Nat.lt_of_lt_of_le (Heap.lt_size e) ge⟩
    rw [upd_ne (neP b hb)]
    exact (f2 b hb).1
  have st3 : tn 0 s3.heap := T.keep _ _ _ st2 fun b hb o e => by rw [e3]; exact ex b o (neP b hb) e
  generalize hH3 : upd H1 P (.tbl (ps ++ more)) = H3 at I3 w0 f3
  have nf : ∀ b ∈ fp, H3 b = none := fun b hb => (f3 b hb).1.1
  -- the generator's object
  generalize hgo : ({ cls := .type "generator", data := .fields #[.int s3.gens.size 0, .str "<genexpr>" (s3.toks + 1), .str (X.env.qual ++ "<genexpr>") (s3.toks + 1 + 1)] } : Obj) = go
  have sz' : h'.objs.size = s3.heap.objs.size + 1 := by rw [hs'.1, Heap.size_push]
  generalize hs5 : ({ s3 with gens := s3.gens.push (.fresh (.compStart (.GeneratorExp elt [⟨tg, iter, ifs, 0⟩] scope gpos) 0 (.ref it) .none (genEnv scope (cloFrom X.env.cells scope.names []) s3.heap.objs.size cv builtinsNs X.env))), toks := s3.toks + 1 + 1 + 1, heap := h'.push go } : Shared) = s5
  have h5 : s5.heap = h'.push go := by rw [← hs5]
  have kp : Kept s3 s5 := by
    refine ⟨by rw [← hs5], by rw [← hs5]; exact AllBare.push I3.bare rfl, fun b o e => ?_⟩
    rw [h5]
    exact Heap.get?_push_of_some _ (hs'.extBut b o (Nat.ne_of_lt (Heap.lt_size e)) (Heap.get?_push_of_some _ e))
  have hga : s5.heap.get? h'.objs.size = some go := by rw [h5, ← hgo]; exact Heap.get?_push_size _ rfl
  have isg : ∀ h : Heap, h.get? h'.objs.size = some go → h.IsGen h'.objs.size s3.gens.size := fun h e => ⟨go, _, _, e, by rw [← hgo], by rw [← hgo], by rw [← hgo]⟩
  have hgs : s5.gens[s3.gens.size]? = some (.fresh (.compStart (.GeneratorExp elt [⟨tg, iter, ifs, 0⟩] scope gpos) 0 (.ref it) .none (genEnv scope (cloFrom X.env.cells scope.names []) s3.heap.objs.size cv builtinsNs X.env))) := by
    rw [← hs5]
    exact Array.getElem?_push_size ..
  have hns : s5.heap.Ns s3.heap.objs.size (fun y => if y = ".0" then some (.ref it) else none) := by rw [h5]; exact hn'.push _
  have hfrX : X.A.frames = some X.stack := I3.ok.frames
  have rm : Room k (X.A.in1.in1.over (.compLoop (.GeneratorExp elt [⟨tg, iter, ifs, 0⟩] scope gpos) 0 (.ref it) .none (genEnv scope (cloFrom X.env.cells scope.names []) s3.heap.objs.size cv builtinsNs X.env)) []) := by
    have h1 := hr.dp
    have h2 := hr.un
    refine ⟨hr.hd, ?_, ?_⟩
    · show X.A.depth + 0 + 1 + 3 * k + 5 < _
      omega
    · show X.A.units + 1 + 1 + 0 + 3 + 16 * k + 200 < _
      omega
  have Ig := gen_start I3 ok S hN f3 rm.hd (over_gen (show X.A.in1.in1.frames = some X.stack from hfrX)) kp hns
  have aC : h'.objs.size ≠ s3.heap.objs.size := by omega
  have Ig2 : Inv (gcx X (X.A.in1.in1.over (.compLoop (.GeneratorExp elt [⟨tg, iter, ifs, 0⟩] scope gpos) 0 (.ref it) .none (genEnv scope (cloFrom X.env.cells scope.names []) s3.heap.objs.size cv builtinsNs X.env)) []) s3 H3 (genEnv scope (cloFrom X.env.cells scope.names []) s3.heap.objs.size cv builtinsNs X.env) fp) [(h'.objs.size, go)] (wipe σ (own.map (·.2))) H3 s5 := by
    refine Ig.pins_of fun p hp => ?_
    rw [List.mem_singleton.mp hp]
    refine ⟨hga, I3.hok.fresh (by omega), aC, fun z => ?_, fun v q => by rw [← hgo] at q; cases q⟩
    rcases List.mem_cons.mp (I3.stkSub _ z) with z | z
    · have z : h'.objs.size = X.env.locals := z
      have q : h'.objs.size < s3.heap.objs.size := by rw [z]; exact I3.lt
      omega
    · exact I3.nofs (by omega) z
  have hpz : ∀ p ∈ [(h'.objs.size, go)], p.1 ∉ fp := fun p hp z => by
    rw [List.mem_singleton.mp hp] at z
    have q : h'.objs.size < s3.heap.objs.size := (f3 _ z).2
    omega
  have back : ∀ (σ' : L2.St) (H' : Hp) (s1 s' : Shared), Inv (gcx X (X.A.in1.in1.over (.compLoop (.GeneratorExp elt [⟨tg, iter, ifs, 0⟩] scope gpos) 0 (.ref it) .none (genEnv scope (cloFrom X.env.cells scope.names []) s3.heap.objs.size cv builtinsNs X.env)) []) s3 H3 (genEnv scope (cloFrom X.env.cells scope.names []) s3.heap.objs.size cv builtinsNs X.env) fp) [(h'.objs.size, go)] σ' H' s1 → Kept s1 s' → Inv X pins σ H' s' := fun σ' H' s1 s' J1 k1 => by
    have J := Inv.keptS J1 k1
    exact I3.call' (ch := fp) J.os J.base J.hok J.bare fun b hb => ⟨(f3 b hb).1.2.2.2.1, (f3 b hb).1.2.1, (f3 b hb).1.2.2.2.2.1, (f3 b hb).1.2.2.2.2.2⟩
  refine ⟨_, s3.gens.size, rfl, isg _ hga, walk_loop (X := gcx X (X.A.in1.in1.over (.compLoop (.GeneratorExp elt [⟨tg, iter, ifs, 0⟩] scope gpos) 0 (.ref it) .none (genEnv scope (cloFrom X.env.cells scope.names []) s3.heap.objs.size cv builtinsNs X.env)) []) s3 H3 (genEnv scope (cloFrom X.env.cells scope.names []) s3.heap.objs.size cv builtinsNs X.env) fp) (pz := [(h'.objs.size, go)]) (σ0 := wipe σ (own.map (·.2))) (QT := fun H => Q (.bl d) H) (QF := fun H => Q (.bl (!d)) H) d (List.mem_singleton.mpr rfl) isg hr.hd hr.depth (fun H' s1 s' J1 q k1 => ⟨d, rfl, .bl d, H', back _ H' s1 s' J1 k1, rfl, q⟩) (fun σ' H' s1 s' J1 q k1 => ⟨!d, rfl, .bl (!d), H', back σ' H' s1 s' J1 k1, rfl, q⟩) (m0 + 1) s5 (isg _ hga) Ig2.nolimit ⟨_, hgs, rfl, ?_⟩⟩
  have k6 : Kept s5 (s5.setGen s3.gens.size .running) := ⟨rfl, allBare_setGen kp.bare rfl, fun _ _ e => e⟩
  have st5 : tn 0 (s5.setGen s3.gens.size .running).heap := T.keep _ _ _ st3 fun b hb o e => kp.keep b o e
  exact seg_start T st5 (seg_loop T hc rfl S.co hpz (hg _ _ _ _ _ _ rm) (ht _ _ _ _ _ _ rm) (he _ _ _ _ _ _ rm) turn m0 (m0 + 1) 0 _ _ H3 (Nat.lt_succ_self _) (Inv.keptS Ig2 k6) st5 nf w0)
theorem pe_allX {c P : Addr} {elt tg iter : Expr} {ifs : List Expr} {gpos p pos : Pos} {scope : Scope} {own : List (Str × Nat)} {wi : TI} {g : TG} {tt : TT} {te : TE} {k : Nat}
    (hr : Room (k + 1) X.A) (hgl : Gl X "all") (hm : X.mg "all" = none) (hc : X.calm = true) (hN : X.N.Nodup) (TB : GxR.TabB X.base X.mg c P) (hcode : X.env.code = .ref c) (ok : BlkOk X.N X.env.scope scope own) (S : GenK scope) (hi : PI X tg iter wi)
    (hg : ∀ (A : Around) (s : Shared) (H : Hp) (C : Addr) (code : Value) (fp : List Addr), Room k A → PG (gcx X A s H (genEnv scope (cloFrom X.env.cells scope.names []) C code builtinsNs X.env) fp) tg g)
    (ht : ∀ (A : Around) (s : Shared) (H : Hp) (C : Addr) (code : Value) (fp : List Addr), Room k A → PTs (gcx X A s H (genEnv scope (cloFrom X.env.cells scope.names []) C code builtinsNs X.env) fp) ifs tt)
    (he : ∀ (A : Around) (s : Shared) (H : Hp) (C : Addr) (code : Value) (fp : List Addr), Room k A → PE (gcx X A s H (genEnv scope (cloFrom X.env.cells scope.names []) C code builtinsNs X.env) fp) elt te)
    (hs : ∀ v, genFold iter X.env v = pure v := by intro _; rfl)
    (hst : starEach [.GeneratorExp elt [⟨tg, iter, ifs, 0⟩] scope gpos] X.env = (false, eval (.GeneratorExp elt [⟨tg, iter, ifs, 0⟩] scope gpos) X.env) :: starEach [] X.env := by rfl) :
    PE X (.Call (.Name "all" p) [.GeneratorExp elt [⟨tg, iter, ifs, 0⟩] scope gpos] [] pos) (tQX true wi g tt te (own.map (·.2)) P) := by
  refine ⟨fun pins s σ H Q I h => ?_⟩
  refine wpAny_Call_Name_kw (ld_blt I hgl hm boot_all (PyProof.Rows.callWith_builtin1 ?_ hst (by rfl)))
  rw [hst]
  show wpAny _ _ (spliced ((false, _) :: backTo pos (starEach [] X.env))) _ _ s
  refine Calls.spliced_cons (wpAny_mono (gen_core hr hc hN TB hcode ok S hi hs hg ht he I h) (fun v s5 hx => ?_) fun _ _ e => e)
  obtain ⟨a, gn, rfl, hgn, hcd⟩ := hx
  refine Calls.spliced_nil ?_
  refine call_function_tree F.kind_all F.plain_all F.entry_all (F.args_all1 _) ?_
  unfold Builtin.«all»
  refine wpAny_bind (m := oneArg "all" _) (wpAny_pure ?_)
  refine wpAny_bind (wpAny_pyIter_gen hgn ?_)
  exact wpAny_pure ⟨plainId_quiet F.plain_all_loop _, codeAny_mono hcd fun r s' hx => by obtain ⟨b, rfl, q⟩ := hx; exact q⟩
theorem pe_anyX {c P : Addr} {elt tg iter : Expr} {ifs : List Expr} {gpos p pos : Pos} {scope : Scope} {own : List (Str × Nat)} {wi : TI} {g : TG} {tt : TT} {te : TE} {k : Nat}
    (hr : Room (k + 1) X.A) (hgl : Gl X "any") (hm : X.mg "any" = none) (hc : X.calm = true) (hN : X.N.Nodup) (TB : GxR.TabB X.base X.mg c P) (hcode : X.env.code = .ref c) (ok : BlkOk X.N X.env.scope scope own) (S : GenK scope) (hi : PI X tg iter wi)
    (hg : ∀ (A : Around) (s : Shared) (H : Hp) (C : Addr) (code : Value) (fp : List Addr), Room k A → PG (gcx X A s H (genEnv scope (cloFrom X.env.cells scope.names []) C code builtinsNs X.env) fp) tg g)
    (ht : ∀ (A : Around) (s : Shared) (H : Hp) (C : Addr) (code : Value) (fp : List Addr), Room k A → PTs (gcx X A s H (genEnv scope (cloFrom X.env.cells scope.names []) C code builtinsNs X.env) fp) ifs tt)
    (he : ∀ (A : Around) (s : Shared) (H : Hp) (C : Addr) (code : Value) (fp : List Addr), Room k A → PE (gcx X A s H (genEnv scope (cloFrom X.env.cells scope.names []) C code builtinsNs X.env) fp) elt te)
    (hs : ∀ v, genFold iter X.env v = pure v := by intro _; rfl)
    (hst : starEach [.GeneratorExp elt [⟨tg, iter, ifs, 0⟩] scope gpos] X.env = (false, eval (.GeneratorExp elt [⟨tg, iter, ifs, 0⟩] scope gpos) X.env) :: starEach [] X.env := by rfl) :
    PE X (.Call (.Name "any" p) [.GeneratorExp elt [⟨tg, iter, ifs, 0⟩] scope gpos] [] pos) (tQX false wi g tt te (own.map (·.2)) P) := by
  refine ⟨fun pins s σ H Q I h => ?_⟩
  refine wpAny_Call_Name_kw (ld_blt I hgl hm boot_any (PyProof.Rows.callWith_builtin1 ?_ hst (by rfl)))
  rw [hst]
  show wpAny _ _ (spliced ((false, _) :: backTo pos (starEach [] X.env))) _ _ s
  refine Calls.spliced_cons (wpAny_mono (gen_core hr hc hN TB hcode ok S hi hs hg ht he I h) (fun v s5 hx => ?_) fun _ _ e => e)
  obtain ⟨a, gn, rfl, hgn, hcd⟩ := hx
  refine Calls.spliced_nil ?_
  refine call_function_tree F.kind_any F.plain_any F.entry_any (F.args_any1 _) ?_
  unfold Builtin.«any»
  refine wpAny_bind (m := oneArg "any" _) (wpAny_pure ?_)
  refine wpAny_bind (wpAny_pyIter_gen hgn ?_)
  exact wpAny_pure ⟨plainId_quiet F.plain_any_loop _, codeAny_mono hcd fun r s' hx => by obtain ⟨b, rfl, q⟩ := hx; exact q⟩
end
end Gx

set_option Elab.async false
set_option linter.all false
set_option maxRecDepth 100000
set_option maxHeartbeats 4000000
/-! the turns, by source -/
namespace Gx
open PySem PySem.Spec PyProof.Rows L2
theorem all_range {lo : Int} {n : Nat} {g : TG} {tt : TT} {te : TE} {vs : List Nat} {σ : L2.St} {d : Bool} {QT QF : Hp → Prop} {H2 : Hp} (Pv : Nat → Hp → Prop) (h0 : Pv 0 H2)
    (hs : ∀ i H, i < n → Pv i H → g (.int (lo + i)) (wipe σ vs) H fun σ2 H2 => wipe σ2 vs = wipe σ vs ∧ tt σ2 H2 fun b H3 => if b = true then te σ2 H3 fun y H4 => ∃ c, y = .bl c ∧ (if c = d then Pv (i + 1) H4 else QF H4) else Pv (i + 1) H3) (hd : ∀ H, Pv n H → QT H) :
    ∃ W : Nat → Nat → Hp → Prop, (∃ m, W 0 m H2) ∧ Turns (Itr lo n) g tt te vs σ d QT QF W := by
  refine ⟨fun i m H => m = n - i ∧ i ≤ n ∧ Pv i H, ⟨n, by simp, Nat.zero_le _, h0⟩, ?_⟩
  rintro i m H ⟨rfl, hi, p⟩
  by_cases hlt : i < n
  · refine .inr ⟨hlt, Pv (i + 1), fun H' p' => ⟨n - (i + 1), by omega, rfl, hlt, p'⟩, fun x H' y => ?_⟩
    obtain ⟨e, y⟩ := y
    subst e y
    exact hs i _ hlt p
  · have e : i = n := by omega
    subst e
    exact .inl ⟨Nat.le_refl _, hd H p⟩
theorem all_tup {K : PySem.W.Frag} {a : Addr} {xs : List V} {g : TG} {tt : TT} {te : TE} {vs : List Nat} {σ : L2.St} {d : Bool} {QT QF : Hp → Prop} {H2 : Hp} (Pv : Nat → Hp → Prop) (h0 : Pv 0 H2) (hl : ∀ i H, i ≤ xs.length → Pv i H → SqT K H a xs)
    (hs : ∀ i x H, xs[i]? = some x → Pv i H → g x (wipe σ vs) H fun σ2 H2 => wipe σ2 vs = wipe σ vs ∧ tt σ2 H2 fun b H3 => if b = true then te σ2 H3 fun y H4 => ∃ c, y = .bl c ∧ (if c = d then Pv (i + 1) H4 else QF H4) else Pv (i + 1) H3) (hd : ∀ H, Pv xs.length H → QT H) :
    ∃ W : Nat → Nat → Hp → Prop, (∃ m, W 0 m H2) ∧ Turns (Itt K a) g tt te vs σ d QT QF W := by
  refine ⟨fun i m H => m = xs.length - i ∧ i ≤ xs.length ∧ Pv i H, ⟨xs.length, by simp, Nat.zero_le _, h0⟩, ?_⟩
  rintro i m H ⟨rfl, hi, p⟩
  have q := hl i H hi p
  by_cases hlt : i < xs.length
  · refine .inr ⟨⟨xs, xs[i], q, by simp [hlt]⟩, Pv (i + 1), fun H' p' => ⟨xs.length - (i + 1), by omega, rfl, hlt, p'⟩, fun x H' y => ?_⟩
    obtain ⟨e, y⟩ := y
    subst e
    exact hs i x _ (y xs q) p
  · have e : i = xs.length := by omega
    subst e
    exact .inl ⟨⟨xs, q, Nat.le_refl _⟩, hd H p⟩
theorem all_list {K : PySem.W.Frag} {a : Addr} {xs : List V} {g : TG} {tt : TT} {te : TE} {vs : List Nat} {σ : L2.St} {d : Bool} {QT QF : Hp → Prop} {H2 : Hp} (Pv : Nat → Hp → Prop) (h0 : Pv 0 H2) (hl : ∀ i H, i ≤ xs.length → Pv i H → SqL K H a xs)
    (hs : ∀ i x H, xs[i]? = some x → Pv i H → g x (wipe σ vs) H fun σ2 H2 => wipe σ2 vs = wipe σ vs ∧ tt σ2 H2 fun b H3 => if b = true then te σ2 H3 fun y H4 => ∃ c, y = .bl c ∧ (if c = d then Pv (i + 1) H4 else QF H4) else Pv (i + 1) H3) (hd : ∀ H, Pv xs.length H → QT H) :
    ∃ W : Nat → Nat → Hp → Prop, (∃ m, W 0 m H2) ∧ Turns (Itl K a) g tt te vs σ d QT QF W := by
  refine ⟨fun i m H => m = xs.length - i ∧ i ≤ xs.length ∧ Pv i H, ⟨xs.length, by simp, Nat.zero_le _, h0⟩, ?_⟩
  rintro i m H ⟨rfl, hi, p⟩
  have q := hl i H hi p
  by_cases hlt : i < xs.length
  · refine .inr ⟨⟨xs, xs[i], q, by simp [hlt]⟩, Pv (i + 1), fun H' p' => ⟨xs.length - (i + 1), by omega, rfl, hlt, p'⟩, fun x H' y => ?_⟩
    obtain ⟨e, y⟩ := y
    subst e
    exact hs i x _ (y xs q) p
  · have e : i = xs.length := by omega
    subst e
    exact .inl ⟨⟨xs, q, by simp⟩, hd H p⟩
end Gx

set_option Elab.async false
set_option linter.all false
set_option maxRecDepth 100000
set_option maxHeartbeats 4000000
/-! tuple(..) of a generator expression: any source, any target, any element -/
namespace Gx
open PySem PySem.Spec PyProof.Rows L2 GenW
def TurnsC (J : It) (g : TG) (tt : TT) (te : TE) (vs : List Nat) (σ : L2.St) (Q : List V → Hp → Prop) (W : Nat → Nat → List V → Hp → Prop) : Prop := ∀ i m ys H, W i m ys H →
  (J.stop i H ∧ Q ys H) ∨ (J.go i H ∧ ys.length < sizeLine ∧ ∃ Nx : List V → Hp → Prop, (∀ ys' H', Nx ys' H' → ∃ m', m' < m ∧ W (i + 1) m' ys' H') ∧ ∀ x H', J.yld i H x H' → g x (wipe σ vs) H' fun σ2 H2 => wipe σ2 vs = wipe σ vs ∧ tt σ2 H2 fun b H3 =>
    if b = true then te σ2 H3 fun y H4 => Nx (ys ++ [y]) H4 else Nx ys H3)
section
variable {X : Cx} {A B : Around} {s3 : Shared} {H3 : Hp} {cenv : Env} {fp : List Addr} {σ : L2.St}
theorem seg_loopC {elt tg iter : Expr} {ifs : List Expr} {scope : Scope} {pos : Pos} {it a : Addr} {gn : Nat} {go : Obj} {J : It} {tn : Nat → Heap → Prop} {g : TG} {tt : TT} {te : TE} {vs : List Nat} {Q : List V → Hp → Prop} {W : Nat → Nat → List V → Hp → Prop} {S : Addr} {E : XK}
    (T : Turn X.prog X.w X.K tg J fp it tn) (hc : X.calm = true) (hov : B.over (.compLoop (.GeneratorExp elt [⟨tg, iter, ifs, 0⟩] scope pos) 0 (.ref it) .none cenv) [] = A) (hco : cenv.scope.isCoroutine = false) (haf : a ∉ fp) (hSf : S ∉ fp) (haS : a ≠ S) (hAp : Apart (gcx X A s3 H3 cenv fp) S)
    (hgo : ∀ h : Heap, h.get? a = some go → h.IsGen a gn)
    (pg : PG (gcx X A s3 H3 cenv fp) tg g) (pt : PTs (gcx X A s3 H3 cenv fp) ifs tt) (pe : PE (gcx X A s3 H3 cenv fp) elt te) (turn : TurnsC J g tt te vs σ Q W) :
    ∀ (m n i : Nat) (ys : List V) (s₀ s : Shared) (H : Hp), n + ys.length = sizeLine → GI (gcx X A s3 H3 cenv fp) S [(a, go)] ys (wipe σ vs) H s → tn i s.heap → (∀ b ∈ fp, H b = none) → W i m ys H →
      Seg (model X.prog X.w) B (REnd X.prog X.w X.stack H3 s3 fp S a gn Q E) (YItem s3 S a gn) n s₀
        (.compLoop (.GeneratorExp elt [⟨tg, iter, ifs, 0⟩] scope pos) 0 (.ref it) .none cenv)
        ((model X.prog X.w).den (.compLoop (.GeneratorExp elt [⟨tg, iter, ifs, 0⟩] scope pos) 0 (.ref it) .none cenv)) [] s := by
  have stat : ∀ {σ' : L2.St} {H' : Hp} {s' : Shared} {acc : Array Value} {c : Nat}, Inv (gcx X A s3 H3 cenv fp) ((S, lstObj acc c) :: [(a, go)]) σ' H' s' → (∀ b ∈ fp, H' b = none) → ∀ b ∈ fp, FpOk (gcx X A s3 H3 cenv fp) ((S, lstObj acc c) :: [(a, go)]) H' b := fun {σ' H' s' acc c} I' hn b hb =>
    ⟨hn b hb, (I'.ok.exf b hb).1, I'.ok.exfs b hb, .inl hb, fun x c e => (I'.ok.exf b hb).2 x c e, fun p hp z => by
      have hp : p ∈ (S, lstObj acc c) :: [(a, go)] := by simpa using hp
      rcases List.mem_cons.mp hp with q | q
      · rw [q] at z; exact hSf (by have z : S = b := z; rw [z]; exact hb)
      · rw [List.mem_singleton.mp q] at z; exact haf (by have z : a = b := z; rw [z]; exact hb)⟩
  intro m
  induction m using Nat.strongRecOn with
  | ind m ih =>
    intro n i ys s₀ s H hmn hG st nf w
    obtain ⟨acc, cc, rv, I⟩ := hG
    show Seg _ B _ _ _ s₀ _ ((compTurn (.GeneratorExp elt [⟨tg, iter, ifs, 0⟩] scope pos) 0 (.ref it) .none cenv).onRaise (leaving cenv)) [] s
    rw [compTurn_gen, Sem.onRaise_eq_wrap]
    refine seg_bind_wrap (wpAny_standAt ?_)
    rcases turn i m ys H w with ⟨stop, qq⟩ | ⟨go', hys, Nx, hNx, step⟩
    · refine seg_bind_wrap ?_
      rw [hov]
      refine wpAny_mono (T.done (gcx X A s3 H3 cenv fp) rfl rfl rfl hc i _ s _ H (fun _ _ => False) I (stat I nf) st stop) (fun r s6 hx => ?_) fun _ _ e => e.elim
      obtain ⟨rfl, I6⟩ := hx
      obtain ⟨z1, z2, z3, z4, _⟩ := I6.pin (S, lstObj acc cc) (List.mem_append_right _ List.mem_cons_self)
      exact seg_end (.ok .next) (.inl ⟨.inr rfl, H, ys, acc, cc, I6.os, I6.bare, I6.base, I6.hok, z2, z1, rv, by omega, qq⟩)
    · refine seg_bind_wrap ?_
      rw [hov]
      refine wpAny_mono (T.item (gcx X A s3 H3 cenv fp) rfl rfl rfl hc i _ s _ H (fun _ _ => False) I (stat I nf) st go') (fun r s6 hx => ?_) fun _ _ e => e.elim
      obtain ⟨u, rfl, h6⟩ := hx
      refine seg_bind_wrap ?_
      rw [hov]
      refine wpAny_mono h6 (fun _ s7 hx => ?_) fun _ _ e => e.elim
      obtain ⟨x, H7, I7, r7, y7, st7, n7⟩ := hx
      have I7' := I7.pinned (stat I7 n7) (T.obj _ _ st7)
      refine seg_bind_wrap ?_
      rw [hov]
      refine wpAny_mono (pg.run _ s7 _ H7 x u _ I7' r7 (step x H7 y7)) (fun _ s8 hx => ?_) fun _ _ e => e.elim
      obtain ⟨σ8, H8, I8, hw8, q8⟩ := hx
      refine seg_bind_wrap ?_
      rw [hov]
      refine wpAny_mono (pt.run _ s8 σ8 H8 _ I8 q8) (fun b s9 hx => ?_) fun _ _ e => e.elim
      obtain ⟨H9, I9, q9⟩ := hx
      have fin : ∀ {s' : Shared} {H' : Hp} {ys' : List V}, GI (gcx X A s3 H3 cenv fp) S ([(a, go)] ++ pinsAt fp s7.heap) ys' σ8 H' s' → GI (gcx X A s3 H3 cenv fp) S [(a, go)] ys' (wipe σ vs) H' s' ∧ tn (i + 1) s'.heap ∧ ∀ b ∈ fp, H' b = none := fun {s' H' ys'} hG' => by
        obtain ⟨acc', cc', rv', I'⟩ := hG'
        have I' : Inv (gcx X A s3 H3 cenv fp) (((S, lstObj acc' cc') :: [(a, go)]) ++ pinsAt fp s7.heap) σ8 H' s' := I'
        have pin' : ∀ b ∈ fp, ∀ o, s7.heap.get? b = some o → s'.heap.get? b = some o ∧ H' b = none := fun b hb o e =>
          let z := I'.pin (b, o) (List.mem_append_right _ (List.mem_append_right _ (mem_pinsAt hb e)))
          ⟨z.1, z.2.1⟩
        have hl : (wipe σ vs).length = σ8.length := by rw [← hw8, wipe_length]
        refine ⟨⟨acc', cc', rv', I'.unpinned.weak hl (fun j v e => ?_)⟩, T.keep _ _ _ st7 fun b hb o e => (pin' b hb o e).1, fun b hb => ?_⟩
        · rw [← hw8] at e
          exact (wipe_some e).1
        · obtain ⟨o, e, _⟩ := T.obj _ _ st7 b hb
          exact (pin' b hb o e).2
      cases b with
      | false =>
        simp only [Bool.false_eq_true, if_false] at q9 ⊢
        obtain ⟨m', hm, w'⟩ := hNx ys H9 q9
        obtain ⟨f1, f2, f3⟩ := fin (ys' := ys) ⟨acc, cc, rv, I9⟩
        exact seg_again rfl (ih m' hm n (i + 1) ys s₀ _ H9 hmn f1 f2 f3 w')
      | true =>
        simp only [if_true] at q9 ⊢
        have hy : ∀ v, yieldOut cenv v = yieldValue v := fun v => by simp only [yieldOut, hco, Bool.false_eq_true, if_false]
        simp only [hy]
        rw [Sem.bind_eq_wrap', Sem.bind_eq_wrap', Sem.wrap_wrap, Sem.wrap_wrap]
        refine seg_wrap ?_
        rw [hov]
        refine wpAny_mono (pe.run _ s9 σ8 H9 _ I9 q9) (fun z s10 hx => ?_) fun _ _ e => e.elim
        obtain ⟨yv, H10, I10, r10, nx⟩ := hx
        obtain ⟨n, rfl⟩ : ∃ n', n = n' + 1 := ⟨n - 1, by omega⟩
        have hasz : acc.size = ys.length := by
          have e1 := rv.length
          have e2 : acc.toList.length = acc.size := by simp
          omega
        have pS := I10.pin (S, lstObj acc cc) (List.mem_append_right _ List.mem_cons_self)
        have pA := I10.pin (a, go) (List.mem_append_right _ (List.mem_append_left _ (List.mem_cons_of_mem _ (List.mem_singleton.mpr rfl))))
        refine seg_at (seg_yield rfl rfl rfl ⟨I10.os, I10.bare, I10.nolimit, hgo _ pA.1, ⟨acc, cc, pS.1, by rw [hasz]; omega⟩, fun s'' hk => ?_⟩)
        obtain ⟨m', hm, w'⟩ := hNx (ys ++ [yv]) H10 nx
        have hG10 : GI (gcx X A s3 H3 cenv fp) S ([(a, go)] ++ pinsAt fp s7.heap) ys σ8 H10 s10 := ⟨acc, cc, rv, I10⟩
        have wk := hG10.woken (x := yv) (fun p hp => by simp at hp) (fun p hp z => by
          rcases List.mem_append.mp hp with q | q
          · rw [List.mem_singleton.mp q] at z; exact haS z
          · obtain ⟨hb, _⟩ := of_pinsAt q
            exact hSf (by rw [← z]; exact hb)) hAp r10 hk
        obtain ⟨f1, f2, f3⟩ := fin wk
        exact seg_again rfl (ih m' hm n (i + 1) (ys ++ [yv]) s'' s'' H10 (by rw [List.length_append, List.length_singleton]; omega) f1 f2 f3 w')
end
/-- tuple(g), g a generator that has not begun -/
theorem call_tuple_new {P : Program} {w : World} {outer : List Env} {H : Hp} {sc s : Shared} {ex : List Addr} {Q : List V → Hp → Prop} {A : Around} {k : Nat} {u : Value} {Q' : Value → Shared → Prop} {E : Value → Shared → Prop}
    (hr : Room (k + 1) A) (hfr : A.frames = some outer) (h : GMade P w k outer H sc ex Q (fun _ _ _ => False) u s)
    (hQ : ∀ (s' : Shared) (acc : Array Value) (H' : Hp) (ys : List V), Vals ys acc.toList → ys.length ≤ sizeLine → s'.os = sc.os → AllBare s'.gens → Un (frs outer) ex H H' sc.heap s'.heap → HOk P w H' s'.heap → Q ys H' → Q' (.ref s'.heap.objs.size) { s' with heap := s'.heap.push { cls := .type "tuple", data := .seq acc } }) :
    wpAny (model P w) A (call (.type "tuple") [u]) Q' E s := by
  obtain ⟨a, g, c, rfl, ha1, ha2, hg, hgs, hos, hb, hl, hkp, wake⟩ := h
  have hSa : s.heap.objs.size ≠ a := Nat.ne_of_gt ha2
  have hcl : cStatics < s.heap.objs.size := let ⟨_, hn, _⟩ := hl; hn.lt
  have hSc : s.heap.objs.size ≠ cStatics := Nat.ne_of_gt hcl
  refine callType_codes (Q₁ := fun obj s₁ => s₁.TypeIs obj "tuple" ∧ Q' obj s₁) F.called_tuple (F.typeCall_tuple_1 _) F.entry_object_init ?_ fun obj s₁ h₁ =>
    ⟨h₁.1, F.args_object_init_2 obj _, object_init_meets F.called_tuple.init.lookup F.called_tuple.made (by decide) P w A.in1 _ s₁ ⟨h₁.1, rfl, h₁.2⟩⟩
  refine codeAny_of_tree ?_
  show wpAny _ A.in1.in1 (do checkBuiltinCall "tuple.__new__" ⟨[.type "tuple", .ref a], []⟩; again (.builtin "tuple.__new__" ⟨[.type "tuple", .ref a], []⟩)) _ _ s
  refine wpAny_bind (wpAny_of_eq (F.newCall_tuple_1 _) (wpAny_pure ⟨plainId_quiet F.plain_tuple_new _, codeAny_builtin F.entry_tuple_new ?_⟩))
  rw [Around.under_plainId F.plain_tuple_new _]
  have hsub := sub_tuple_self
  have hinit := init_tuple_lookup
  have hmh := madeHere_tuple
  have hTI := hg.typeIs (s := s)
  have coll : ∀ {A2 : Around} {QC : List Value → Shared → Prop} {EC : Value → Shared → Prop}, A2.handled = none → A2.depth = A.depth → A2.units ≤ A.units + 8 → A2.frames = some outer →
      (∀ (s' : Shared) (acc : Array Value) (H' : Hp) (ys : List V), Vals ys acc.toList → ys.length ≤ sizeLine → s'.os = sc.os → AllBare s'.gens → Un (frs outer) ex H H' sc.heap s'.heap → HOk P w H' s'.heap → Q ys H' → QC acc.toList s') → wpAny (model P w) A2 (collect (.ref a)) QC EC s := fun {A2 QC EC} h1 h2 h3 h4 hq => by
    unfold collect
    refine wpAny_bind (wpAny_runValue (codeAny_builtin F.entry_proto_collect ?_))
    rw [Around.under_plainId F.plain_proto_collect _]
    show wpAny _ A2.in1 (newList [] >>= fun l => again (.builtin "list.__iadd__" ⟨[l, .ref a], []⟩)) _ _ s
    refine wpAny_bind (wpAny_newObj_type ?_)
    refine wpAny_pure ⟨plainId_quiet F.plain_list_iadd _, codeAny_builtin F.entry_list_iadd ?_⟩
    rw [Around.under_plainId F.plain_list_iadd _]
    show wpAny _ A2.in1 (Builtin.List.listExtendWith (.ref s.heap.objs.size) (.ref a) (.ref s.heap.objs.size)) _ _ _
    unfold Builtin.List.listExtendWith
    have up : ∀ (h : Heap) (f : Obj → Obj), (∀ b o, s.heap.get? b = some o → h.get? b = some o) → ∀ b o, s.heap.get? b = some o → (h.update s.heap.objs.size f).get? b = some o := fun h f q b o e =>
      (Heap.get?_update_other _ _ (Ne.symm (Nat.ne_of_lt (Heap.lt_size e)))).trans (q b o e)
    have k1 : ∀ b o, s.heap.get? b = some o → (s.heap.push { cls := .type "list", data := .seq ([] : List Value).toArray }).get? b = some o := fun b o e => Heap.get?_push_of_some _ e
    have gty : ∀ {h : Heap}, (∀ b o, s.heap.get? b = some o → h.get? b = some o) → h.IsGen a g := fun {h} q => hg.keeps q
    refine wpAny_bind (wpAny_typeOf (Heap.IsGen.typeIs (s := { s with heap := _ }) (gty k1)) ?_)
    have e1 : Builtin.List.listSameRef (.ref s.heap.objs.size) (.ref a) = false := by simp [Builtin.List.listSameRef, hSa]
    have e2 : (Value.type "generator" == Value.type "list") = false := by decide
    have e3 : (Value.type "generator" == Value.type "tuple") = false := by decide
    simp only [e1, e2, e3, Bool.or_false, Bool.false_eq_true, if_false]
    refine wpAny_bind (wpAny_pyIter_gen (s := { s with heap := _ }) (gty k1) ?_)
    refine wpAny_bind (wpAny_holding ?_)
    unfold Builtin.List.listLengthHint
    refine wpAny_bind (wpAny_specialOf (Heap.IsGen.typeIs (s := { s with heap := _ }) (gty k1)) F.gen_no_len ?_)
    show wpAny _ A2.in1 (specialOf (Value.ref a) (Str.ofString "__length_hint__") >>= _) _ _ _
    refine wpAny_bind (wpAny_specialOf (Heap.IsGen.typeIs (s := { s with heap := _ }) (gty k1)) F.gen_no_hint ?_)
    refine wpAny_pure ?_
    show wpAny _ A2.in1 (rule "list.extend.makes-room" >>= fun _ => Builtin.List.listTouch (.ref s.heap.objs.size) >>= fun _ =>
      again (.builtin "list.extend.loop" ⟨[.ref s.heap.objs.size, .ref a, .ref s.heap.objs.size], []⟩)) _ _ _
    refine wpAny_bind (wpAny_rule ?_)
    have hS₁ : (s.heap.push { cls := .type "list", data := .seq ([] : List Value).toArray }).get? s.heap.objs.size = some { cls := .type "list", data := .seq ([] : List Value).toArray } := Heap.get?_push_size _ rfl
    refine wpAny_bind ?_
    show wpAny _ A2.in1 (updateSeq s.heap.objs.size (·.push .none) >>= fun _ => updateSeq s.heap.objs.size (·.pop)) _ _ _
    refine wpAny_bind (wpAny_updateSeq hS₁ rfl ?_)
    have hS₂ := Heap.get?_update_self (Obj.mapSeq (·.push Value.none)) hS₁ rfl
    refine wpAny_updateSeq hS₂ rfl ?_
    have hS₃ := Heap.get?_update_self (Obj.mapSeq (·.pop)) hS₂ rfl
    have k4 := up _ (Obj.mapSeq (·.pop)) (up _ (Obj.mapSeq (·.push Value.none)) k1)
    refine wpAny_pure ⟨plainId_quiet F.plain_extend_loop _, ?_⟩
    refine drain (P := P) (w := w) (outer := outer) (H := H) (sc := sc) (ex := ex) (Q := Q) (EX := fun _ _ _ => False) (A := A2) (g := g) h1 (by have := hr.dp; omega) hSa hSc
      (fun s' acc c H' ys q1 q2 q3 q4 q5 q6 q7 q8 q9 => ?_) (fun e s' hc => by obtain ⟨_, _, _, _, _, _, _, _, _, _, _, _, hf⟩ := hc; exact hf.elim)
      sizeLine _ (gty k4) (hl.keeps k4) ⟨_, hgs, rfl, ?_⟩
    · show wpAny _ A2 (load s.heap.objs.size >>= _) _ _ s'
      refine wpAny_bind (wpAny_load q1 ?_)
      exact wpAny_pure (hq s' acc H' ys q2 q3 q4 q5 q6 q7 q9)
    · refine wake _ _ _ ⟨h1, ?_, ?_⟩ h4 (Nat.le_refl _) k4 ⟨_, hS₃⟩ hos (allBare_setGen (s := { s with heap := _ }) hb rfl)
      · have := hr.dp
        show A2.depth + 3 * k + 5 < _
        omega
      · have := hr.un
        show A2.units + 1 + 1 + 16 * k + 200 < _
        omega
  wp_walk using wpAny_typeOf hTI, coll (A2 := A.in1.in1) hr.hd rfl (by show A.units + 1 + 1 ≤ A.units + 8; omega) hfr
  intro s' acc H' ys q1 q2 q3 q4 q5 q6 q7
  show wpAny _ _ (Builtin.Tuple.tupleExact acc.toList.toArray >>= fun v => ret v) _ _ _
  unfold Builtin.Tuple.tupleExact
  have hz : acc.size ≤ sizeLine := by
    have e1 := q1.length
    have e2 : acc.toList.length = acc.size := by simp
    omega
  refine wpAny_bind (wpAny_newObj_type ?_ (by show acc.toList.toArray.size ≤ sizeLine; simp only [Array.toArray_toList]; exact hz))
  refine wpAny_pure ?_
  have e : acc.toList.toArray = acc := by simp
  rw [e]
  exact ⟨⟨_, Heap.get?_push_size _ rfl, rfl⟩, hQ s' acc H' ys q1 q2 q3 q4 q5 q6 q7⟩
end Gx

set_option Elab.async false
set_option linter.all false
set_option maxRecDepth 100000
set_option maxHeartbeats 4000000
namespace Gx
open PySem PySem.Spec PyProof.Rows L2 GenW
def tCX (wi : TI) (g : TG) (tt : TT) (te : TE) (vs : List Nat) (P : Addr) : TE := fun σ H Q => wi σ H fun J H1 => GxR.TabG H1 P ∧ ∀ H2, GxR.Tabbed P H1 H2 → ∃ W : Nat → Nat → List V → Hp → Prop, (∃ m, W 0 m [] H2) ∧
  TurnsC J g tt te vs σ (fun ys H => ∀ p, H p = none → Q (.ref p) (upd H p (.tup ys))) W
section
variable {X : Cx} {pins : List (Addr × Obj)} {σ : L2.St} {H : Hp} {s : Shared}
theorem gen_made {c P : Addr} {elt tg iter : Expr} {ifs : List Expr} {gpos : Pos} {scope : Scope} {own : List (Str × Nat)} {wi : TI} {g : TG} {tt : TT} {te : TE} {k : Nat} {QQ : List V → Hp → Prop}
    (hr : Room (k + 1) X.A) (hc : X.calm = true) (hN : X.N.Nodup) (TB : GxR.TabB X.base X.mg c P) (hcode : X.env.code = .ref c) (ok : BlkOk X.N X.env.scope scope own) (S : GenK scope) (hi : PI X tg iter wi) (hs : ∀ v, genFold iter X.env v = pure v)
    (hg : ∀ (A : Around) (s : Shared) (H : Hp) (C : Addr) (code : Value) (fp : List Addr), Room k A → PG (gcx X A s H (genEnv scope (cloFrom X.env.cells scope.names []) C code builtinsNs X.env) fp) tg g)
    (ht : ∀ (A : Around) (s : Shared) (H : Hp) (C : Addr) (code : Value) (fp : List Addr), Room k A → PTs (gcx X A s H (genEnv scope (cloFrom X.env.cells scope.names []) C code builtinsNs X.env) fp) ifs tt)
    (he : ∀ (A : Around) (s : Shared) (H : Hp) (C : Addr) (code : Value) (fp : List Addr), Room k A → PE (gcx X A s H (genEnv scope (cloFrom X.env.cells scope.names []) C code builtinsNs X.env) fp) elt te)
    (I : Inv X pins σ H s) (h : wi σ H fun J H1 => GxR.TabG H1 P ∧ ∀ H2, GxR.Tabbed P H1 H2 → ∃ W : Nat → Nat → List V → Hp → Prop, (∃ m, W 0 m [] H2) ∧ TurnsC J g tt te (own.map (·.2)) σ QQ W) :
    wpAny (model X.prog X.w) X.A (eval (.GeneratorExp elt [⟨tg, iter, ifs, 0⟩] scope gpos) X.env) (fun v s5 => ∃ (s3 : Shared) (H3 : Hp) (fp : List Addr), GMade X.prog X.w (k + 1) X.stack H3 s3 fp QQ (fun _ _ _ => False) v s5 ∧
      ∀ (H' : Hp) (s' : Shared), s'.os = s3.os → AllBare s'.gens → Un (frs X.stack) fp H3 H' s3.heap s'.heap → HOk X.prog X.w H' s'.heap → Inv X pins σ H' s') X.xe s := by
  have hfree : ∀ y ∈ scope.names, y.2 = .free → ∃ c, X.env.cells.lookup y.1 = some c := fun y hy e => by
    rcases ok.free y hy e with k | k
    · exact I.ok.has _ (.inl k)
    · exact I.ok.has _ (.inr k)
  refine wpAny_GeneratorExp_make S.co (closure_ok hfree) S.cell S.dot ok.kind hr.depth (wpAny_mono (hi.run pins s σ H _ I h) (fun xv s1 h1 => wpAny_mono h1 (fun itv s2 h2 => ?_) fun _ _ e => e) fun _ _ e => e) hs
  obtain ⟨it, fp, tn, J, H1, rfl, I2, T, st2, f2, ⟨ps, hP, htr⟩, hW⟩ := h2
  refine ⟨I2.nolimit, ?_⟩
  have tabS : s2.heap.get? P = some { cls := .none, data := .fields ps } := I2.hok P _ hP
  have hd : PySem.W.CodeHd s2.heap c P := TB.code.keeps fun b u e => I2.bk b u e
  have key : ∀ (REST : Value → Shared → Prop), (∀ (cv : Value) (h3 : Heap) (tk : Nat) (more : Array Value), Heap.ExtBut P s2.heap h3 → s2.heap.objs.size ≤ h3.objs.size → h3.get? P = some { cls := .none, data := .fields (ps ++ more) } → TriplesOk (ps ++ more).toList → REST cv { s2 with heap := h3, toks := tk }) →
      wpAny (model X.prog X.w) X.A (genexprCode X.env gpos (X.env.qual ++ "<genexpr>") scope) REST X.xe s2 := fun REST fin => by
    cases hf : codeAmong gpos ps.toList with
    | some cv =>
      have e : ps = ps ++ #[] := by simp
      exact wpAny_genexprCode_hit hcode (hd.code tabS htr) hf (fin cv _ s2.toks #[] (Heap.ExtBut.refl _ _) (Nat.le_refl _) (e ▸ tabS) (e ▸ htr))
    | none =>
      refine wpAny_genexprCodeX hcode (hd.code tabS htr) (hd.tab tabS) hf fun c' h3 tk ex ge lt ic _ ta _ => ?_
      obtain ⟨_, _, _, _, _, _, _, _, _, _, _, _, _, _, _, _, _, _, _, tr, _⟩ := ic
      exact fin _ h3 tk _ ex (Nat.le_trans ge (Nat.le_of_lt lt)) ta.2 tr
  refine key _ fun cv h3 tk more ex ge tab3 tr3 => ?_
  obtain ⟨bm, ob, b1, b2, b3, b4, b5, b6, b7, b8⟩ := TB.bm
  refine wpAny_builtinsFor (m := X.mg) (by rw [I2.ok.glob]; exact (I2.mod.glob.keeps I2.bk).extBut ex TB.gP) b1 b2 (ex _ _ b4 (I2.bk _ _ b5)) b6 b7 b8 ?_
  intro h' hn' hs'
  generalize hs3 : ({ s2 with heap := h3, toks := tk } : Shared) = s3 at hn' hs' ⊢
  have e3 : s3.heap = h3 := by rw [← hs3]
  have I3 : Inv X pins σ (upd H1 P (.tbl (ps ++ more))) s3 := by
    rw [← hs3]
    exact GxR.inv_tab (more := more) (h' := h3) (g' := s2.gens) (d' := s2.drawn) (t' := tk) I2 hP (fun b o n e => ex b o n e) tab3 I2.bare
  obtain ⟨W, ⟨m0, w0⟩, turn⟩ := hW _ ⟨⟨ps ++ more, upd_same, tr3⟩, fun b hb => upd_ne hb⟩
  have neP : ∀ b ∈ fp, b ≠ P := fun b hb z => by
    have := (f2 b hb).1
    rw [z, hP] at this
    cases this
  have f3 : ∀ b ∈ fp, FpOk X pins (upd H1 P (.tbl (ps ++ more))) b ∧ b < s3.heap.objs.size := fun b hb => by
    obtain ⟨o, e, _⟩ := T.obj _ _ st2 b hb
    refine ⟨⟨?_, (f2 b hb).2⟩, by rw [e3]; exact Nat.lt_of_lt_of_le (Heap.lt_size e) ge⟩
    rw [upd_ne (neP b hb)]
    exact (f2 b hb).1
  have st3 : tn 0 s3.heap := T.keep _ _ _ st2 fun b hb o e => by rw [e3]; exact ex b o (neP b hb) e
  generalize hH3 : upd H1 P (.tbl (ps ++ more)) = H3 at I3 w0 f3
  have nf : ∀ b ∈ fp, H3 b = none := fun b hb => (f3 b hb).1.1
  generalize hgo : ({ cls := .type "generator", data := .fields #[.int s3.gens.size 0, .str "<genexpr>" (s3.toks + 1), .str (X.env.qual ++ "<genexpr>") (s3.toks + 1 + 1)] } : Obj) = go
  have sz' : h'.objs.size = s3.heap.objs.size + 1 := by rw [hs'.1, Heap.size_push]
  generalize hs5 : ({ s3 with gens := s3.gens.push (.fresh (.compStart (.GeneratorExp elt [⟨tg, iter, ifs, 0⟩] scope gpos) 0 (.ref it) .none (genEnv scope (cloFrom X.env.cells scope.names []) s3.heap.objs.size cv builtinsNs X.env))), toks := s3.toks + 1 + 1 + 1, heap := h'.push go } : Shared) = s5
  have h5 : s5.heap = h'.push go := by rw [← hs5]
  have sz5 : s5.heap.objs.size = h'.objs.size + 1 := by rw [h5, Heap.size_push]
  have kp : Kept s3 s5 := by
    refine ⟨by rw [← hs5], by rw [← hs5]; exact AllBare.push I3.bare rfl, fun b o e => ?_⟩
    rw [h5]
    exact Heap.get?_push_of_some _ (hs'.extBut b o (Nat.ne_of_lt (Heap.lt_size e)) (Heap.get?_push_of_some _ e))
  have hga : s5.heap.get? h'.objs.size = some go := by rw [h5, ← hgo]; exact Heap.get?_push_size _ rfl
  have isg : ∀ h : Heap, h.get? h'.objs.size = some go → h.IsGen h'.objs.size s3.gens.size := fun h e => ⟨go, _, _, e, by rw [← hgo], by rw [← hgo], by rw [← hgo]⟩
  have hgs : s5.gens[s3.gens.size]? = some (.fresh (.compStart (.GeneratorExp elt [⟨tg, iter, ifs, 0⟩] scope gpos) 0 (.ref it) .none (genEnv scope (cloFrom X.env.cells scope.names []) s3.heap.objs.size cv builtinsNs X.env))) := by
    rw [← hs5]
    exact Array.getElem?_push_size ..
  have hns : s5.heap.Ns s3.heap.objs.size (fun y => if y = ".0" then some (.ref it) else none) := by rw [h5]; exact hn'.push _
  have nstk : ∀ b, s3.heap.objs.size ≤ b → b ∉ frs X.stack := fun b hb z => by
    rcases List.mem_cons.mp (I3.stkSub _ z) with z | z
    · exact absurd (Nat.lt_of_lt_of_le I3.lt (show s3.heap.objs.size ≤ X.env.locals by rw [← z]; exact hb)) (Nat.lt_irrefl _)
    · exact I3.nofs hb z
  have lt35 : s3.heap.objs.size < s5.heap.objs.size := by omega
  refine ⟨s3, H3, fp, ⟨h'.objs.size, s3.gens.size, _, rfl, (show s3.heap.objs.size ≤ h'.objs.size by omega), (show h'.objs.size < s5.heap.objs.size by omega), isg _ hga, hgs, kp.os, kp.bare, I3.nolimit.keeps kp.keep, kp.keep, fun A' Sx s6 hrA hfrA hSx hk6 hSo hos hba => ?_⟩, fun H' s' ho hb hu hok => I3.call' (ch := fp) ho hu hok hb fun b hb => ⟨(f3 b hb).1.2.2.2.1, (f3 b hb).1.2.1, (f3 b hb).1.2.2.2.2.1, (f3 b hb).1.2.2.2.2.2⟩⟩
  have k6 : Kept s3 s6 := ⟨hos, hba, fun b o e => hk6 b o (kp.keep b o e)⟩
  have rm : Room k (A'.over (.compLoop (.GeneratorExp elt [⟨tg, iter, ifs, 0⟩] scope gpos) 0 (.ref it) .none (genEnv scope (cloFrom X.env.cells scope.names []) s3.heap.objs.size cv builtinsNs X.env)) []) := by
    have h1 := hrA.dp
    have h2 := hrA.un
    refine ⟨hrA.hd, ?_, ?_⟩
    · show A'.depth + 0 + 1 + 3 * k + 5 < _
      omega
    · show A'.units + 0 + 3 + 16 * k + 200 < _
      omega
  have Ig := gen_start I3 ok S hN f3 rm.hd (over_gen hfrA) k6 (hns.keeps hk6)
  obtain ⟨cS, heS⟩ := hSo
  have Sx3 : s3.heap.objs.size ≤ Sx := Nat.le_trans (Nat.le_of_lt lt35) hSx
  have SxC : Sx ≠ s3.heap.objs.size := Nat.ne_of_gt (Nat.lt_of_lt_of_le lt35 hSx)
  have aS : h'.objs.size ≠ Sx := Nat.ne_of_lt (Nat.lt_of_lt_of_le (by omega) hSx)
  have hG : GI (gcx X (A'.over (.compLoop (.GeneratorExp elt [⟨tg, iter, ifs, 0⟩] scope gpos) 0 (.ref it) .none (genEnv scope (cloFrom X.env.cells scope.names []) s3.heap.objs.size cv builtinsNs X.env)) []) s3 H3 (genEnv scope (cloFrom X.env.cells scope.names []) s3.heap.objs.size cv builtinsNs X.env) fp) Sx [(h'.objs.size, go)] [] (wipe σ (own.map (·.2))) H3 s6 := by
    refine ⟨#[], cS, .nil, Ig.pins_of fun p hp => ?_⟩
    rcases List.mem_cons.mp hp with z | z
    · rw [z]
      exact ⟨heS, I3.hok.fresh Sx3, SxC, nstk _ Sx3, fun v q => by cases q⟩
    · rw [List.mem_singleton.mp z]
      exact ⟨hk6 _ _ hga, I3.hok.fresh (by omega), by show h'.objs.size ≠ s3.heap.objs.size; omega, nstk _ (by omega), fun v q => by rw [← hgo] at q; cases q⟩
  have st6 : tn 0 s6.heap := T.keep _ _ _ st3 fun b hb o e => k6.keep b o e
  have hAp : Apart (gcx X (A'.over (.compLoop (.GeneratorExp elt [⟨tg, iter, ifs, 0⟩] scope gpos) 0 (.ref it) .none (genEnv scope (cloFrom X.env.cells scope.names []) s3.heap.objs.size cv builtinsNs X.env)) []) s3 H3 (genEnv scope (cloFrom X.env.cells scope.names []) s3.heap.objs.size cv builtinsNs X.env) fp) Sx := by
    refine ⟨Sx3, SxC, fun x c e z => ?_⟩
    obtain ⟨v, q⟩ := Ig.cell x c e
    have hcl : X.env.cells.lookup x = some c := by
      have e : (cloFrom X.env.cells scope.names []).lookup x = some c := e
      rcases cloFrom_mem (PySem.mem_of_lookup e) with hm | ⟨h1, rfl⟩
      · cases hm
      · obtain ⟨c, hc⟩ := hfree _ h1 rfl
        rw [hc]
        rfl
    obtain ⟨v3, q3⟩ := I3.cell x c hcl
    exact absurd (Nat.lt_of_lt_of_le q3.lt (by rw [z]; exact Sx3)) (Nat.lt_irrefl _)
  refine seg_start T st6 (seg_loopC T hc rfl S.co (fun z => ?_) (fun z => ?_) aS hAp isg (hg _ _ _ _ _ _ rm) (ht _ _ _ _ _ _ rm) (he _ _ _ _ _ _ rm) turn m0 sizeLine 0 [] _ _ H3 (Nat.add_zero _) hG st6 nf w0)
  · have q : h'.objs.size < s3.heap.objs.size := (f3 _ z).2
    omega
  · exact absurd (Nat.lt_of_lt_of_le (f3 _ z).2 Sx3) (Nat.lt_irrefl _)
theorem pe_tupX {c P : Addr} {elt tg iter : Expr} {ifs : List Expr} {gpos p pos : Pos} {scope : Scope} {own : List (Str × Nat)} {wi : TI} {g : TG} {tt : TT} {te : TE} {k : Nat}
    (hr : Room (k + 2) X.A) (hgl : Gl X "tuple") (hm : X.mg "tuple" = none) (hc : X.calm = true) (hN : X.N.Nodup) (TB : GxR.TabB X.base X.mg c P) (hcode : X.env.code = .ref c) (ok : BlkOk X.N X.env.scope scope own) (S : GenK scope) (hi : PI X tg iter wi)
    (hg : ∀ (A : Around) (s : Shared) (H : Hp) (C : Addr) (code : Value) (fp : List Addr), Room k A → PG (gcx X A s H (genEnv scope (cloFrom X.env.cells scope.names []) C code builtinsNs X.env) fp) tg g)
    (ht : ∀ (A : Around) (s : Shared) (H : Hp) (C : Addr) (code : Value) (fp : List Addr), Room k A → PTs (gcx X A s H (genEnv scope (cloFrom X.env.cells scope.names []) C code builtinsNs X.env) fp) ifs tt)
    (he : ∀ (A : Around) (s : Shared) (H : Hp) (C : Addr) (code : Value) (fp : List Addr), Room k A → PE (gcx X A s H (genEnv scope (cloFrom X.env.cells scope.names []) C code builtinsNs X.env) fp) elt te)
    (hs : ∀ v, genFold iter X.env v = pure v := by intro _; rfl)
    (hst : starEach [.GeneratorExp elt [⟨tg, iter, ifs, 0⟩] scope gpos] X.env = (false, eval (.GeneratorExp elt [⟨tg, iter, ifs, 0⟩] scope gpos) X.env) :: starEach [] X.env := by rfl) :
    PE X (.Call (.Name "tuple" p) [.GeneratorExp elt [⟨tg, iter, ifs, 0⟩] scope gpos] [] pos) (tCX wi g tt te (own.map (·.2)) P) := by
  refine ⟨fun pins s σ H Q I h => ?_⟩
  refine wpAny_Call_Name_kw (ld_blt I hgl hm boot_tuple (PyProof.Rows.callWith_type1 ?_ hst (by rfl)))
  rw [hst]
  show wpAny _ _ (spliced ((false, _) :: backTo pos (starEach [] X.env))) _ _ s
  refine Calls.spliced_cons (wpAny_mono (gen_made (k := k) (hr.mono (by omega)) hc hN TB hcode ok S hi hs hg ht he I h) (fun v s5 hx => ?_) fun _ _ e => e)
  obtain ⟨s3, H3, fp, hG, back⟩ := hx
  refine Calls.spliced_nil (call_tuple_new hr I.ok.frames hG fun s' acc H' ys q1 q2 q3 q4 q5 q6 q7 => ?_)
  have J := back H' s' q3 q4 q5 q6
  refine ⟨.ref s'.heap.objs.size, _, J.laid (t' := s'.toks) (o := .tup ys) (fun b u e => Heap.get?_push_of_some _ e) (Nat.le_refl _) ⟨q2, acc.toList, q1, ?_⟩, rfl, q7 _ (J.hok.fresh (Nat.le_refl _))⟩
  have z := IsTup.new s'.heap acc
  simpa using z
end
/-! ### turns, by source -/
theorem tup_tup {K : PySem.W.Frag} {a : Addr} {xs : List V} {g : TG} {tt : TT} {te : TE} {vs : List Nat} {σ : L2.St} {Q : List V → Hp → Prop} {H2 : Hp} (hz : xs.length ≤ sizeLine) (Pv : Nat → List V → Hp → Prop) (h0 : Pv 0 [] H2) (hl : ∀ i ys H, i ≤ xs.length → Pv i ys H → SqT K H a xs) (hy : ∀ i ys H, Pv i ys H → ys.length ≤ i)
    (hs : ∀ i x ys H, xs[i]? = some x → Pv i ys H → g x (wipe σ vs) H fun σ2 H2 => wipe σ2 vs = wipe σ vs ∧ tt σ2 H2 fun b H3 => if b = true then te σ2 H3 fun y H4 => Pv (i + 1) (ys ++ [y]) H4 else Pv (i + 1) ys H3) (hd : ∀ ys H, Pv xs.length ys H → Q ys H) :
    ∃ W : Nat → Nat → List V → Hp → Prop, (∃ m, W 0 m [] H2) ∧ TurnsC (Itt K a) g tt te vs σ Q W := by
  refine ⟨fun i m ys H => m = xs.length - i ∧ i ≤ xs.length ∧ Pv i ys H, ⟨xs.length, by simp, Nat.zero_le _, h0⟩, ?_⟩
  rintro i m ys H ⟨rfl, hi, p⟩
  have q := hl i ys H hi p
  by_cases hlt : i < xs.length
  · refine .inr ⟨⟨xs, xs[i], q, by simp [hlt]⟩, Nat.lt_of_le_of_lt (hy i ys H p) (Nat.lt_of_lt_of_le hlt hz), Pv (i + 1), fun ys' H' p' => ⟨xs.length - (i + 1), by omega, rfl, hlt, p'⟩, fun x H' y => ?_⟩
    obtain ⟨e, y⟩ := y
    subst e
    exact hs i x ys _ (y xs q) p
  · have e : i = xs.length := by omega
    subst e
    exact .inl ⟨⟨xs, q, Nat.le_refl _⟩, hd ys H p⟩
end Gx

set_option Elab.async false
set_option linter.all false
set_option maxRecDepth 100000
set_option maxHeartbeats 4000000
/-! runs, by themselves -/
namespace Dt
open PySem PySem.Spec PyProof.Rows L2
abbrev Log := List (Int × List Int)
abbrev Res := Bool × List Int × Log
def stand (tb : List (List Int)) (tk : List Int) : List Int := List.zipWith atF tb tk
def leftOf (tb : List (List Int)) (tk : List Int) : List (List Int) := List.zipWith (fun ds k => ds.drop (k.toNat + 1)) tb tk
def firstB (fs : List Int) (wds : List WD) (ord : List Int) : Option Int := ord.find? fun n => brkAt fs wds n.toNat
def plc (wds : List WD) (k : Int) : List Int := (wds.getD k.toNat ([], [])).1
def lenAt (tb : List (List Int)) (p : Int) : Int := ((tb.getD p.toNat []).length : Int)
def canN (tb : List (List Int)) (tk ps : List Int) : Bool := ps.all fun p => decide (atF tk p + 1 < lenAt tb p)
def bumpA (tk ps : List Int) : List Int := ps.foldl (fun t p => bump t p.toNat) tk
def goR (wds : List WD) (tb : List (List Int)) (ord : List Int) : Nat → List Int → Log → Option Res
  | 0, _, _ => none
  | n + 1, tk, log => match firstB (stand tb tk) wds ord with
    | none => some (true, stand tb tk, log)
    | some k => if canN tb tk (plc wds k) = true then goR wds tb ord n (bumpA tk (plc wds k)) (log ++ [(k, huesA (stand tb tk) (plc wds k))]) else some (false, stand tb tk, log)
structure GoodT (many hues : Int) (tb : List (List Int)) : Prop where
  len : (tb.length : Int) = many
  one : ∀ ds ∈ tb, 1 ≤ ds.length
  few : ∀ ds ∈ tb, ds.length ≤ 1000
  hue : ∀ ds ∈ tb, ∀ h ∈ ds, 0 ≤ h ∧ h < hues
structure GoodK (tb : List (List Int)) (tk : List Int) : Prop where
  len : tk.length = tb.length
  at_ : ∀ p : Nat, p < tb.length → 0 ≤ tk.getD p 0 ∧ tk.getD p 0 < ((tb.getD p []).length : Int)
/-- an order of so many numbers -/
structure GoodO (n : Nat) (ord : List Int) : Prop where
  mem : ∀ z ∈ ord, 0 ≤ z ∧ z < (n : Int)
  all : ∀ k : Nat, k < n → (k : Int) ∈ ord
  len : ord.length ≤ n
def zerosI (n : Nat) : List Int := List.replicate n 0
def rem (tb : List (List Int)) (tk : List Int) : Nat := (List.zipWith (fun (ds : List Int) (k : Int) => ds.length - 1 - k.toNat) tb tk).sum
def runOf (wds : List WD) (tb : List (List Int)) (ord : List Int) : Option Res := goR wds tb ord (rem tb (zerosI tb.length) + 1) (zerosI tb.length) []
theorem getD_get {α : Type} {l : List α} {p : Nat} {d : α} (h : p < l.length) : l.getD p d = l[p] := by
  rw [List.getD_eq_getElem?_getD, List.getElem?_eq_getElem h]
  rfl
theorem getD_mem {α : Type} {l : List α} {p : Nat} {d : α} (h : p < l.length) : l.getD p d ∈ l := by
  rw [getD_get h]
  exact List.getElem_mem h
theorem bump_get (tk : List Int) (p i : Nat) : (bump tk p).getD i 0 = if i = p ∧ p < tk.length then tk.getD p 0 + 1 else tk.getD i 0 := by
  unfold bump
  rw [List.getD_eq_getElem?_getD, List.getElem?_set]
  by_cases h : p = i
  · subst h
    by_cases h2 : p < tk.length
    · rw [if_pos rfl, if_pos h2, if_pos ⟨rfl, h2⟩]
      rfl
    · rw [if_pos rfl, if_neg h2, if_neg (fun z => h2 z.2), List.getD_eq_getElem?_getD, List.getElem?_eq_none (by omega)]
  · rw [if_neg h, if_neg (fun z => h z.1.symm), List.getD_eq_getElem?_getD]
theorem zeros_get (n p : Nat) : (zerosI n).getD p 0 = 0 := by
  unfold zerosI
  rw [List.getD_eq_getElem?_getD, List.getElem?_replicate]
  split <;> rfl
theorem zeros_good {many hues : Int} {tb : List (List Int)} (g : GoodT many hues tb) : GoodK tb (zerosI tb.length) := by
  refine ⟨by simp [zerosI], fun p hp => ?_⟩
  rw [zeros_get]
  have := g.one _ (getD_mem (d := []) hp)
  omega
theorem stand_len {tb : List (List Int)} {tk : List Int} (g : GoodK tb tk) : (stand tb tk).length = tb.length := by
  unfold stand
  rw [List.length_zipWith, g.len, Nat.min_self]
theorem left_len {tb : List (List Int)} {tk : List Int} (g : GoodK tb tk) : (leftOf tb tk).length = tb.length := by
  unfold leftOf
  rw [List.length_zipWith, g.len, Nat.min_self]
theorem stand_get {tb : List (List Int)} {tk : List Int} (g : GoodK tb tk) {p : Nat} (hp : p < tb.length) : (stand tb tk)[p]? = some (atF (tb.getD p []) (tk.getD p 0)) := by
  have h2 : p < tk.length := by rw [g.len]; exact hp
  unfold stand
  rw [List.getElem?_zipWith, List.getElem?_eq_getElem hp, List.getElem?_eq_getElem h2, getD_get hp, getD_get h2]
theorem left_get {tb : List (List Int)} {tk : List Int} (g : GoodK tb tk) {p : Nat} (hp : p < tb.length) : (leftOf tb tk)[p]? = some ((tb.getD p []).drop ((tk.getD p 0).toNat + 1)) := by
  have h2 : p < tk.length := by rw [g.len]; exact hp
  unfold leftOf
  rw [List.getElem?_zipWith, List.getElem?_eq_getElem hp, List.getElem?_eq_getElem h2, getD_get hp, getD_get h2]
theorem stand_good {many hues : Int} {tb : List (List Int)} {tk : List Int} (gt : GoodT many hues tb) (g : GoodK tb tk) : GoodF many hues (stand tb tk) := by
  refine ⟨by rw [stand_len g]; exact gt.len, fun h hh => ?_⟩
  obtain ⟨p, hp, e⟩ := List.getElem_of_mem hh
  rw [stand_len g] at hp
  have e2 := stand_get g hp
  rw [List.getElem?_eq_getElem (by rw [stand_len g]; exact hp), e] at e2
  cases e2
  have a := g.at_ p hp
  have m : (tk.getD p 0).toNat < (tb.getD p []).length := by omega
  exact gt.hue _ (getD_mem hp) _ (getD_mem m)
theorem first_some {fs : List Int} {wds : List WD} {ord : List Int} {k : Int} (h : firstB fs wds ord = some k) : k ∈ ord ∧ brkAt fs wds k.toNat = true := ⟨List.mem_of_find?_eq_some h, by
  have z := List.find?_some (p := fun n : Int => brkAt fs wds n.toNat) (l := ord) (a := k) h
  exact z⟩
theorem wd_of {wds : List WD} {k : Int} (h0 : 0 ≤ k) (h1 : k < (wds.length : Int)) : ∃ wd, wds[k.toNat]? = some wd ∧ plc wds k = wd.1 := by
  have h : k.toNat < wds.length := by omega
  exact ⟨wds[k.toNat], List.getElem?_eq_getElem h, by rw [plc, getD_get h]⟩
/-! ### one more draw at a place -/
theorem rem_bump : ∀ {tb : List (List Int)} {tk : List Int} {p : Nat}, p < tb.length → p < tk.length → 0 ≤ tk.getD p 0 → tk.getD p 0 + 1 < ((tb.getD p []).length : Int) → rem tb (bump tk p) + 1 = rem tb tk
  | [], _, _, h, _, _, _ => absurd h (Nat.not_lt_zero _)
  | _ :: _, [], _, _, h, _, _ => absurd h (Nat.not_lt_zero _)
  | ds :: r, k :: q, 0, _, _, h0, h1 => by
    simp only [List.getD_cons_zero] at h0 h1
    unfold rem bump
    simp only [List.getD_cons_zero, List.set_cons_zero, List.zipWith_cons_cons, List.sum_cons]
    omega
  | ds :: r, k :: q, p + 1, hp, hq, h0, h1 => by
    simp only [List.getD_cons_succ] at h0 h1
    have ih := rem_bump (tb := r) (tk := q) (p := p) (Nat.lt_of_succ_lt_succ hp) (Nat.lt_of_succ_lt_succ hq) h0 h1
    unfold rem bump at ih ⊢
    simp only [List.getD_cons_succ, List.set_cons_succ, List.zipWith_cons_cons, List.sum_cons] at ih ⊢
    omega
theorem good_bump {tb : List (List Int)} {tk : List Int} {p : Nat} (g : GoodK tb tk) (hp : p < tb.length) (h : tk.getD p 0 + 1 < ((tb.getD p []).length : Int)) : GoodK tb (bump tk p) := by
  refine ⟨by rw [bump_len]; exact g.len, fun i hi => ?_⟩
  have a := g.at_ i hi
  rw [bump_get]
  by_cases e : i = p
  · subst e
    rw [if_pos ⟨rfl, by rw [g.len]; exact hp⟩]
    omega
  · rw [if_neg (fun z => e z.1)]
    exact a
theorem stand_bump {tb : List (List Int)} {tk : List Int} {p : Nat} {x : Int} {r : List Int} (g : GoodK tb tk) (hp : p < tb.length) (h : (leftOf tb tk)[p]? = some (x :: r)) : stand tb (bump tk p) = (stand tb tk).set p x ∧ leftOf tb (bump tk p) = (leftOf tb tk).set p r ∧ tk.getD p 0 + 1 < ((tb.getD p []).length : Int) := by
  rw [left_get g hp] at h
  have a := g.at_ p hp
  have e := Option.some.inj h
  have hl : (tk.getD p 0).toNat + 1 < (tb.getD p []).length := by
    have z := congrArg List.length e
    rw [List.length_drop, List.length_cons] at z
    omega
  have hc : tk.getD p 0 + 1 < ((tb.getD p []).length : Int) := by omega
  have g2 := good_bump g hp hc
  have en : (tk.getD p 0 + 1).toNat = (tk.getD p 0).toNat + 1 := by omega
  have ex : (tb.getD p []).getD ((tk.getD p 0).toNat + 1) 0 = x := by
    have z := congrArg (fun l : List Int => l[0]?) e
    simp only [List.getElem?_drop, List.getElem?_cons_zero, Nat.add_zero] at z
    rw [List.getD_eq_getElem?_getD, z]
    rfl
  have er : (tb.getD p []).drop ((tk.getD p 0).toNat + 1 + 1) = r := by
    have z := congrArg (fun l : List Int => l.drop 1) e
    simp only [List.drop_drop, List.drop_succ_cons, List.drop_zero] at z
    exact z
  refine ⟨?_, ?_, hc⟩
  · refine List.ext_getElem? fun i => ?_
    rw [List.getElem?_set]
    by_cases hi : i < tb.length
    · rw [stand_get g2 hi, bump_get]
      by_cases e2 : p = i
      · subst e2
        rw [if_pos ⟨rfl, by rw [g.len]; exact hp⟩, if_pos rfl, if_pos (by rw [stand_len g]; exact hp)]
        unfold atF
        rw [en, ex]
      · rw [if_neg (fun z => e2 z.1.symm), if_neg e2, stand_get g hi]
    · rw [List.getElem?_eq_none (by rw [stand_len g2]; omega), if_neg (by omega), List.getElem?_eq_none (by rw [stand_len g]; omega)]
  · refine List.ext_getElem? fun i => ?_
    rw [List.getElem?_set]
    by_cases hi : i < tb.length
    · rw [left_get g2 hi, bump_get]
      by_cases e2 : p = i
      · subst e2
        rw [if_pos ⟨rfl, by rw [g.len]; exact hp⟩, if_pos rfl, if_pos (by rw [left_len g]; exact hp), en, er]
      · rw [if_neg (fun z => e2 z.1.symm), if_neg e2, left_get g hi]
    · rw [List.getElem?_eq_none (by rw [left_len g2]; omega), if_neg (by omega), List.getElem?_eq_none (by rw [left_len g]; omega)]
/-! ### one more draw at some places -/
structure Can (tb : List (List Int)) (tk ps : List Int) : Prop where
  nd : ps.Nodup
  pl : ∀ p ∈ ps, 0 ≤ p ∧ p < (tb.length : Int)
  nx : ∀ p ∈ ps, atF tk p + 1 < lenAt tb p
theorem Can.tail {tb : List (List Int)} {tk ps : List Int} {p : Int} (c : Can tb tk (p :: ps)) : Can tb (bump tk p.toNat) ps := by
  refine ⟨(List.nodup_cons.mp c.nd).2, fun q hq => c.pl q (List.mem_cons_of_mem _ hq), fun q hq => ?_⟩
  have hp := c.pl p List.mem_cons_self
  have hq2 := c.pl q (List.mem_cons_of_mem _ hq)
  have hne : q ≠ p := fun z => (List.nodup_cons.mp c.nd).1 (z ▸ hq)
  have := c.nx q (List.mem_cons_of_mem _ hq)
  unfold atF at this ⊢
  rw [bump_get, if_neg (fun z => hne (by omega))]
  exact this
theorem bumpA_good : ∀ {ps : List Int} {tb : List (List Int)} {tk : List Int}, GoodK tb tk → Can tb tk ps → GoodK tb (bumpA tk ps) ∧ rem tb (bumpA tk ps) + ps.length = rem tb tk
  | [], _, _, g, _ => ⟨g, rfl⟩
  | p :: ps, tb, tk, g, c => by
    have hp := c.pl p List.mem_cons_self
    have hn := c.nx p List.mem_cons_self
    have hpn : p.toNat < tb.length := by omega
    have g2 := good_bump g hpn hn
    have a := g.at_ _ hpn
    have r := rem_bump (tb := tb) (tk := tk) hpn (by rw [g.len]; exact hpn) a.1 hn
    obtain ⟨i1, i2⟩ := bumpA_good (ps := ps) g2 c.tail
    refine ⟨i1, ?_⟩
    show rem tb (bumpA (bump tk p.toNat) ps) + (ps.length + 1) = rem tb tk
    omega
theorem can_of {many hues : Int} {wds : List WD} {tb : List (List Int)} {tk : List Int} {k : Int} {wd : WD} (gr : GoodR many hues wds) (nd : ∀ wd ∈ wds, wd.1.Nodup) (gt : GoodT many hues tb) (hw : wds[k.toNat]? = some wd) (he : plc wds k = wd.1) (h : canN tb tk (plc wds k) = true) : Can tb tk (plc wds k) := by
  have hm := List.mem_of_getElem? hw
  rw [he] at h ⊢
  refine ⟨nd wd hm, fun p hp => ?_, fun p hp => ?_⟩
  · have := (gr.each wd hm).pl p hp
    have := gt.len
    omega
  · exact of_decide_eq_true (List.all_eq_true.mp h p hp)
def LogOk (wds : List WD) (log : Log) : Prop := ∀ e ∈ log, 0 ≤ e.1 ∧ e.1 < (wds.length : Int) ∧ ∃ wd, wds[e.1.toNat]? = some wd ∧ e.2 ∈ wd.2
theorem LogOk.nil (wds : List WD) : LogOk wds [] := fun _ h => nomatch h
theorem LogOk.snoc {wds : List WD} {log : Log} {fs : List Int} {k : Int} {wd : WD} (h : LogOk wds log) (h0 : 0 ≤ k) (h1 : k < (wds.length : Int)) (hw : wds[k.toNat]? = some wd) (he : plc wds k = wd.1) (hb : brkAt fs wds k.toNat = true) : LogOk wds (log ++ [(k, huesA fs (plc wds k))]) := by
  intro e hm
  rcases List.mem_append.mp hm with z | z
  · exact h e z
  · rw [List.mem_singleton.mp z]
    refine ⟨h0, h1, wd, hw, ?_⟩
    rw [brkAt_of hw] at hb
    rw [he]
    exact of_decide_eq_true hb
theorem goR_total {many hues : Int} {wds : List WD} {tb : List (List Int)} {ord : List Int} (gr : GoodR many hues wds) (nd : ∀ wd ∈ wds, wd.1.Nodup) (gt : GoodT many hues tb) (go : GoodO wds.length ord) :
    ∀ (n : Nat) (tk : List Int) (log : Log), GoodK tb tk → LogOk wds log → rem tb tk < n → ∃ R, goR wds tb ord n tk log = some R ∧ GoodF many hues R.2.1 ∧ LogOk wds R.2.2 ∧ R.2.2.length ≤ log.length + rem tb tk
  | 0, _, _, _, _, h => absurd h (Nat.not_lt_zero _)
  | n + 1, tk, log, g, hl, h => by
    cases e : firstB (stand tb tk) wds ord with
    | none => exact ⟨(true, stand tb tk, log), by simp only [goR, e], stand_good gt g, hl, Nat.le_add_right _ _⟩
    | some k =>
      obtain ⟨hk, hb⟩ := first_some e
      obtain ⟨k0, k1⟩ := go.mem k hk
      obtain ⟨wd, hw, he⟩ := wd_of k0 k1
      cases c : canN tb tk (plc wds k) with
      | false => exact ⟨(false, stand tb tk, log), by simp only [goR, e, c]; rfl, stand_good gt g, hl, Nat.le_add_right _ _⟩
      | true =>
        have cn := can_of gr nd gt hw he c
        obtain ⟨g2, r2⟩ := bumpA_good g cn
        have one := (gr.each wd (List.mem_of_getElem? hw)).one
        rw [← he] at one
        obtain ⟨R, hR, a1, a2, a3⟩ := goR_total gr nd gt go n (bumpA tk (plc wds k)) (log ++ [(k, huesA (stand tb tk) (plc wds k))]) g2 (hl.snoc k0 k1 hw he hb) (by omega)
        refine ⟨R, by simp only [goR, e, c, if_true]; exact hR, a1, a2, ?_⟩
        rw [List.length_append, List.length_singleton] at a3
        omega
theorem rem_le : ∀ (tb : List (List Int)) (tk : List Int) (b : Nat), (∀ ds ∈ tb, ds.length ≤ b) → rem tb tk ≤ tb.length * b
  | [], _, _, _ => by simp [rem]
  | _ :: _, [], _, _ => by simp [rem]
  | ds :: r, k :: q, b, h => by
    have ih := rem_le r q b fun d hd => h d (List.mem_cons_of_mem _ hd)
    have a := h ds List.mem_cons_self
    unfold rem at ih ⊢
    rw [List.zipWith_cons_cons, List.sum_cons, List.length_cons, Nat.succ_mul]
    omega
theorem runOf_some {many hues : Int} {wds : List WD} {tb : List (List Int)} {ord : List Int} (gr : GoodR many hues wds) (nd : ∀ wd ∈ wds, wd.1.Nodup) (gt : GoodT many hues tb) (go : GoodO wds.length ord) :
    ∃ R, runOf wds tb ord = some R ∧ GoodF many hues R.2.1 ∧ LogOk wds R.2.2 ∧ R.2.2.length ≤ 6000 := by
  obtain ⟨R, h1, h2, h3, h4⟩ := goR_total gr nd gt go (rem tb (zerosI tb.length) + 1) (zerosI tb.length) [] (zeros_good gt) (LogOk.nil _) (Nat.lt_succ_self _)
  refine ⟨R, h1, h2, h3, ?_⟩
  have a := rem_le tb (zerosI tb.length) 1000 gt.few
  have b := gt.len
  have c := gr.m6
  rw [List.length_nil] at h4
  have : tb.length ≤ 6 := by omega
  omega
/-! ### the first broken one, as the law finds it -/
theorem broL_iff {fs : List Int} {wds : List WD} {n : Nat} {z : Int} : z ∈ broL fs wds n ↔ 0 ≤ z ∧ z < (n : Int) ∧ brkAt fs wds z.toNat = true := by
  unfold broL
  rw [List.mem_map]
  constructor
  · rintro ⟨k, hk, rfl⟩
    obtain ⟨h1, h2⟩ := List.mem_filter.mp hk
    have := List.mem_range.mp h1
    exact ⟨by omega, by omega, by rw [Int.toNat_natCast]; exact h2⟩
  · rintro ⟨h0, h1, h2⟩
    exact ⟨z.toNat, List.mem_filter.mpr ⟨List.mem_range.mpr (by omega), h2⟩, by omega⟩
theorem first_filter {fs : List Int} {wds : List WD} {ord : List Int} (go : GoodO wds.length ord) : (ord.filter fun z => decide (z ∈ broL fs wds wds.length)).head? = firstB fs wds ord := by
  unfold firstB
  rw [List.head?_filter]
  have e : ∀ l : List Int, (∀ z ∈ l, 0 ≤ z ∧ z < (wds.length : Int)) → l.find? (fun z => decide (z ∈ broL fs wds wds.length)) = l.find? (fun n => brkAt fs wds n.toNat) := by
    intro l
    induction l with
    | nil => intro _; rfl
    | cons a r ih =>
      intro h
      have ha := h a List.mem_cons_self
      have hq : decide (a ∈ broL fs wds wds.length) = brkAt fs wds a.toNat := by
        cases c : brkAt fs wds a.toNat with
        | true => exact decide_eq_true (broL_iff.mpr ⟨ha.1, ha.2, c⟩)
        | false => exact decide_eq_false fun z => by rw [(broL_iff.mp z).2.2] at c; cases c
      rw [List.find?_cons, List.find?_cons, hq, ih fun z hz => h z (List.mem_cons_of_mem _ hz)]
  exact e ord go.mem
theorem first_none {fs : List Int} {wds : List WD} {ord : List Int} (go : GoodO wds.length ord) : firstB fs wds ord = none ↔ broL fs wds wds.length = [] := by
  constructor
  · intro h
    rw [List.eq_nil_iff_forall_not_mem]
    intro z hz
    obtain ⟨h0, h1, h2⟩ := broL_iff.mp hz
    have hm := go.all z.toNat (by omega)
    have e : ((z.toNat : Nat) : Int) = z := by omega
    rw [e] at hm
    have := List.find?_eq_none.mp h z hm
    exact this h2
  · intro h
    refine List.find?_eq_none.mpr fun z hz c => ?_
    have hm := go.mem z hz
    have : z ∈ broL fs wds wds.length := broL_iff.mpr ⟨hm.1, hm.2, c⟩
    rw [h] at this
    cases this
end Dt

set_option Elab.async false
set_option linter.all false
set_option maxRecDepth 100000
set_option maxHeartbeats 4000000
/-! calls, frames, tables, logs: over no program -/
namespace Rd
open PySem PySem.Spec PyProof.Rows L2 Dt
theorem same_upd {H : Hp} {p : Addr} {o : HO} (h : H p = none) : Same H (upd H p o) := fun b x e => by
  rw [upd_ne (ne_of_none e h)]
  exact e
def Cal (P : Program) (w : World) (K : PySem.W.Frag) (mg : Str → Option Value) (base : Heap) (k : Nat) (x : Str) (ps : List Str) (sp : Sp) : Prop :=
  ∃ (f : Addr) (fd : FuncData), FnOk P w K mg base CX0 k f fd ps sp ∧ mg x = some (.ref f) ∧ PySem.W.keepIn K (.ref f) = true ∧ Binds K fd ps []
theorem pe_cal {X : Cx} {k : Nat} {x : Str} {ps : List Str} {sp : Sp} {p pos : Pos} {e : Expr} {es : List Expr} {t : TA} (C : Cal X.prog X.w X.K X.mg X.base k x ps sp) (hr : Room k X.A) (hg : Gl X x)
    (ha : PA X (e :: es) t) (hdb : (x == ("__debug__" : Str)) = false := by decide) (he : starEach (e :: es) X.env = (false, eval e X.env) :: starEach es X.env := by rfl) (hpl : (backTo pos (starEach es X.env)).any (·.1) = false := by rfl) :
    PE X (.Call (.Name x p) (e :: es) [] pos) (tCall sp [] E0 t) := by
  obtain ⟨f, fd, F, hm, hk, hb⟩ := C
  exact pe_call F hr hg hm hk hb .nil pass0 ha hdb he hpl
/-- a def whose code object is known -/
structure FunC (K : PySem.W.Frag) (x qual : Str) (st : Stmt) (f : Addr) (fd : FuncData) (cdv : Value) : Prop where
  ex : ∃ (oc : Value) (od : Option Addr) (kV doc pm : Value) (an : Option Addr) (ct : Value) (osl : Array (Option Value)),
    fd = PySem.W.fnOf x qual (defArgs st) (defBody st) (defScope st) .none kV doc pm an cdv ct ∧ K.lookup f = some ⟨oc, od, .func fd, osl⟩ ∧ PySem.W.codeIn K cdv qual = true
theorem FunC.ok {P : Program} {w : World} {K : PySem.W.Frag} {mg : Str → Option Value} {base : Heap} {x qual : Str} {st : Stmt} {f : Addr} {fd : FuncData} {cdv : Value} {N ps : List Str} {k : Nat} {sp : Sp} (F : FunC K x qual st f fd cdv) (S : FnScope N ps (defScope st)) (len : ∀ vs H Q E, sp vs H Q E → vs.length = ps.length)
    (body : ∀ (A : Around) (outer : List Env) (s : Shared) (H : Hp) (vs : List V) (Q : VK) (E : XK), Room k (A.deeper (envOfC qual (defScope st) s.heap.objs.size f cdv)) → sp vs H Q E →
      ∃ t, PSs (cxOf CX0 P w K mg base N qual (defScope st) f cdv A outer s H E).nox (defBody st) t ∧ t { nx := fun _ H' => Q .non H', rt := Q } (start N vs) H) : FnOk P w K mg base CX0 (k + 1) f fd ps sp := by
  obtain ⟨oc, od, kV, doc, pm, an, ct, osl, rfl, lk, hcd⟩ := F.ex
  refine fn_of lk hcd S len fun A outer s H vs Q E hr hsp => ?_
  obtain ⟨t, h, q⟩ := body A outer s H vs Q E hr hsp
  exact ⟨t, h.nox, q⟩
theorem units65 {A : Around} {k : Nat} (hr : Room k A) : A.units + 65 < cLine := by have := hr.un; omega
/-! ### frames but for some tables -/
def Tabs (Ps : List Addr) (H : Hp) : Prop := ∀ P ∈ Ps, GxR.TabG H P
def FrS (Ps : List Addr) (H H' : Hp) : Prop := (∀ b o, b ∉ Ps → H b = some o → H' b = some o) ∧ Tabs Ps H'
/-- tuples and lists stay -/
def Seqs (H H' : Hp) : Prop := Tups H H' ∧ ∀ b xs, H b = some (.lst xs) → H' b = some (.lst xs)
theorem Seqs.refl (H : Hp) : Seqs H H := ⟨Tups.refl H, fun _ _ e => e⟩
theorem Seqs.trans {H H1 H2 : Hp} (a : Seqs H H1) (b : Seqs H1 H2) : Seqs H H2 := ⟨a.1.trans b.1, fun c xs e => b.2 c xs (a.2 c xs e)⟩
theorem seqs_same {H H' : Hp} (s : Same H H') : Seqs H H' := ⟨tups_same s, fun b xs e => s b _ e⟩
theorem FrS.refl {Ps : List Addr} {H : Hp} (t : Tabs Ps H) : FrS Ps H H := ⟨fun _ _ _ e => e, t⟩
theorem FrS.trans {Ps : List Addr} {H H1 H2 : Hp} (a : FrS Ps H H1) (b : FrS Ps H1 H2) : FrS Ps H H2 := ⟨fun x o n e => b.1 x o n (a.1 x o n e), b.2⟩
theorem FrS.of {Ps : List Addr} {H H' : Hp} (t : Tabs Ps H) (s : Same H H') : FrS Ps H H' := ⟨fun b o _ e => s b o e, fun P hP => let ⟨ps, h, q⟩ := t P hP; ⟨ps, s _ _ h, q⟩⟩
theorem FrS.same {Ps : List Addr} {H H1 H2 : Hp} (a : FrS Ps H H1) (s : Same H1 H2) : FrS Ps H H2 := a.trans (FrS.of a.2 s)
theorem FrS.one {Ps : List Addr} {P : Addr} {H H' : Hp} (t : Tabs Ps H) (hP : P ∈ Ps) (f : GxR.Tabbed P H H') : FrS Ps H H' := by
  refine ⟨fun b o n e => ?_, fun Q hQ => ?_⟩
  · rw [f.2 b (fun z => n (by rw [z]; exact hP))]
    exact e
  · by_cases z : Q = P
    · rw [z]; exact f.1
    · obtain ⟨ps, h, q⟩ := t Q hQ
      exact ⟨ps, by rw [f.2 Q z]; exact h, q⟩
theorem Tabs.tup {Ps : List Addr} {H : Hp} (t : Tabs Ps H) {b : Addr} {xs : List V} (e : H b = some (.tup xs)) : b ∉ Ps := fun z => by
  obtain ⟨ps, h, _⟩ := t b z
  rw [e] at h
  cases h
theorem Tabs.lst {Ps : List Addr} {H : Hp} (t : Tabs Ps H) {b : Addr} {xs : List V} (e : H b = some (.lst xs)) : b ∉ Ps := fun z => by
  obtain ⟨ps, h, _⟩ := t b z
  rw [e] at h
  cases h
theorem FrS.seqs {Ps : List Addr} {H H' : Hp} (t : Tabs Ps H) (f : FrS Ps H H') : Seqs H H' := ⟨fun b xs e => f.1 b _ (t.tup e) e, fun b xs e => f.1 b _ (t.lst e) e⟩
theorem FrS.tups {Ps : List Addr} {H H' : Hp} (t : Tabs Ps H) (f : FrS Ps H H') : Tups H H' := (f.seqs t).1
theorem FrS.free {Ps : List Addr} {H H' : Hp} {b : Addr} (f : FrS Ps H H') (h : H' b = none) : H b = none := by
  cases e : H b with
  | none => rfl
  | some o =>
    by_cases z : b ∈ Ps
    · obtain ⟨ps, q, _⟩ := f.2 b z
      rw [q] at h
      cases h
    · rw [f.1 b o z e] at h
      cases h
/-- a store at a place that wasn't there at first -/
theorem FrS.put {Ps : List Addr} {H H1 : Hp} {b : Addr} {o : HO} (a : FrS Ps H H1) (n : H b = none) (nb : b ∉ Ps) : FrS Ps H (upd H1 b o) :=
  ⟨fun x u nx e => by rw [upd_ne (ne_of_none e n)]; exact a.1 x u nx e, fun P hP => by
    obtain ⟨ps, h, q⟩ := a.2 P hP
    exact ⟨ps, by rw [upd_ne (fun z : P = b => nb (by rw [← z]; exact hP))]; exact h, q⟩⟩
theorem Tabs.new {Ps : List Addr} {H : Hp} (t : Tabs Ps H) {b : Addr} (n : H b = none) : b ∉ Ps := fun z => by
  obtain ⟨ps, h, _⟩ := t b z
  rw [n] at h
  cases h
theorem Tabs.same {Ps : List Addr} {H H' : Hp} (t : Tabs Ps H) (s : Same H H') : Tabs Ps H' := (FrS.of t s).2
theorem Tabs.put {Ps : List Addr} {H : Hp} (t : Tabs Ps H) {b : Addr} {o : HO} (nb : b ∉ Ps) : Tabs Ps (upd H b o) := fun P hP => by
  obtain ⟨ps, h, q⟩ := t P hP
  exact ⟨ps, by rw [upd_ne (fun z : P = b => nb (by rw [← z]; exact hP))]; exact h, q⟩
theorem free_same {H H' : Hp} {b : Addr} (s : Same H H') (h : H' b = none) : H b = none := s.free h
theorem same_put {H H1 : Hp} {b : Addr} {o : HO} (s : Same H H1) (n : H b = none) : Same H (upd H1 b o) := fun x u e => by
  rw [upd_ne (ne_of_none e n)]
  exact s x u e
/-! ### numbers, lists -/
theorem cut_from {α : Type} (f : α → V) (l : List α) (k : Nat) : cutV (l.map f) (some (k : Int)) none = (l.drop k).map f := by
  unfold cutV
  rw [HT.sIx_nat, HT.sIx_none, List.length_map, ← List.map_drop]
  by_cases h : k ≤ l.length
  · rw [Nat.min_eq_left h, List.take_of_length_le (by rw [List.length_map, List.length_drop]; exact Nat.le_refl _)]
  · have h2 : l.drop k = [] := List.drop_eq_nil_of_le (by omega)
    rw [Nat.min_eq_right (by omega), Nat.sub_self, List.take_zero, h2]
    rfl
theorem cut_to {α : Type} (f : α → V) (l : List α) (k : Nat) : cutV (l.map f) none (some (k : Int)) = (l.take k).map f := by
  unfold cutV
  rw [HT.sIx_nat, HT.sIx_none, List.length_map, List.drop_zero, Nat.sub_zero, ← List.map_take]
  by_cases h : k ≤ l.length
  · rw [Nat.min_eq_left h]
  · rw [Nat.min_eq_right (by omega), List.take_of_length_le (Nat.le_refl _), List.take_of_length_le (by omega)]
theorem log_small {m : Int} (h0 : 0 ≤ m) (h : m < 4294967296) : m.natAbs.log2 < 9000 := by
  have e : m.natAbs < 2 ^ 32 := by omega
  by_cases z : m.natAbs = 0
  · rw [z]; decide
  · have := (Nat.log2_lt z).mpr e
    omega
def toI : V → Int
  | .int i => i
  | _ => 0
def rowAt (H : Hp) (t : Addr) : List Int := match H t with
  | some (.tup xs) => xs.map toI
  | _ => []
theorem rowAt_of {H : Hp} {t : Addr} {row : Dt.Row} (h : IsRow H t row) : rowAt H t = row := by
  unfold rowAt
  rw [show H t = some (.tup (row.map V.int)) from h]
  show (row.map V.int).map toI = row
  rw [List.map_map]
  have e : (toI ∘ V.int) = id := by funext z; rfl
  rw [e, List.map_id]
def rngI (m : Int) : List Int := (List.range m.toNat).map fun (i : Nat) => (i : Int)
theorem rngI_len (m : Int) : (rngI m).length = m.toNat := by
  unfold rngI
  rw [List.length_map, List.length_range]
theorem rngI_mem {m z : Int} (h : z ∈ rngI m) : 0 ≤ z ∧ z < m := by
  obtain ⟨i, hi, rfl⟩ := List.mem_map.mp h
  have := List.mem_range.mp hi
  omega
theorem rngI_all {m : Int} {k : Nat} (h : (k : Int) < m) : (k : Int) ∈ rngI m := List.mem_map.mpr ⟨k, List.mem_range.mpr (by omega), rfl⟩
theorem rngI_nodup (m : Int) : (rngI m).Nodup := by
  unfold rngI
  refine List.Pairwise.map _ (fun a b h z => h ?_) (List.nodup_range (n := m.toNat))
  omega
theorem rgV_eq (m : Int) : rgV 0 m = (rngI m).map V.int := by
  unfold rgV rngI
  rw [List.map_map]
  have e : (m - 0).toNat = m.toNat := by rw [Int.sub_zero]
  rw [e]
  refine List.map_congr_left fun i _ => ?_
  show V.int (0 + (i : Int)) = V.int (i : Int)
  rw [Int.zero_add]
theorem map_erase {α : Type} (f : α → V) (ls : List α) (k : Nat) : (ls.map f).eraseIdx k = (ls.eraseIdx k).map f := by
  induction ls generalizing k with
  | nil => rfl
  | cons a r ih => cases k with
    | zero => rfl
    | succ k => simp [ih]
theorem erase_perm {α : Type} : ∀ (l : List α) (k : Nat) (h : k < l.length), (l[k] :: l.eraseIdx k).Perm l
  | [], k, h => absurd h (Nat.not_lt_zero _)
  | a :: r, 0, _ => List.Perm.refl _
  | a :: r, k + 1, h => by
    have ih := erase_perm r k (Nat.lt_of_succ_lt_succ h)
    show ((r[k]'(Nat.lt_of_succ_lt_succ h)) :: a :: r.eraseIdx k).Perm (a :: r)
    exact (List.Perm.swap a _ _).trans (List.Perm.cons a ih)
theorem map_get {α : Type} {f : α → V} {l : List α} {i : Nat} {x : V} (h : (l.map f)[i]? = some x) : ∃ a, l[i]? = some a ∧ x = f a := by
  rw [List.getElem?_map] at h
  cases e : l[i]? with
  | none => rw [e] at h; cases h
  | some a => rw [e] at h; cases h; exact ⟨a, rfl, rfl⟩
theorem map_at {α : Type} {f : α → V} {l : List α} {i : Nat} {a : α} (h : l[i]? = some a) : (l.map f)[i]? = some (f a) := by
  rw [List.getElem?_map, h]
  rfl
theorem atI_of {α : Type} {f : α → V} {l : List α} {p : Int} {a : α} (h0 : 0 ≤ p) (h : l[p.toNat]? = some a) : atI (l.map f) p = some (f a) := by
  have e : p = ((p.toNat : Nat) : Int) := by omega
  have q := atI_nat (xs := l.map f) (j := p.toNat) (v := f a) (map_at h)
  rw [← e] at q
  exact q
theorem ixN_of {n : Nat} {p : Int} (h0 : 0 ≤ p) (h1 : p < n) : ixN n p = some p.toNat := by
  unfold ixN
  rw [if_pos h0, if_pos h1]
theorem take_snoc {α : Type} {l : List α} {i : Nat} {a : α} (h : l[i]? = some a) : l.take (i + 1) = l.take i ++ [a] := by
  rw [List.take_add_one, h]
  rfl
/-! ### the tape -/
def Tape (H : Hp) (tp : Addr) : Prop := ∃ b c : Int, H tp = some (.lst [.int b, .int c]) ∧ 0 ≤ b ∧ 0 ≤ c ∧ c ≤ 2147483647
def Taped (tp : Addr) (H H' : Hp) : Prop := (∀ b o, b ≠ tp → H b = some o → H' b = some o) ∧ Tape H' tp
theorem Tape.same {H H' : Hp} {tp : Addr} (h : Tape H tp) (s : Same H H') : Tape H' tp := let ⟨b, c, h1, r⟩ := h; ⟨b, c, s _ _ h1, r⟩
theorem Tape.seqs {H H' : Hp} {tp : Addr} (h : Tape H tp) (s : Seqs H H') : Tape H' tp := let ⟨b, c, h1, r⟩ := h; ⟨b, c, s.2 _ _ h1, r⟩
theorem Tape.new {H : Hp} {tp b : Addr} (h : Tape H tp) (n : H b = none) : b ≠ tp := fun z => by
  obtain ⟨_, _, h1, _⟩ := h
  rw [z, h1] at n
  cases n
theorem Tape.put {H : Hp} {tp b : Addr} {o : HO} (h : Tape H tp) (n : b ≠ tp) : Tape (upd H b o) tp := let ⟨x, c, h1, r⟩ := h; ⟨x, c, by rw [upd_ne n.symm]; exact h1, r⟩
theorem Taped.refl {H : Hp} {tp : Addr} (h : Tape H tp) : Taped tp H H := ⟨fun _ _ _ e => e, h⟩
theorem Taped.trans {H H1 H2 : Hp} {tp : Addr} (a : Taped tp H H1) (b : Taped tp H1 H2) : Taped tp H H2 := ⟨fun x o n e => b.1 x o n (a.1 x o n e), b.2⟩
theorem Taped.same {H H1 H2 : Hp} {tp : Addr} (a : Taped tp H H1) (s : Same H1 H2) : Taped tp H H2 := ⟨fun x o n e => s _ _ (a.1 x o n e), a.2.same s⟩
theorem Taped.put {H H1 : Hp} {tp b : Addr} {o : HO} (a : Taped tp H H1) (n : H b = none) (nb : b ≠ tp) : Taped tp H (upd H1 b o) :=
  ⟨fun x u nx e => by rw [upd_ne (ne_of_none e n)]; exact a.1 x u nx e, a.2.put nb⟩
theorem Taped.tups {H H' : Hp} {tp : Addr} (t : Tape H tp) (a : Taped tp H H') : Tups H H' := fun b xs e => by
  obtain ⟨_, _, h1, _⟩ := t
  exact a.1 b _ (fun z => by rw [z, h1] at e; cases e) e
theorem Taped.free {H H' : Hp} {tp b : Addr} (a : Taped tp H H') (n : H' b = none) : H b = none := by
  cases e : H b with
  | none => rfl
  | some o =>
    have m := a.2.new n
    rw [a.1 b o m e] at n
    cases n
theorem Taped.tabs {Ps : List Addr} {H H' : Hp} {tp : Addr} (t : Tape H tp) (a : Taped tp H H') (tt : Tabs Ps H) : Tabs Ps H' := fun P hP => by
  obtain ⟨ps, h, q⟩ := tt P hP
  obtain ⟨_, _, h1, _⟩ := t
  exact ⟨ps, a.1 P _ (fun z => by rw [z, h1] at h; cases h) h, q⟩
/-- len of a list or a tuple -/
def rLen (K : PySem.W.Frag) : List V → Hp → VK → Prop := fun xs H Q => ∃ p ys, xs = [.ref p] ∧ (SqL K H p ys ∨ SqT K H p ys) ∧ Q (.int (ys.length : Nat)) H
/-! ### pairs of ints, written -/
def pairsT : List (Int × Int) → TA
  | [] => tNil
  | p :: r => tCons (tTup (tCons (tC (.int p.1)) (tCons (tC (.int p.2)) tNil))) (pairsT r)
def IsPr (H : Hp) (t : Addr) (p : Int × Int) : Prop := H t = some (.tup [.int p.1, .int p.2])
theorem pairs_read {σ : L2.St} : ∀ (prs : List (Int × Int)) (H : Hp) (k : List V → Hp → Prop), (∀ ts H', Same H H' → Paired (IsPr H') ts prs → k (ts.map V.ref) H') → pairsT prs σ H k
  | [], H, k, h => h [] H (fun _ _ e => e) .nil
  | p :: r, H, k, h => by
    refine ⟨(by show 2 ≤ sizeLine; decide), fun t nt => ?_⟩
    refine pairs_read r _ _ fun ts H' sm pr => ?_
    exact h (t :: ts) H' ((same_upd nt).trans sm) (.cons (sm _ _ upd_same) pr)
theorem pairs_list {σ : L2.St} {prs : List (Int × Int)} {H : Hp} {Q : VK} (hl : prs.length ≤ 1000) (h : ∀ l ts H', Same H H' → H l = none → H' l = some (.lst (ts.map V.ref)) → Paired (IsPr H') ts prs → Q (.ref l) H') : tLst (pairsT prs) σ H Q := by
  refine pairs_read prs H _ fun ts H' sm pr => ?_
  refine ⟨by rw [List.length_map, pairedLen pr]; exact Nat.le_of_lt (small1000 hl), fun l nl => ?_⟩
  have sl := same_upd (o := .lst (ts.map V.ref)) nl
  exact h l ts _ (sm.trans sl) (sm.free nl) upd_same (pairedMap (fun _ _ e => sl _ _ e) pr)
theorem pairs_asg {i : Nat} {prs : List (Int × Int)} {D : Ends} {σ : L2.St} {H : Hp} (hl : prs.length ≤ 1000) (h : ∀ l ts H', Same H H' → H l = none → H' l = some (.lst (ts.map V.ref)) → Paired (IsPr H') ts prs → D.nx (σ.set i (some (.ref l))) H') : tAsg (tLst (pairsT prs)) (gName i) D σ H := by
  unfold tAsg
  exact pairs_list hl fun l ts H' a b c d => h l ts H' a b c d
theorem pairs_set {i : Nat} {prs : List (Int × Int)} {u : TS} {D : Ends} {σ : L2.St} {H : Hp} (hl : prs.length ≤ 1000) (h : ∀ l ts H', Same H H' → H l = none → H' l = some (.lst (ts.map V.ref)) → Paired (IsPr H') ts prs → u D (σ.set i (some (.ref l))) H') : tSeq (tAsg (tLst (pairsT prs)) (gName i)) u D σ H := pairs_asg hl h
/-! ### things popped at drawn places -/
structure Pops {α : Type} (f : α → V) (tp : Addr) (H : Hp) (l D : Addr) (zs0 : List α) (i : Nat) (H5 : Hp) (acc ls : List α) : Prop where
  fr : Taped tp H H5
  hL : H5 l = some (.lst (ls.map f))
  hD : H5 D = some (.lst (acc.map f))
  la : acc.length = i
  ll : ls.length + i = zs0.length
  pm : (acc ++ ls).Perm zs0
theorem pop_step {α : Type} {f : α → V} {tp : Addr} {H : Hp} {l D : Addr} {zs0 : List α} {i : Nat} {H5 H6 : Hp} {acc ls : List α} {d : Int} (nl : H l = none) (nlt : l ≠ tp) (nD : H D = none) (nDt : D ≠ tp) (nlD : l ≠ D) (hz : zs0.length ≤ 999) (p : Pops f tp H l D zs0 i H5 acc ls) (D6 : Taped tp H5 H6) (d0 : 0 ≤ d) (d1 : d < (ls.length : Int)) :
    ∃ y, (ls.map f)[d.toNat]? = some y ∧ H6 l = some (.lst (ls.map f)) ∧ seqIndex? d (ls.map f).length = some d.toNat ∧ ∃ acc', upd H6 l (.lst ((ls.map f).eraseIdx d.toNat)) D = some (.lst acc') ∧ acc'.length < sizeLine ∧ ∃ acc2 ls2, Pops f tp H l D zs0 (i + 1) (upd (upd H6 l (.lst ((ls.map f).eraseIdx d.toNat))) D (.lst (acc' ++ [y]))) acc2 ls2 := by
  have hd : d.toNat < ls.length := by omega
  have hL6 := D6.1 l _ nlt p.hL
  have hD6 := D6.1 D _ nDt p.hD
  have la := p.la
  have ll := p.ll
  refine ⟨f ls[d.toNat], map_at (List.getElem?_eq_getElem hd), hL6, seqIndex_of d0 (by rw [List.length_map]; exact d1), acc.map f, ?_, ?_, acc ++ [ls[d.toNat]], ls.eraseIdx d.toNat, ?_, ?_, ?_, ?_, ?_, ?_⟩
  · rw [upd_ne (Ne.symm nlD)]
    exact hD6
  · rw [List.length_map]
    exact small1000 (by omega)
  · exact ((p.fr.trans D6).put nl nlt).put nD nDt
  · rw [upd_ne nlD, upd_same, map_erase]
  · rw [upd_same, List.map_append]
    rfl
  · rw [List.length_append, la]
    rfl
  · rw [List.length_eraseIdx_of_lt hd]
    omega
  · refine List.Perm.trans ?_ p.pm
    rw [List.append_assoc]
    exact List.Perm.append_left acc (erase_perm ls _ hd)
/-! ### lists of rows -/
def IsFills (H : Hp) (l : Addr) (fss : List (List Int)) : Prop := ∃ as : List Addr, H l = some (.lst (as.map V.ref)) ∧ Paired (IsRow H) as fss
theorem pairedSnoc {α β : Type} {F : α → β → Prop} {a : α} {b : β} : ∀ {l : List α} {m : List β}, Paired F l m → F a b → Paired F (l ++ [a]) (m ++ [b])
  | _, _, .nil, h => .cons h .nil
  | _, _, .cons h t, k => .cons h (pairedSnoc t k)
theorem pairedApp {α β : Type} {F : α → β → Prop} {l2 : List α} {m2 : List β} : ∀ {l : List α} {m : List β}, Paired F l m → Paired F l2 m2 → Paired F (l ++ l2) (m ++ m2)
  | _, _, .nil, h => h
  | _, _, .cons h t, k => .cons h (pairedApp t k)
theorem yes_if {σ : L2.St} {H : Hp} {A B : Hp → Prop} (h : A H) : tYes σ H (fun b H3 => if b = true then A H3 else B H3) := by
  dsimp only [tYes]
  rw [if_pos rfl]
  exact h
theorem longer_at {hues j : Nat} (f : List Int) (h : j < hues) : (longer hues f)[j]? = some (f ++ [(j : Int)]) := by
  unfold longer
  rw [List.getElem?_map, List.getElem?_range h]
  rfl
theorem pairedZip {α β : Type} {F : α → β → Prop} : ∀ {l : List α} {m : List β}, Paired F l m → ∃ zs : List (α × β), zs.map (·.1) = l ∧ zs.map (·.2) = m ∧ ∀ z ∈ zs, F z.1 z.2
  | _, _, .nil => ⟨[], rfl, rfl, fun _ h => nomatch h⟩
  | a :: _, b :: _, .cons h t => by
    obtain ⟨zs, h1, h2, h3⟩ := pairedZip t
    refine ⟨(a, b) :: zs, by rw [List.map_cons, h1], by rw [List.map_cons, h2], fun z hz => ?_⟩
    rcases List.mem_cons.mp hz with e | e
    · rw [e]; exact h
    · exact h3 z e
theorem pairedOf {α β : Type} {F : α → β → Prop} {g : α → β} : ∀ {l : List α}, (∀ a ∈ l, F a (g a)) → Paired F l (l.map g)
  | [], _ => .nil
  | a :: r, h => .cons (h a List.mem_cons_self) (pairedOf fun b hb => h b (List.mem_cons_of_mem _ hb))
theorem longer_nodup (hues : Nat) (f : List Int) : (longer hues f).Nodup := by
  unfold longer
  refine List.Pairwise.map _ (fun a b h z => h ?_) (List.nodup_range (n := hues))
  have := List.append_cancel_left z
  simp only [List.cons.injEq, and_true] at this
  omega
theorem flat_nodup {hues : Nat} : ∀ {l : List (List Int)}, l.Nodup → (l.flatMap (longer hues)).Nodup
  | [], _ => by simp
  | f :: r, h => by
    rw [List.flatMap_cons]
    have hh := List.nodup_cons.mp h
    refine List.nodup_append.mpr ⟨longer_nodup hues f, flat_nodup hh.2, fun a ha b hb e => ?_⟩
    obtain ⟨i, _, rfl⟩ := List.mem_map.mp ha
    obtain ⟨g, hg, hb2⟩ := List.mem_flatMap.mp hb
    obtain ⟨j, _, rfl⟩ := List.mem_map.mp hb2
    have e2 : f = g := by
      have := congrArg List.dropLast e
      simpa using this
    exact hh.1 (e2 ▸ hg)
theorem fill_nodup (hues : Nat) : ∀ n : Nat, (fillL hues n).Nodup
  | 0 => by simp [fillL]
  | n + 1 => flat_nodup (fill_nodup hues n)
/-- places rising, no row twice -/
structure Neat (wd : WD) : Prop where
  pl : wd.1.Pairwise (· < ·)
  rows : wd.2.Nodup
theorem Neat.nd {wd : WD} (h : Neat wd) : wd.1.Nodup := h.pl.imp fun z e => by omega
theorem rise_of {ps : List Int} (h : ps.Pairwise (· ≤ ·)) (n : ps.Nodup) : ps.Pairwise (· < ·) := by
  have z := List.Pairwise.and h n
  exact z.imp fun ⟨a, b⟩ => by omega
/-! ### tables of draws -/
abbrev IsInts (H : Hp) (a : Addr) (ns : List Int) : Prop := H a = some (.lst (ns.map V.int))
/-- a list of lists of ints, none of them in Av -/
def IsTab (Av : Addr → Prop) (H : Hp) (ta : Addr) (tb : List (List Int)) : Prop := ∃ das : List Addr, H ta = some (.lst (das.map V.ref)) ∧ ¬ Av ta ∧ (∀ d ∈ das, ¬ Av d) ∧ Paired (IsInts H) das tb
theorem IsTab.mono {Av : Addr → Prop} {H H' : Hp} {ta : Addr} {tb : List (List Int)} (h : IsTab Av H ta tb) (k : ∀ b xs, ¬ Av b → H b = some (.lst xs) → H' b = some (.lst xs)) : IsTab Av H' ta tb := by
  obtain ⟨das, h1, h2, h3, h4⟩ := h
  refine ⟨das, k _ _ h2 h1, h2, h3, ?_⟩
  clear h1
  induction h4 with
  | nil => exact .nil
  | @cons a b l m e t ih => exact .cons (k _ _ (h3 a List.mem_cons_self) e) (ih fun d hd => h3 d (List.mem_cons_of_mem _ hd))
theorem IsTab.seqs {Av : Addr → Prop} {H H' : Hp} {ta : Addr} {tb : List (List Int)} (h : IsTab Av H ta tb) (s : Seqs H H') : IsTab Av H' ta tb := h.mono fun b xs _ e => s.2 b xs e
theorem IsTab.weak {Av Bv : Addr → Prop} {H : Hp} {ta : Addr} {tb : List (List Int)} (h : IsTab Av H ta tb) (k : ∀ b, Bv b → Av b) : IsTab Bv H ta tb := let ⟨das, h1, h2, h3, h4⟩ := h; ⟨das, h1, fun z => h2 (k _ z), fun d hd z => h3 d hd (k _ z), h4⟩
theorem IsTab.none {Av : Addr → Prop} {H : Hp} {ta : Addr} {tb : List (List Int)} (h : IsTab Av H ta tb) : IsTab (fun _ => False) H ta tb := h.weak fun _ z => z.elim
abbrev Old (H : Hp) : Addr → Prop := fun b => H b ≠ none
theorem IsTab.taped {tp : Addr} {H H' : Hp} {ta : Addr} {tb : List (List Int)} (h : IsTab (· = tp) H ta tb) (f : Taped tp H H') : IsTab (· = tp) H' ta tb := h.mono fun b xs n e => f.1 b _ n e
theorem Tape.old {H : Hp} {tp : Addr} (h : Tape H tp) : ∀ b, b = tp → Old H b := fun b e z => by
  obtain ⟨_, _, h1, _⟩ := h
  rw [e, h1] at z
  cases z
theorem dpTabs {K : PySem.W.Frag} {H : Hp} : ∀ {das : List Addr} {tb : List (List Int)}, Paired (IsInts H) das tb → DpAll K H (das.map V.ref) (tb.map fun l => .list (l.map .int))
  | _, _, .nil => .nil
  | _, _, .cons h t => .cons (.lst (.inl (.inl h)) (dpInts _)) (dpTabs t)
theorem dpTab {K : PySem.W.Frag} {Av : Addr → Prop} {H : Hp} {ta : Addr} {tb : List (List Int)} (h : IsTab Av H ta tb) : Dp K H (.ref ta) (listsD tb) := by
  obtain ⟨das, h1, _, _, h4⟩ := h
  exact .lst (.inl (.inl h1)) (dpTabs h4)
/-! ### logs and what a run tells -/
def IsEnt (H : Hp) (e : Addr) (x : Int × List Int) : Prop := ∃ r, H e = some (.tup [.int x.1, .ref r]) ∧ IsRow H r x.2
def IsLog (H : Hp) (la : Addr) (log : Log) : Prop := ∃ es : List Addr, H la = some (.lst (es.map V.ref)) ∧ Paired (IsEnt H) es log
theorem IsEnt.mono {H H' : Hp} {e : Addr} {x : Int × List Int} (h : IsEnt H e x) (t : Tups H H') : IsEnt H' e x := let ⟨r, h1, h2⟩ := h; ⟨r, t _ _ h1, t _ _ h2⟩
theorem IsLog.seqs {H H' : Hp} {la : Addr} {log : Log} (h : IsLog H la log) (s : Seqs H H') : IsLog H' la log := let ⟨es, h1, h2⟩ := h; ⟨es, s.2 _ _ h1, pairedMap (fun _ _ e => e.mono s.1) h2⟩
theorem IsLog.keep {H H' : Hp} {la : Addr} {log : Log} (h : IsLog H la log) (t : Tups H H') (k : ∀ xs, H la = some (.lst xs) → H' la = some (.lst xs)) : IsLog H' la log := let ⟨es, h1, h2⟩ := h; ⟨es, k _ h1, pairedMap (fun _ _ e => e.mono t) h2⟩
def entD (x : Int × List Int) : PyData := .tuple [.int x.1, rowD x.2]
def logD (log : Log) : PyData := .list (log.map entD)
def endS (b : Bool) : Str := if b = true then "kept" else "spent"
def resD (R : Res) : PyData := .tuple [.str (endS R.1), rowD R.2.1, logD R.2.2]
theorem dpEnts {K : PySem.W.Frag} {H : Hp} : ∀ {es : List Addr} {log : Log}, Paired (IsEnt H) es log → DpAll K H (es.map V.ref) (log.map entD)
  | _, _, .nil => .nil
  | _, _, .cons ⟨r, h1, h2⟩ t => .cons (.tup (.inl (.inl h1)) (.cons (.int _) (.cons (dpRow h2) .nil))) (dpEnts t)
theorem dpLog {K : PySem.W.Frag} {H : Hp} {la : Addr} {log : Log} (h : IsLog H la log) : Dp K H (.ref la) (logD log) := let ⟨es, h1, h2⟩ := h; .lst (.inl (.inl h1)) (dpEnts h2)
/-- what a run tells: the tuple, the filling and the log's list, which is new -/
def IsRes (H0 H : Hp) (t : Addr) (R : Res) : Prop := ∃ fa la, H t = some (.tup [.str (endS R.1), .ref fa, .ref la]) ∧ IsRow H fa R.2.1 ∧ IsLog H la R.2.2 ∧ H0 la = none
theorem dpRes {K : PySem.W.Frag} {H0 H : Hp} {t : Addr} {R : Res} (h : IsRes H0 H t R) : Dp K H (.ref t) (resD R) := let ⟨fa, la, h1, h2, h3, _⟩ := h; .tup (.inl (.inl h1)) (.cons (.str _) (.cons (dpRow h2) (.cons (dpLog h3) .nil)))
theorem IsRes.seqs {H0 H H' : Hp} {t : Addr} {R : Res} (h : IsRes H0 H t R) (s : Seqs H H') : IsRes H0 H' t R := let ⟨fa, la, h1, h2, h3, h4⟩ := h; ⟨fa, la, s.1 _ _ h1, s.1 _ _ h2, h3.seqs s, h4⟩
theorem IsRes.old {H0 H1 H : Hp} {t : Addr} {R : Res} (h : IsRes H1 H t R) (k : ∀ b, H1 b = none → H0 b = none) : IsRes H0 H t R := let ⟨fa, la, h1, h2, h3, h4⟩ := h; ⟨fa, la, h1, h2, h3, k _ h4⟩
/-- each log's pair is fine -/
theorem fine_ent {many hues : Int} {wds : List WD} (gr : GoodR many hues wds) {x : Int × List Int} (h : 0 ≤ x.1 ∧ x.1 < (wds.length : Int) ∧ ∃ wd, wds[x.1.toNat]? = some wd ∧ x.2 ∈ wd.2) : Fine (entD x) 3 80 := by
  obtain ⟨h0, h1, wd, hw, hr⟩ := h
  have e8 := gr.eight
  have g := gr.each wd (List.mem_of_getElem? hw)
  have a := fine_int (i := x.1) h0 (by omega)
  have b : Fine (rowD x.2) 2 64 := fine_row (fun z hz => ⟨((g.row _ hr).2 z hz).1, by have := ((g.row _ hr).2 z hz).2; have := gr.h4; omega⟩) (by have := (g.row _ hr).1; have := g.three; omega)
  exact (Fine.tuple (FineAll.cons (a.mono (by omega) (Nat.le_refl _)) (FineAll.cons b (FineAll.nil _)))).mono (Nat.le_refl _) (by omega)
theorem fine_log {many hues : Int} {wds : List WD} (gr : GoodR many hues wds) {log : Log} (h : LogOk wds log) (hl : log.length ≤ 6000) : Fine (logD log) 4 600000 :=
  (Fine.list (fineAll_map log fun x hx => fine_ent gr (h x hx))).mono (Nat.le_refl _) (by omega)
theorem fine_end (b : Bool) : Fine (.str (endS b)) 1 64 := by
  cases b <;> exact ⟨by decide +kernel, by decide +kernel, by decide +kernel, by decide +kernel, by decide +kernel, by decide +kernel⟩
theorem fine_res {many hues : Int} {wds : List WD} (gr : GoodR many hues wds) {R : Res} (gf : GoodF many hues R.2.1) (h : LogOk wds R.2.2) (hl : R.2.2.length ≤ 6000) : Fine (resD R) 5 700000 :=
  (Fine.tuple (FineAll.cons ((fine_end R.1).mono (by omega) (Nat.le_refl _)) (FineAll.cons ((fine_fill gf gr.m6 gr.h4).mono (by omega) (Nat.le_refl _)) (FineAll.cons (fine_log gr h hl) (FineAll.nil _))))).mono (Nat.le_refl _) (by omega)
theorem fine_tabT {many hues : Int} {tb : List (List Int)} (m6 : many ≤ 6) (h4 : hues ≤ 4) (g : GoodT many hues tb) : Fine (listsD tb) 3 100000 := by
  have hl := g.len
  refine (Fine.list (fineAll_map tb (n := 2) (w := 15000) fun l hm => (fine_ints fun z hz => ⟨(g.hue l hm z hz).1, by have := (g.hue l hm z hz).2; omega⟩).mono (Nat.le_refl _) (by have := g.few l hm; omega))).mono (Nat.le_refl _) ?_
  have : tb.length ≤ 6 := by omega
  omega
/-! ### equality of data -/
theorem eqv_str (a b : Str) : PyData.eqv (.str a) (.str b) = (a == b) := by simp [PyData.eqv]
end Rd
namespace Gx
open PySem PySem.Spec PyProof.Rows L2 GenW
theorem tup_zipL {K : PySem.W.Frag} {a b : Addr} {xs ys : List V} {g : TG} {tt : TT} {te : TE} {vs : List Nat} {σ : L2.St} {Q : List V → Hp → Prop} {H2 : Hp} (hl : xs.length = ys.length) (hz : xs.length ≤ sizeLine) (Pv : Nat → List V → Hp → Prop) (h0 : Pv 0 [] H2) (hq : ∀ i zs H, Pv i zs H → SqL K H a xs ∧ SqL K H b ys) (hy : ∀ i zs H, Pv i zs H → zs.length ≤ i)
    (hs : ∀ i x y T zs H, xs[i]? = some x → ys[i]? = some y → Pv i zs H → H T = none → g (.ref T) (wipe σ vs) (upd H T (.tup [x, y])) fun σ2 H2 => wipe σ2 vs = wipe σ vs ∧ tt σ2 H2 fun b H3 => if b = true then te σ2 H3 fun y H4 => Pv (i + 1) (zs ++ [y]) H4 else Pv (i + 1) zs H3) (hd : ∀ zs H, Pv xs.length zs H → Q zs H) :
    ∃ W : Nat → Nat → List V → Hp → Prop, (∃ m, W 0 m [] H2) ∧ TurnsC (Itz K a b) g tt te vs σ Q W := by
  refine ⟨fun i m zs H => m = xs.length - i ∧ i ≤ xs.length ∧ Pv i zs H, ⟨xs.length, by simp, Nat.zero_le _, h0⟩, ?_⟩
  rintro i m zs H ⟨rfl, hi, p⟩
  obtain ⟨qx, qy⟩ := hq i zs H p
  by_cases hlt : i < xs.length
  · have hx : xs[i]? = some xs[i] := List.getElem?_eq_getElem hlt
    have hlt2 : i < ys.length := by omega
    have hy2 : ys[i]? = some ys[i] := List.getElem?_eq_getElem hlt2
    refine .inr ⟨⟨xs, ys, _, _, qx, qy, hx, hy2⟩, Nat.lt_of_le_of_lt (hy i zs H p) (Nat.lt_of_lt_of_le hlt hz), Pv (i + 1), fun zs' H' p' => ⟨xs.length - (i + 1), by omega, rfl, hlt, p'⟩, fun v H' y => ?_⟩
    obtain ⟨T, x', y', rfl, hT, rfl, f1, f2⟩ := y
    exact hs i x' y' T zs H (f1 xs qx) (f2 ys qy) p hT
  · have e : i = xs.length := by omega
    subst e
    exact .inl ⟨⟨xs, ys, qx, qy, Or.inl (Nat.le_refl _)⟩, hd zs H p⟩
end Gx
namespace Rd
open PySem PySem.Spec PyProof.Rows L2 Dt
def leftAt (tb : List (List Int)) (tk : List Int) (p : Int) : List Int := (leftOf tb tk).getD p.toNat []
theorem leftAt_get {tb : List (List Int)} {tk : List Int} {p : Int} (g : GoodK tb tk) (h0 : 0 ≤ p) (h1 : p < (tb.length : Int)) : (leftOf tb tk)[p.toNat]? = some (leftAt tb tk p) := by
  have h : p.toNat < (leftOf tb tk).length := by rw [left_len g]; omega
  rw [leftAt, getD_get h]
  exact List.getElem?_eq_getElem h
theorem leftAt_nil {tb : List (List Int)} {tk : List Int} {p : Int} (g : GoodK tb tk) (h0 : 0 ≤ p) (h1 : p < (tb.length : Int)) : (leftAt tb tk p = []) ↔ ¬ (atF tk p + 1 < lenAt tb p) := by
  have hp : p.toNat < tb.length := by omega
  have e := left_get g hp
  rw [leftAt_get g h0 h1] at e
  rw [Option.some.inj e, List.drop_eq_nil_iff]
  have a := g.at_ _ hp
  unfold atF lenAt
  omega
theorem eqv_ints_nil (l : List Int) : PyData.eqv (.list (l.map .int)) (.list []) = decide (l = []) := by
  cases l with
  | nil => simp [PyData.eqv, PyData.eqvAll]
  | cons a r => simp [PyData.eqv, PyData.eqvAll]
theorem any_left {tb : List (List Int)} {tk : List Int} (g : GoodK tb tk) : ∀ ps : List Int, (∀ p ∈ ps, 0 ≤ p ∧ p < (tb.length : Int)) → ((ps.map fun p => PyData.list ((leftAt tb tk p).map .int)).any fun z => PyData.eqv z (.list [])) = !canN tb tk ps
  | [], _ => rfl
  | p :: r, h => by
    have hp := h p List.mem_cons_self
    rw [List.map_cons, List.any_cons, any_left g r fun q hq => h q (List.mem_cons_of_mem _ hq), eqv_ints_nil]
    unfold canN
    rw [List.all_cons, Bool.not_and]
    congr 1
    by_cases e : leftAt tb tk p = []
    · rw [decide_eq_true e, decide_eq_false ((leftAt_nil g hp.1 hp.2).mp e)]
      rfl
    · rw [decide_eq_false e, decide_eq_true (Classical.not_not.mp fun z => e ((leftAt_nil g hp.1 hp.2).mpr z))]
      rfl
theorem stand0 {many hues : Int} {tb : List (List Int)} (g : GoodT many hues tb) {i : Nat} {ds : List Int} (h : tb[i]? = some ds) : (stand tb (zerosI tb.length))[i]? = some (atF ds 0) := by
  have hi : i < tb.length := (List.getElem?_eq_some_iff.mp h).1
  rw [stand_get (zeros_good g) hi, zeros_get, List.getD_eq_getElem?_getD, h]
  rfl
theorem left0 {many hues : Int} {tb : List (List Int)} (g : GoodT many hues tb) {i : Nat} {ds : List Int} (h : tb[i]? = some ds) : (leftOf tb (zerosI tb.length))[i]? = some (ds.drop 1) := by
  have hi : i < tb.length := (List.getElem?_eq_some_iff.mp h).1
  rw [left_get (zeros_good g) hi, zeros_get, List.getD_eq_getElem?_getD, h]
  rfl
theorem paired_upd {H : Hp} {D : Addr} {o : HO} : ∀ {l : List Addr} {m : List (List Int)}, Paired (IsInts H) l m → (∀ d ∈ l, d ≠ D) → Paired (IsInts (upd H D o)) l m
  | _, _, .nil, _ => .nil
  | a :: _, _, .cons h t, n => .cons (by show upd H D o a = _; rw [upd_ne (n a List.mem_cons_self)]; exact h) (paired_upd t fun d hd => n d (List.mem_cons_of_mem _ hd))
theorem paired_set {α β : Type} {F : α → β → Prop} : ∀ {l : List α} {m : List β} {i : Nat} {a : α} {b : β}, Paired F l m → F a b → Paired F (l.set i a) (m.set i b)
  | _, _, _, _, _, .nil, _ => .nil
  | _, _, 0, _, _, .cons _ t, h => .cons h t
  | _, _, i + 1, _, _, .cons e t, h => .cons e (paired_set (i := i) t h)
theorem paired_fresh {H : Hp} {D : Addr} {l : List Addr} {m : List (List Int)} (p : Paired (IsInts H) l m) (n : H D = none) : ∀ d ∈ l, d ≠ D := fun d hd z => by
  obtain ⟨j, hj⟩ := List.getElem?_of_mem hd
  obtain ⟨row, _, e⟩ := pairedGetL p hj
  have e2 : H d = some (.lst (row.map V.int)) := e
  rw [z, n] at e2
  cases e2
end Rd
namespace Rd
open PySem PySem.Spec PyProof.Rows L2 Dt
/-! ### the script's list, the tape and the tables, together -/
def rListO (K : PySem.W.Frag) : List V → Hp → VK → Prop := fun xs H Q => ∃ p ys, xs = [.ref p] ∧ (SqL K H p ys ∨ SqT K H p ys) ∧ ∀ l, H l = none → Q (.ref l) (upd H l (.lst ys))
theorem sq_keep {K : PySem.W.Frag} {H H' : Hp} {a : Addr} {xs : List V} (h : SqL K H a xs) (k : ∀ o, H a = some o → H' a = some o) : SqL K H' a xs := by
  rcases h with (h | ⟨o, h⟩) | h
  · exact .inl (.inl (k _ h))
  · exact .inl (.inr ⟨o, k _ h⟩)
  · exact .inr h
theorem sq_new {K : PySem.W.Frag} {H : Hp} {a tp : Addr} {xs : List V} (h : SqL K H a xs) (n : H tp = none) (e : a = tp) (H' : Hp) : SqL K H' a xs := by
  rcases h with (h | ⟨o, h⟩) | h
  · rw [e, n] at h; cases h
  · rw [e, n] at h; cases h
  · exact .inr h
theorem Tabs.sq {K : PySem.W.Frag} {Ps : List Addr} {H H' : Hp} {a : Addr} {xs : List V} (t : Tabs Ps H) (f : FrS Ps H H') (h : SqL K H a xs) : SqL K H' a xs := by
  rcases h with (h | ⟨o, h⟩) | h
  · exact .inl (.inl (f.1 _ _ (t.lst h) h))
  · exact .inl (.inr ⟨o, f.1 _ _ (fun z => by obtain ⟨ps, q, _⟩ := t a z; rw [h] at q; cases q) h⟩)
  · exact .inr h
structure LI (K : PySem.W.Frag) (a : Addr) (xs : List V) (Ps : List Addr) (tp : Addr) (H : Hp) : Prop where
  tape : Tape H tp
  tabs : Tabs Ps H
  scr : SqL K H a xs
  far : a = tp → ∀ H', SqL K H' a xs
theorem LI.frs {K : PySem.W.Frag} {a : Addr} {xs : List V} {Ps : List Addr} {tp : Addr} {H H' : Hp} (h : LI K a xs Ps tp H) (f : FrS Ps H H') : LI K a xs Ps tp H' := ⟨h.tape.seqs (f.seqs h.tabs), f.2, h.tabs.sq f h.scr, h.far⟩
theorem LI.same {K : PySem.W.Frag} {a : Addr} {xs : List V} {Ps : List Addr} {tp : Addr} {H H' : Hp} (h : LI K a xs Ps tp H) (s : Same H H') : LI K a xs Ps tp H' := h.frs (FrS.of h.tabs s)
theorem LI.taped {K : PySem.W.Frag} {a : Addr} {xs : List V} {Ps : List Addr} {tp : Addr} {H H' : Hp} (h : LI K a xs Ps tp H) (f : Taped tp H H') : LI K a xs Ps tp H' := by
  refine ⟨f.2, f.tabs h.tape h.tabs, ?_, h.far⟩
  by_cases e : a = tp
  · exact h.far e H'
  · exact sq_keep h.scr fun o => f.1 a o e
theorem fine_eqv {d : PyData} {n w : Nat} (h : Fine d n w) : PyData.eqv d d = true := PySem.SeqAt.eqv_refl d h.lay
theorem pairedRep {α β : Type} {F : α → β → Prop} {a : α} {b : β} (h : F a b) : ∀ n : Nat, Paired F (List.replicate n a) (List.replicate n b)
  | 0 => .nil
  | n + 1 => .cons h (pairedRep h n)
theorem rep_flat {α : Type} (f : α → V) (a : α) (n : Nat) : (List.replicate n [f a]).flatten = (List.replicate n a).map f := by
  rw [List.map_replicate]
  induction n with
  | zero => rfl
  | succ n ih => rw [List.replicate_succ, List.flatten_cons, ih, List.replicate_succ]; rfl
theorem goodT_rep {many hues : Int} {tb : List (List Int)} {ds : List Int} (g : GoodT many hues tb) (h : ds ∈ tb) (m0 : 0 ≤ many) : GoodT many hues (List.replicate many.toNat ds) := by
  refine ⟨by rw [List.length_replicate]; omega, fun x hx => ?_, fun x hx => ?_, fun x hx => ?_⟩
  · rw [(List.mem_replicate.mp hx).2]; exact g.one ds h
  · rw [(List.mem_replicate.mp hx).2]; exact g.few ds h
  · rw [(List.mem_replicate.mp hx).2]; exact g.hue ds h
end Rd

set_option Elab.async false
set_option linter.all false
set_option maxRecDepth 100000
set_option maxHeartbeats 4000000
/-! zip of lists and tuples, each of either kind -/
namespace Rd
open PySem PySem.Spec PyProof.Rows L2 Dt
/-- a list, or a tuple -/
def sqB (k : Bool) (K : PySem.W.Frag) (H : Hp) (a : Addr) (xs : List V) : Prop := if k = true then SqL K H a xs else SqT K H a xs
def itB (k : Bool) (h : Heap) (it l : Addr) (i : Nat) : Prop := if k = true then h.IsListIter it l i else h.IsTupleIter it l i
def isB (k : Bool) (h : Heap) (l : Addr) (xs : Array Value) : Prop := if k = true then h.IsList l xs else h.IsTuple l xs
def obB (k : Bool) (l : Addr) : Obj := { cls := .type (if k = true then "list_iterator" else "tuple_iterator"), data := .fields #[.ref l, .int 0 0] }
theorem drawsB {prog : Program} {w : World} {A : Around} (hh : A.handled = none) (k : Bool) (it l : Addr) (hne : l ≠ it) (items : Array Value) :
    Draws prog w A it [it, l] items.size (fun i v => items[i]? = some v) (fun i h => itB k h it l i ∧ isB k h l items) := by
  cases k with
  | true => exact Draws.list hh it l hne items
  | false => exact Draws.tuple hh it l hne items
theorem beginsB (k : Bool) (l : Addr) (items : Array Value) : Begins (.ref l) (obB k l) fun h => isB k h l items := by
  cases k with
  | true => exact begins_list l items
  | false => exact begins_tuple l items
theorem Inv_seqB {X : Cx} {pins : List (Addr × Obj)} {σ : L2.St} {H : Hp} {s : Shared} (I : Inv X pins σ H s) {k : Bool} {a : Addr} {xs : List V} (h : sqB k X.K H a xs) : ∃ its : List Value, Vals xs its ∧ isB k s.heap a its.toArray ∧ a < s.heap.objs.size := by
  cases k with
  | true =>
    obtain ⟨its, rv, p, _⟩ := I.list h
    exact ⟨its, rv, p.isList, p.lt⟩
  | false =>
    obtain ⟨its, rv, p, _⟩ := I.tuple h
    obtain ⟨o, e, _⟩ := id p
    exact ⟨its, rv, p, Heap.lt_size e⟩
theorem Inv_injB {X : Cx} {pins : List (Addr × Obj)} {σ : L2.St} {H : Hp} {s : Shared} (I : Inv X pins σ H s) {k : Bool} {a : Addr} {xs ys : List V} (h : sqB k X.K H a xs) (h' : sqB k X.K H a ys) : xs = ys := by
  cases k with
  | true => exact I.list_inj h h'
  | false => exact I.tuple_inj h h'
theorem itB_at {k : Bool} {h h' : Heap} {it l : Addr} {i : Nat} (x : itB k h it l i) (e : ∀ o, h.get? it = some o → h'.get? it = some o) : itB k h' it l i := by
  cases k with
  | true => exact Heap.IsListIter.at x e
  | false => exact Heap.IsTupleIter.at x e
theorem itB_obj {k : Bool} {h : Heap} {it l : Addr} {i : Nat} (x : itB k h it l i) : ∃ o, h.get? it = some o ∧ ∀ v, o.data ≠ .cell v := by
  cases k with
  | true =>
    obtain ⟨o, e, _, d⟩ := x
    exact ⟨o, e, fun v q => by rw [d] at q; cases q⟩
  | false =>
    obtain ⟨o, e, _, d⟩ := x
    exact ⟨o, e, fun v q => by rw [d] at q; cases q⟩
theorem itB_new {k : Bool} {h : Heap} {it l : Addr} (e : h.get? it = some (obB k l)) : itB k h it l 0 := by
  cases k with
  | true => exact ⟨_, e, rfl, rfl⟩
  | false => exact ⟨_, e, rfl, rfl⟩
/-- both as they stand at each turn, the items in new pairs -/
def ItzM (k1 k2 : Bool) (K : PySem.W.Frag) (a b : Addr) : It :=
  ⟨fun i H => ∃ (xs ys : List V) (x y : V), sqB k1 K H a xs ∧ sqB k2 K H b ys ∧ xs[i]? = some x ∧ ys[i]? = some y,
    fun i H v H' => ∃ T x y, v = .ref T ∧ H T = none ∧ H' = upd H T (.tup [x, y]) ∧ (∀ xs, sqB k1 K H a xs → xs[i]? = some x) ∧ ∀ ys, sqB k2 K H b ys → ys[i]? = some y,
    fun i H => ∃ xs ys : List V, sqB k1 K H a xs ∧ sqB k2 K H b ys ∧ i ≤ xs.length ∧ i ≤ ys.length ∧ (xs.length = i ∨ ys.length = i)⟩
def ZM (k1 k2 : Bool) (a b z TI TO i1 i2 : Addr) (i : Nat) (h : Heap) : Prop := IsZip h z TI TO .none ∧ IsTupOf2 h TI (.ref i1) (.ref i2) ∧ (∃ x y, IsTupOf2 h TO x y) ∧ itB k1 h i1 a i ∧ itB k2 h i2 b i
theorem turn_zipM {P : Program} {w : World} {K : PySem.W.Frag} {elts : List Expr} {kk : Nat} {tpos : Pos} {k1 k2 : Bool} {a b z TI TO i1 i2 : Addr} (D : ZipApart z TI TO i1 i2 a b) :
    Turn P w K (.Tuple elts kk tpos) (ItzM k1 k2 K a b) [z, TI, TO, i1, i2] z (ZM k1 k2 a b z TI TO i1 i2) where
  mem := List.mem_cons_self
  obj := fun i h st c hc => by
    obtain ⟨hz, hTI, ⟨x, y, hTO⟩, h1, h2⟩ := st
    simp only [List.mem_cons, List.not_mem_nil, or_false] at hc
    rcases hc with rfl | rfl | rfl | rfl | rfl
    · exact ⟨_, hz, fun v q => nomatch q⟩
    · exact ⟨_, hTI, fun v q => nomatch q⟩
    · exact ⟨_, hTO, fun v q => nomatch q⟩
    · exact itB_obj h1
    · exact itB_obj h2
  keep := fun i h h' st k => by
    obtain ⟨hz, hTI, ⟨x, y, hTO⟩, h1, h2⟩ := st
    exact ⟨k z (by simp) _ hz, k TI (by simp) _ hTI, ⟨x, y, k TO (by simp) _ hTO⟩, itB_at h1 fun o q => k i1 (by simp) o q, itB_at h2 fun o q => k i2 (by simp) o q⟩
  item := by
    intro X hP hw hK hc i pins s σ H E I hf st hg
    subst hP hw hK
    obtain ⟨hz, hTI, ⟨x0, y0, hTO⟩, h1, h2⟩ := st
    obtain ⟨xs, ys, x, y, hqx, hqy, hx, hy⟩ := hg
    obtain ⟨its, rv, p, _⟩ := Inv_seqB I hqx
    obtain ⟨its2, rv2, p2, _⟩ := Inv_seqB I hqy
    obtain ⟨u, hu, ru⟩ := rv.get hx
    obtain ⟨u2, hu2, ru2⟩ := rv2.get hy
    have hzl : z < s.heap.objs.size := Heap.lt_size hz
    have hh : X.A.in1.handled = none := I.ok.hd hc
    have S : ZipSep2 z TI TO i1 i2 [i1, a] [i2, b] := ⟨D.TIz, D.TOz, D.TITO, D.TIi1, by simp, by simp [D.i1z.symm, D.l1z.symm], by simp [D.TOi1, D.l1TO.symm], D.TIi2, by simp, by simp [D.i2z.symm, D.l2z.symm], by simp [D.TOi2, D.l2TO.symm], by simp [D.i12, D.l2i1.symm], by simp [D.i12.symm, D.l1i2.symm]⟩
    have iu : its.toArray[i]? = some u := by simpa using hu
    have iu2 : its2.toArray[i]? = some u2 := by simpa using hu2
    refine wpAny_pyNext_zipD2_item S (drawsB hh k1 i1 a D.l1i1 its.toArray) (drawsB hh k2 i2 b D.l2i2 its2.toArray) hz hTI hTO ⟨h1, p⟩ ⟨h2, p2⟩ (Array.getElem?_eq_some_iff.mp iu).1 (Array.getElem?_eq_some_iff.mp iu2).1 fun v v2 h' tk e1 e2 z' TO' s1' s2' hT hsz hk => ?_
    rw [iu] at e1
    rw [iu2] at e2
    cases e1
    cases e2
    refine ⟨_, rfl, wpAny_letOwnedTupleGo_zip (s := { s with heap := h', toks := tk }) z' fun h'' z'' sb => ?_⟩
    have hT2 : h''.get? s.heap.objs.size = some { cls := .type "tuple", data := .seq #[u, u2] } := (sb.2 _ (Nat.ne_of_gt hzl)).trans hT
    have new : ObjOk X.prog X.w (upd H s.heap.objs.size (.tup [x, y])) h'' s.heap.objs.size (.tup [x, y]) :=
      ⟨by show 2 ≤ sizeLine; decide, [u, u2], .cons ru (.cons ru2 .nil), ⟨_, hT2, rfl, _, rfl⟩⟩
    have I1 : Inv X pins σ (upd H s.heap.objs.size (.tup [x, y])) { s with heap := h'', toks := tk } :=
      I.turnedNew (t' := tk) (ch := [z, TI, TO, i1, i2]) (fun c o hb q => (sb.2 c (fun q' => hb (by simp [q']))).trans (hk c o (fun q' => hb (by simp [q'])) (fun q' => hb (by simp [q'])) (fun q' => hb (by simp [q'])) (fun q' => hb (by simp [q'])) q)) hf (Nat.le_refl _) new
    refine ⟨.ref s.heap.objs.size, _, I1, rfl, ⟨_, x, y, rfl, I.hok.fresh (Nat.le_refl _), rfl, fun l hl => by rw [Inv_injB I hl hqx]; exact hx, fun l hl => by rw [Inv_injB I hl hqy]; exact hy⟩, ⟨z'', ?_, ⟨u, u2, ?_⟩, ?_, ?_⟩, fun c hcm => ?_⟩
    · exact (sb.2 _ D.TIz).trans (hk _ _ D.TIz D.TITO D.TIi1 D.TIi2 hTI)
    · exact (sb.2 _ D.TOz).trans TO'
    · exact itB_at s1'.1 fun o q => (sb.2 _ D.i1z).trans q
    · exact itB_at s2'.1 fun o q => (sb.2 _ D.i2z).trans q
    · have hlt : c < s.heap.objs.size := by
        obtain ⟨_, q1, _⟩ := itB_obj h1
        obtain ⟨_, q2, _⟩ := itB_obj h2
        simp only [List.mem_cons, List.not_mem_nil, or_false] at hcm
        rcases hcm with rfl | rfl | rfl | rfl | rfl
        · exact hzl
        · exact Heap.lt_size hTI
        · exact Heap.lt_size hTO
        · exact Heap.lt_size q1
        · exact Heap.lt_size q2
      rw [upd_ne (Nat.ne_of_lt hlt)]
      exact (hf c hcm).1
  done := by
    intro X hP hw hK hc i pins s σ H E I hf st hg
    subst hP hw hK
    obtain ⟨hz, hTI, ⟨x0, y0, hTO⟩, h1, h2⟩ := st
    obtain ⟨xs, ys, hqx, hqy, l1, l2, hend⟩ := hg
    obtain ⟨its, rv, p, _⟩ := Inv_seqB I hqx
    obtain ⟨its2, rv2, p2, _⟩ := Inv_seqB I hqy
    have e1 := rv.length
    have e2 := rv2.length
    have hh : X.A.in1.handled = none := I.ok.hd hc
    have S : ZipSep2 z TI TO i1 i2 [i1, a] [i2, b] := ⟨D.TIz, D.TOz, D.TITO, D.TIi1, by simp, by simp [D.i1z.symm, D.l1z.symm], by simp [D.TOi1, D.l1TO.symm], D.TIi2, by simp, by simp [D.i2z.symm, D.l2z.symm], by simp [D.TOi2, D.l2TO.symm], by simp [D.i12, D.l2i1.symm], by simp [D.i12.symm, D.l1i2.symm]⟩
    refine wpAny_pyNext_zipD2_end S (drawsB hh k1 i1 a D.l1i1 its.toArray) (drawsB hh k2 i2 b D.l2i2 its2.toArray) hz hTI hTO ⟨h1, p⟩ ⟨h2, p2⟩ (by simp; omega) (by simp; omega) (by simp; omega) fun h' tk hk => ⟨rfl, I.turnedL (t' := tk) (ch := [z, TI, TO, i1, i2]) (fun c o hb q =>
      hk c o (fun q' => hb (by simp [q'])) (fun q' => hb (by simp [q'])) (fun q' => hb (by simp [q'])) (fun q' => hb (by simp [q'])) q) hf⟩
  self := fun A i s Q E st h => wpAny_pyIter_zip st.1 h
def iZipM (K : PySem.W.Frag) (ta : TA) : TI := fun σ H R => ta σ H fun vs H1 => ∃ (k1 k2 : Bool) (a b : Addr) (xs ys : List V), vs = [.ref a, .ref b] ∧ sqB k1 K H1 a xs ∧ sqB k2 K H1 b ys ∧ R (ItzM k1 k2 K a b) H1
theorem pi_zipM {X : Cx} {e e2 : Expr} {ta : TA} {p pos tpos : Pos} {elts : List Expr} {kk : Nat} (hg : Gl X "zip") (hm : X.mg "zip" = none) (ha : PA X [e, e2] ta)
    (hs : starEach [e, e2] X.env = (false, eval e X.env) :: starEach [e2] X.env := by rfl) (hpl : (backTo pos (starEach [e2] X.env)).any (·.1) = false := by rfl) :
    PI X (.Tuple elts kk tpos) (.Call (.Name "zip" p) [e, e2] [] pos) (iZipM X.K ta) := by
  refine ⟨fun pins s σ H R I h => ?_⟩
  refine Call_ (ld_blt I hg hm PyProof.Rows.boot_zip (PyProof.Rows.callWith_type1 (thn (ha.run pos pins s σ H _ I h) fun us s1 ⟨vs, H1, I1, r1, q1⟩ => ?_) hs hpl))
  obtain ⟨k1, k2, a, b, xs, ys, ex, hqx, hqy, q⟩ := q1
  subst ex
  obtain ⟨u, u2, rfl, ru, ru2⟩ := vals2 r1
  cases ru
  cases ru2
  obtain ⟨its, rv, p1, la⟩ := Inv_seqB I1 hqx
  obtain ⟨its2, rv2, p2, lb⟩ := Inv_seqB I1 hqy
  have fr : ∀ c, c ∈ [s1.heap.objs.size + 4, s1.heap.objs.size + 2, s1.heap.objs.size + 3, s1.heap.objs.size, s1.heap.objs.size + 1] → FpOk X pins H1 c := fun c hcm => by
    have hle : s1.heap.objs.size ≤ c := by
      simp only [List.mem_cons, List.not_mem_nil, or_false] at hcm
      rcases hcm with rfl | rfl | rfl | rfl | rfl
      · exact Nat.le_add_right _ _
      · exact Nat.le_add_right _ _
      · exact Nat.le_add_right _ _
      · exact Nat.le_refl _
      · exact Nat.le_add_right _ _
    exact I1.fpOk hle (I1.hok.fresh hle)
  refine zip_begins2 (beginsB k1 a its.toArray) (beginsB k2 b its2.toArray) p1 p2 fun h' hz hTI hTO h1 h2 hsz hk => wpAny_pyIter_zip hz ?_
  have I2 : Inv X pins σ H1 { s1 with heap := h' } := I1.kept (t' := s1.toks) hk
  exact ⟨s1.heap.objs.size + 4, [s1.heap.objs.size + 4, s1.heap.objs.size + 2, s1.heap.objs.size + 3, s1.heap.objs.size, s1.heap.objs.size + 1], _, _, H1, rfl, I2, turn_zipM (PySem.W.ktu_apart s1.heap.objs.size a b la lb), ⟨hz, hTI, ⟨_, _, hTO⟩, itB_new h1, itB_new h2⟩, fr, q⟩
end Rd

set_option Elab.async false
set_option linter.all false
set_option maxRecDepth 100000
set_option maxHeartbeats 4000000
/-! dicts whose keys are tuples: comprehensions, len, dict(pairs) -/
namespace Rd
open PySem PySem.Spec PyProof.Rows L2 Dt
theorem d_dictSetT {X : Cx} {pins : List (Addr × Obj)} {σ : L2.St} {H : Hp} {s : Shared} {E : Value → Shared → Prop} {D b : Addr} {kvs : List (List Key × V)} {k : List Key} {v : V} {r : Value} {Q : Unit → Shared → Prop} (hu : X.A.units + 1 < cLine) (I : Inv X pins σ H s) (hD : H D = some (.dT kvs)) (hz : kvs.length < sizeLine)
    (eb : H b = some (.tup (k.map kV))) (rv : RelV v r) (h : ∀ s', Inv X pins σ (upd H D (.dT (putK kvs k v))) s' → Q () s') : wpAny (model X.prog X.w) X.A (dictSet D (.ref b) r) Q E s := by
  obtain ⟨z, hd, xs, rel, dd⟩ := dt_of I.hok hD
  have hzv : xs.length ≤ sizeLine := by rw [← Paired.length rel]; exact z
  have hl : (putK kvs k v).length ≤ sizeLine := by have := length_putK kvs k v; omega
  refine wpAny_dictSet_heap (hsz := hzv) (knd := tupleKind (mixKind X.prog X.w)) (Nat.lt_of_succ_lt hu) (key_of I.hok eb) dd fun h' dd' hs => h _ ?_
  obtain ⟨q, es, ep, hq, h2, h3, h4, _, h5⟩ := dd'
  refine d_write I (by rw [hD]; exact True.intro) hs ⟨q, hq⟩ ⟨hl, hd, _, (rel.put k eb rv).keeps fun c ys ec => ?_, q, es, ep, hq, h2, h3, h4, h5⟩
  rw [upd_ne (ne_of ec hD (fun z => nomatch z))]
  exact ec
section
variable {X : Cx}
/-- {k: v for target in iter if ..}, keys ints or texts: D the new dict -/
def tDcT (wi : TI) (g : TG) (tt : TT) (tk tv : TE) (vs : List Nat) : TE := fun σ H Q => wi σ H fun J H1 => ∀ D, H1 D = none → ∃ W : Nat → Nat → Hp → Prop, (∃ m, W 0 m (upd H1 D (.dT []))) ∧ ∀ i m H, W i m H →
  (J.stop i H ∧ Q (.ref D) H) ∨ (J.go i H ∧ ∃ Nx : Hp → Prop, (∀ H', Nx H' → ∃ m', m' < m ∧ W (i + 1) m' H') ∧ ∀ x H', J.yld i H x H' → g x (wipe σ vs) H' fun σ2 H2 => wipe σ2 vs = wipe σ vs ∧ tt σ2 H2 fun b H3 =>
    if b = true then tk σ2 H3 fun y H4 => tv σ2 H4 fun z H5 => ∃ kvs k b, y = .ref b ∧ H5 b = some (.tup (k.map kV)) ∧ H5 D = some (.dT kvs) ∧ kvs.length < sizeLine ∧ Nx (upd H5 D (.dT (putK kvs k z))) else Nx H3)
theorem dcT_core {pins : List (Addr × Obj)} {s : Shared} {σ : L2.St} {H : Hp} {Q : VK} {kx vx tg iter : Expr} {ifs : List Expr} {scope : Scope} {own : List (Str × Nat)} {pos pos' : Pos} {wi : TI} {g : TG} {tt : TT} {tk tv : TE} {use : Option (Value → Sem Unit)} {Qf : Value → Shared → Prop}
    (hu : X.A.units + 1 < cLine) (hc : X.calm = true) (hN : X.N.Nodup) (I : Inv X pins σ H s) (hi : PI X tg iter wi) (ok : BlkOk X.N X.env.scope scope own)
    (hg : ∀ (s : Shared) (H : Hp) (C : Addr) (cl : List (Str × Addr)) (fp : List Addr), PG (X.blk s H scope (compEnvC scope cl C X.env) fp) tg g) (ht : ∀ (s : Shared) (H : Hp) (C : Addr) (cl : List (Str × Addr)) (fp : List Addr), PTs (X.blk s H scope (compEnvC scope cl C X.env) fp) ifs tt)
    (hk : ∀ (s : Shared) (H : Hp) (C : Addr) (cl : List (Str × Addr)) (fp : List Addr), PE (X.blk s H scope (compEnvC scope cl C X.env) fp) kx tk)
    (he : ∀ (s : Shared) (H : Hp) (C : Addr) (cl : List (Str × Addr)) (fp : List Addr), PE (X.blk s H scope (compEnvC scope cl C X.env) fp) vx tv) (hs : ∀ x, foldedSetIterable iter X.env x = pure x)
    (h : tDcT wi g tt tk tv (own.map (·.2)) σ H Q)
    (hRR : ∀ D C s' m H', Inv X pins σ H' s' → Q (.ref D) H' → s'.heap.Ns C m → FpOk X pins H' C → compPost (model X.prog X.w) X.A X.xe use Qf (.ref D) C (.ok .next) s') :
    wpAny (model X.prog X.w) X.A (comprehension (.DictComp kx vx [⟨tg, iter, ifs, 0⟩] scope pos) scope X.env pos' newDict false (eval iter X.env) use) Qf X.xe s := by
  have hfree : ∀ y ∈ scope.names, y.2 = .free → ∃ c, X.env.cells.lookup y.1 = some c := fun y hy e => by
    rcases ok.free y hy e with k | k
    · exact I.ok.has _ (.inl k)
    · exact I.ok.has _ (.inr k)
  refine wpAny_comprehension_free (use := use) rfl hs (closure_ok hfree) ok.kind (fun y hy e => by rw [ok.uniq y hy, e])
    (thn (hi.run pins s σ H _ I h) fun xv s1 hx => thn hx fun itv s2 h2 => ?_)
  obtain ⟨it, fp, tn, J, H2, e, I2, T, st2, f2, q⟩ := h2
  subst e
  refine wpAny_newObj_type (newEnv_comp ?_)
  generalize hD : s2.heap.objs.size = D
  have hDn : H2 D = none := I2.hok.fresh (Nat.le_of_eq hD)
  obtain ⟨W, ⟨m0, w0⟩, turn⟩ := q D hDn
  -- the new list
  generalize hs3 : ({ s2 with heap := s2.heap.push { cls := .type "dict", data := .dict #[] } } : Shared) = s3
  have I3 : Inv X pins σ (upd H2 D (.dT [])) s3 := by
    rw [← hs3]
    refine I2.laid (t' := s2.toks) (fun b o e => Heap.get?_push_of_some _ e) (Nat.le_of_eq hD) ?_
    rw [← hD]
    exact dt_empty s2.heap I2.big
  have h3 : s3.heap = s2.heap.push { cls := .type "dict", data := .dict #[] } := by rw [← hs3]
  have sz : ∀ b ∈ fp, b < s2.heap.objs.size := fun b hb => by
    obtain ⟨o, e, _⟩ := T.obj _ _ st2 b hb
    exact Heap.lt_size e
  have f3 : ∀ b ∈ fp, FpOk X pins (upd H2 D (.dT [])) b ∧ b < s3.heap.objs.size := fun b hb => by
    have hlt := sz b hb
    refine ⟨⟨?_, (f2 b hb).2⟩, by rw [h3, Heap.size_push]; exact Nat.lt_succ_of_lt hlt⟩
    rw [upd_ne (by rw [← hD]; exact Nat.ne_of_lt hlt)]
    exact (f2 b hb).1
  have st3 : tn 0 s3.heap := T.keep _ _ _ st2 fun b _ o e => by rw [h3]; exact Heap.get?_push_of_some _ e
  have I4 := block_start I3 ok hN f3
  have pg := hg s3 (upd H2 D (.dT [])) s3.heap.objs.size (cellsFrom (s3.heap.objs.size + 1) scope.names (cloFrom X.env.cells scope.names [])) fp
  have pt := ht s3 (upd H2 D (.dT [])) s3.heap.objs.size (cellsFrom (s3.heap.objs.size + 1) scope.names (cloFrom X.env.cells scope.names [])) fp
  have pk := hk s3 (upd H2 D (.dT [])) s3.heap.objs.size (cellsFrom (s3.heap.objs.size + 1) scope.names (cloFrom X.env.cells scope.names [])) fp
  have pe := he s3 (upd H2 D (.dT [])) s3.heap.objs.size (cellsFrom (s3.heap.objs.size + 1) scope.names (cloFrom X.env.cells scope.names [])) fp
  show codeAny _ _ (.compStart (.DictComp kx vx [⟨tg, iter, ifs, 0⟩] scope pos) 0 (.ref it) (.ref D) (compEnvC scope (cellsFrom (s3.heap.objs.size + 1) scope.names (cloFrom X.env.cells scope.names [])) s3.heap.objs.size X.env)) (compPost (model X.prog X.w) X.A X.xe use Qf (.ref D) s3.heap.objs.size) { s3 with heap := pushCells (s3.heap.push { cls := .type "dict", data := .dict #[] }) scope.names }
  have nfp : ∀ b ∈ fp, (upd H2 D (.dT [])) b = none := fun b hb => (f3 b hb).1.1
  generalize hce : compEnvC scope (cellsFrom (s3.heap.objs.size + 1) scope.names (cloFrom X.env.cells scope.names [])) s3.heap.objs.size X.env = ce at I4 pg pt pk pe ⊢
  have cL : ce.locals = s3.heap.objs.size := by subst hce; rfl
  generalize hH3 : upd H2 D (.dT []) = H3 at I3 I4 pg pt pk pe w0 nfp f3
  generalize hs4 : ({ s3 with heap := pushCells (s3.heap.push { cls := .type "dict", data := .dict #[] }) scope.names } : Shared) = s4 at I4 ⊢
  have st4 : tn 0 s4.heap := T.keep _ _ _ st3 fun b _ o e => by rw [← hs4]; exact pushCells_keeps _ _ _ _ (Heap.get?_push_of_some _ e)
  have stat : ∀ {σ' : L2.St} {H' : Hp} {s' : Shared}, Inv (X.blk s3 H3 scope ce fp) [] σ' H' s' → (∀ b ∈ fp, H' b = none) → ∀ b ∈ fp, FpOk (X.blk s3 H3 scope ce fp) [] H' b := fun {σ' H' s'} I' hn b hb =>
    ⟨hn b hb, (I'.ok.exf b hb).1, I'.ok.exfs b hb, .inl hb, fun x c e => (I'.ok.exf b hb).2 x c e, fun p hp => absurd (show p ∈ ([] : List (Addr × Obj)) ++ [] from hp) (by simp)⟩
  have loop : codeAny (model X.prog X.w) X.A (.compLoop (.DictComp kx vx [⟨tg, iter, ifs, 0⟩] scope pos) 0 (.ref it) (.ref D) ce) (compPost (model X.prog X.w) X.A X.xe use Qf (.ref D) s3.heap.objs.size) s4 := by
    refine compLoop_anyD (fun n s' => ∃ i H', Inv (X.blk s3 H3 scope ce fp) [] (wipe σ (own.map (·.2))) H' s' ∧ tn i s'.heap ∧ (∀ b ∈ fp, H' b = none) ∧ W i n H') ?_ m0 ⟨0, H3, I4, st4, nfp, w0⟩
    rintro n s5 ⟨i, H5, I5, st5, n5, w5⟩
    rcases turn i n H5 w5 with ⟨stop, qq⟩ | ⟨go, Nx, hNx, step⟩
    · have td := T.done (X.blk s3 H3 scope ce fp) rfl rfl rfl hc i [] s5 _ H5 (fun _ _ => False) I5 (stat I5 n5) st5 stop
      refine thnF td fun r s6 ⟨hr, I6⟩ => ?_
      subst hr
      -- back in the def's context
      have I7 : Inv X pins σ H5 s6 := I3.call' (ch := fp) I6.os I6.base I6.hok I6.bare fun b hb => ⟨(f3 b hb).1.2.2.2.1, (f3 b hb).1.2.1, (f3 b hb).1.2.2.2.2.1, (f3 b hb).1.2.2.2.2.2⟩
      have nC : H5 s3.heap.objs.size = none := by
        have z : H5 ce.locals = none := I6.free
        rw [cL] at z
        exact z
      obtain ⟨m, hn, _⟩ := I6.loc
      have hn : s6.heap.Ns ce.locals m := hn
      rw [cL] at hn
      exact hRR D s3.heap.objs.size s6 m H5 I7 qq hn (I3.fpOk (Nat.le_refl _) nC)
    · have ti := T.item (X.blk s3 H3 scope ce fp) rfl rfl rfl hc i [] s5 _ H5 (fun _ _ => False) I5 (stat I5 n5) st5 go
      refine thnF ti fun r s6 ⟨u, hr, h6⟩ => ?_
      subst hr
      refine thnF h6 fun _ s7 ⟨x, H7, I7, r7, y7, st7, n7⟩ => ?_
      have I7' := I7.pinned (stat I7 n7) (T.obj _ _ st7)
      refine thnF (pg.run _ s7 _ H7 x u _ I7' r7 (step x H7 y7)) fun _ s8 ⟨σ8, H8, I8, hw8, q8⟩ => ?_
      refine thnF (pt.run _ s8 σ8 H8 _ I8 q8) fun b s9 ⟨H9, I9, q9⟩ => ?_
      -- the turn's end
      have fin : ∀ {s' : Shared} {H' : Hp}, Inv (X.blk s3 H3 scope ce fp) ([] ++ pinsAt fp s7.heap) σ8 H' s' → Nx H' → ∃ m, m < n ∧ ∃ i H', Inv (X.blk s3 H3 scope ce fp) [] (wipe σ (own.map (·.2))) H' s' ∧ tn i s'.heap ∧ (∀ b ∈ fp, H' b = none) ∧ W i m H' := fun {s' H'} I' nx => by
        obtain ⟨m', hm, w'⟩ := hNx H' nx
        have pin' : ∀ b ∈ fp, ∀ o, s7.heap.get? b = some o → s'.heap.get? b = some o ∧ H' b = none := fun b hb o e =>
          let z := I'.pin (b, o) (List.mem_append_right _ (List.mem_append_right _ (mem_pinsAt hb e)))
          ⟨z.1, z.2.1⟩
        have hl : (wipe σ (own.map (·.2))).length = σ8.length := by rw [← hw8, wipe_length]
        refine ⟨m', hm, i + 1, H', (I'.unpinned (pins := [])).weak hl (fun j v e => ?_), T.keep _ _ _ st7 fun b hb o e => (pin' b hb o e).1, fun b hb => ?_, w'⟩
        · rw [← hw8] at e
          exact (wipe_some e).1
        · obtain ⟨o, e, _⟩ := T.obj _ _ st7 b hb
          exact (pin' b hb o e).2
      cases b with
      | false =>
        simp only [Bool.false_eq_true, if_false] at q9 ⊢
        exact fin I9 q9
      | true =>
        simp only [if_true] at q9 ⊢
        refine thnF (pk.run _ s9 σ8 H9 _ I9 q9) fun z s10 ⟨yk, H10, I10, r10, q10⟩ => ?_
        refine thnF (pe.run _ s10 σ8 H10 _ I10 q10) fun z2 s11 ⟨yv, H11, I11, r11, kvs, k, b9, ek, hb11, hD11, hz11, nx⟩ => ?_
        subst ek
        cases (show z = Value.ref b9 from r10)
        exact d_dictSetT (X := X.blk s3 H3 scope ce fp) hu I11 hD11 hz11 hb11 r11 fun s12 I12 => fin I12 nx
  exact codeAny_compStart_dict loop (T.self X.A 0 _ _ _ st4 loop)
/-- as a value -/
theorem pe_dcT {kx vx tg iter : Expr} {ifs : List Expr} {scope : Scope} {own : List (Str × Nat)} {pos : Pos} {wi : TI} {g : TG} {tt : TT} {tk tv : TE} (hc : X.calm = true) (hN : X.N.Nodup) (hi : PI X tg iter wi) (ok : BlkOk X.N X.env.scope scope own)
    (hg : ∀ (s : Shared) (H : Hp) (C : Addr) (cl : List (Str × Addr)) (fp : List Addr), PG (X.blk s H scope (compEnvC scope cl C X.env) fp) tg g) (ht : ∀ (s : Shared) (H : Hp) (C : Addr) (cl : List (Str × Addr)) (fp : List Addr), PTs (X.blk s H scope (compEnvC scope cl C X.env) fp) ifs tt)
    (hk : ∀ (s : Shared) (H : Hp) (C : Addr) (cl : List (Str × Addr)) (fp : List Addr), PE (X.blk s H scope (compEnvC scope cl C X.env) fp) kx tk)
    (he : ∀ (s : Shared) (H : Hp) (C : Addr) (cl : List (Str × Addr)) (fp : List Addr), PE (X.blk s H scope (compEnvC scope cl C X.env) fp) vx tv) (hu : X.A.units + 1 < cLine) (hs : ∀ x, foldedSetIterable iter X.env x = pure x := by intro _; rfl) :
    PE X (.DictComp kx vx [⟨tg, iter, ifs, 0⟩] scope pos) (tDcT wi g tt tk tv (own.map (·.2))) := by
  refine ⟨fun pins s σ H Q I h => ?_⟩
  rw [arm_eval_DictComp]
  refine dcT_core hu hc hN I hi ok hg ht hk he hs h fun D C s' m H' I' q hn f => ⟨m, hn, fun h'' sb => ?_⟩
  obtain ⟨f0, f1, f2, f3, f4, f5⟩ := f
  exact ⟨.ref D, H', I'.turned (t' := s'.toks) (fun b o hb e => (sb.2 b hb).trans e) f0 f1 f3 f4 f5, rfl, q⟩
end
/-! dict(xs), xs a list of pairs (tuple, value) -/
def mergeT (kvs : List (List Key × V)) (more : List (List Key × V)) : List (List Key × V) := more.foldl (fun acc kv => putK acc kv.1 kv.2) kvs
theorem KT.merge {H : Hp} : ∀ {more : List (List Key × V)} {rs xs : List (List Key × Addr × Value)} {kvs : List (List Key × V)}, KT H more rs → KT H kvs xs → KT H (mergeT kvs more) (storedAllH xs rs)
  | _, _, _, _, .nil, h => h
  | _, _, xs, kvs, .cons (a := p) (b := q) h t, g => by
    obtain ⟨h1, h2, h3⟩ := h
    have z := KT.merge (kvs := putK kvs p.1 p.2) (xs := storedH xs q.1 q.2.1 q.2.2) t (by rw [← h1]; exact g.put p.1 h2 h3)
    exact z
theorem length_mergeT : ∀ (more kvs : List (List Key × V)), (mergeT kvs more).length ≤ kvs.length + more.length
  | [], kvs => Nat.le_refl _
  | p :: r, kvs => by
    have h1 := length_mergeT r (putK kvs p.1 p.2)
    have h2 := length_putK kvs p.1 p.2
    rw [List.length_cons]
    show (mergeT (putK kvs p.1 p.2) r).length ≤ _
    omega
def rDictPT (K : PySem.W.Frag) : List V → Hp → VK → Prop := fun xs H Q => ∃ (a : Addr) (ps : List Addr) (kvs : List (List Key × V)), xs = [.ref a] ∧ SqL K H a (ps.map V.ref) ∧ Paired (fun p kv => ∃ b, H b = some (.tup (kv.1.map kV)) ∧ H p = some (.tup [.ref b, kv.2])) ps kvs ∧
    ∀ p, H p = none → Q (.ref p) (upd H p (.dT (mergeT [] kvs)))
section
variable {X : Cx}
theorem pairsT_of {pins : List (Addr × Obj)} {σ : L2.St} {H : Hp} {s : Shared} (I : Inv X pins σ H s) : ∀ {ps : List Addr} {kvs : List (List Key × V)}, Paired (fun p kv => ∃ b, H b = some (.tup (kv.1.map kV)) ∧ H p = some (.tup [.ref b, kv.2])) ps kvs →
    ∃ prs : List (List Key × Addr × Value), KT H kvs prs ∧ prs.length = ps.length ∧ ∀ (j : Nat) (q : List Key × Addr × Value), prs[j]? = some q → ∃ b : Addr, ps[j]? = some b ∧ PairAt s.heap b (.ref q.2.1) q.2.2
  | _, _, .nil => ⟨[], .nil, rfl, fun j q e => by simp at e⟩
  | _, _, .cons (a := p) (b := kv) h t => by
    obtain ⟨prs, r, hl, hp⟩ := pairsT_of I t
    obtain ⟨b, hb, hp1⟩ := h
    obtain ⟨_, its, rv, o, hg, hc, n, hd⟩ := I.hok p _ hp1
    obtain ⟨u, y, ei, ru, ry⟩ := vals2 rv
    subst ei
    cases (show u = Value.ref b from ru)
    refine ⟨(kv.1, b, y) :: prs, .cons ⟨rfl, hb, ry⟩ r, by rw [List.length_cons, List.length_cons, hl], fun j q e => ?_⟩
    cases j with
    | zero =>
      have e' : (kv.1, b, y) = q := Option.some.inj e
      subst e'
      exact ⟨p, rfl, .inl ⟨o, hg, hc, n, hd⟩⟩
    | succ j =>
      obtain ⟨b, e1, e2⟩ := hp j q (by simpa using e)
      exact ⟨b, by simpa using e1, e2⟩
theorem call_dictPT (hcalm : X.calm = true) (hu : X.A.units + 8 < cLine) : CallR X (.type "dict") (rDictPT X.K) := by
  intro pins s σ H xs us Q I r q
  obtain ⟨a, ps, kvs, ex, hq, hp, q⟩ := q
  subst ex
  obtain ⟨u, eu, rx⟩ := vals1 r
  subst eu
  cases rx
  obtain ⟨its, rv, pl, hz⟩ := I.list hq
  have ei := refs_at rv
  subst ei
  rw [List.length_map] at hz
  obtain ⟨prs, rel, hl, hpr⟩ := pairsT_of I hp
  obtain ⟨o, n, ho, hc, hd, hdat⟩ := pl
  have it : PairItems s.heap (ps.map Value.ref).toArray (fun j => ps.getD j 0) (prs.map fun q => (Value.ref q.2.1, q.2.2)) := by
    refine ⟨by simp [hl], fun j k v e => ?_⟩
    rw [List.getElem?_map] at e
    obtain ⟨q, eq, e⟩ := Option.map_eq_some_iff.mp e
    cases e
    obtain ⟨b, e1, e2⟩ := hpr j q eq
    have ej : ps.getD j 0 = b := by rw [List.getD_eq_getElem?_getD, e1]; rfl
    exact ⟨by simp [e1], (by show PairAt s.heap (ps.getD j 0) _ _; rw [ej]; exact e2)⟩
  refine call_dict_pairsH (knd := tupleKind (mixKind X.prog X.w)) (ps := prs) (PairArg.list a (ps.map Value.ref).toArray (fun j => ps.getD j 0) (prs.map fun q => (Value.ref q.2.1, q.2.2))) (I.ok.hd hcalm) ?_ ⟨⟨o, n, ho, hc, hd, hdat⟩, it⟩ ⟨by simp, fun i key v e => ?_⟩ (fun h' hk x hx => ?_) (by rw [List.length_map, hl]; exact hz) fun h' tk hd' k => ?_
  · exact Nat.lt_of_le_of_lt (by show X.A.units + 1 + 1 ≤ X.A.units + 8; omega) hu
  · have e : (prs.map fun q => (Value.ref q.2.1, q.2.2))[i]? = some (key, v) := e
    rw [List.getElem?_map] at e
    obtain ⟨q, eq, e⟩ := Option.map_eq_some_iff.mp e
    cases e
    exact ⟨q.1, q.2.1, eq, rfl⟩
  · have all : ∀ {l : List (List Key × V)} {m : List (List Key × Addr × Value)}, KT H l m → ∀ x ∈ m, H x.2.1 = some (.tup (x.1.map kV)) := by
      intro l m t
      induction t with
      | nil => intro x hx; exact nomatch hx
      | @cons p q ps qs hq t ih =>
        intro x hx
        rcases List.mem_cons.mp hx with e | hx
        · subst e
          rw [← hq.1]; exact hq.2.1
        · exact ih x hx
    obtain ⟨oo, items, nn, h1, h2, h3, h4⟩ := key_of I.hok (all rel x hx)
    exact ⟨oo, items, nn, hk _ _ (Nat.ne_of_lt (Heap.lt_size h1)) (fun z => nomatch z) h1, h2, h3, h4⟩
  · have hm : (s.heap.objs.size == sysModules) = false := beq_eq_false_iff_ne.mpr (Nat.ne_of_gt I.big)
    have hlen : (mergeT [] kvs).length ≤ sizeLine := by
      refine Nat.le_trans (length_mergeT kvs []) ?_
      rw [List.length_nil, Nat.zero_add, Paired.length rel, hl]
      exact hz
    have kk : ∀ b o, s.heap.get? b = some o → h'.get? b = some o := fun b o e => k b o (fun z => nomatch z) e
    obtain ⟨q9, es, ep, hq9, h2, h3, h4, _, h5⟩ := hd'
    have fr := I.hok.fresh (Nat.le_refl s.heap.objs.size)
    exact ⟨.ref s.heap.objs.size, upd H s.heap.objs.size (.dT (mergeT [] kvs)), I.laid (t' := tk) kk (Nat.le_refl _) (show ObjOk X.prog X.w _ _ _ (.dT (mergeT [] kvs)) from ⟨hlen, hm, storedAllH [] prs, (KT.merge rel .nil).keeps fun b ys e => (by
      rw [upd_ne (ne_of_none e fr)]
      exact e), q9, es, ep, hq9, h2, h3, h4, h5⟩), rfl, q _ fr⟩
end
end Rd

set_option Elab.async false
set_option linter.all false
set_option maxRecDepth 100000
set_option maxHeartbeats 4000000
/-! walks over the keys of dicts by tuples, held; their len -/
namespace Rd
open PySem PySem.Spec PyProof.Rows L2 Dt
theorem lc_keysT {d : Addr} {o : Obj} {kvs : List (List Key × V)} {g : TG} {tt : TT} {te : TE} {vs : List Nat} {σ : L2.St} {H1 : Hp} {D : Addr} {Qd : Hp → Prop} (Pv : Nat → Hp → Prop) (h0 : Pv 0 (upd H1 D (.lst []))) (hl : ∀ i H, i ≤ kvs.length → Pv i H → H d = some (.frz o (.dT kvs)))
    (hs : ∀ i k v q H, kvs[i]? = some (k, v) → H q = some (.tup (k.map kV)) → Pv i H → g (.ref q) (wipe σ vs) H fun σ2 H2 => wipe σ2 vs = wipe σ vs ∧ tt σ2 H2 fun b H3 =>
      if b = true then te σ2 H3 fun y H4 => ∃ acc, H4 D = some (.lst acc) ∧ acc.length < sizeLine ∧ Pv (i + 1) (upd H4 D (.lst (acc ++ [y]))) else Pv (i + 1) H3) (hd : ∀ H, Pv kvs.length H → Qd H) :
    ∃ W : Nat → Nat → Hp → Prop, (∃ m, W 0 m (upd H1 D (.lst []))) ∧ ∀ i m H, W i m H →
      ((Itkt d o kvs).stop i H ∧ Qd H) ∨ ((Itkt d o kvs).go i H ∧ ∃ Nx : Hp → Prop, (∀ H', Nx H' → ∃ m', m' < m ∧ W (i + 1) m' H') ∧ ∀ x H', (Itkt d o kvs).yld i H x H' → g x (wipe σ vs) H' fun σ2 H2 => wipe σ2 vs = wipe σ vs ∧ tt σ2 H2 fun b H3 =>
        if b = true then te σ2 H3 fun y H4 => ∃ acc, H4 D = some (.lst acc) ∧ acc.length < sizeLine ∧ Nx (upd H4 D (.lst (acc ++ [y]))) else Nx H3) := by
  refine ⟨fun i m H => m = kvs.length - i ∧ i ≤ kvs.length ∧ Pv i H, ⟨kvs.length, by simp, Nat.zero_le _, h0⟩, ?_⟩
  rintro i m H ⟨rfl, hi, p⟩
  have q := hl i H hi p
  by_cases hlt : i < kvs.length
  · refine .inr ⟨⟨q, hlt⟩, Pv (i + 1), fun H' p' => ⟨kvs.length - (i + 1), by omega, rfl, hlt, p'⟩, fun x H' y => ?_⟩
    obtain ⟨rfl, k, v, b, e, rfl, hb⟩ := y
    exact hs i k v b _ e hb p
  · have e : i = kvs.length := by omega
    subst e
    exact .inl ⟨⟨q, Nat.le_refl _⟩, hd H p⟩
theorem for_keysT {d : Addr} {o : Obj} {kvs : List (List Key × V)} {g : TG} {tb : TS} {D : Ends} {σ : L2.St} {H : Hp} (Pv : Nat → L2.St → Hp → Prop) (h0 : Pv 0 σ H) (hl : ∀ i σ H, i ≤ kvs.length → Pv i σ H → H d = some (.frz o (.dT kvs)))
    (hs : ∀ i k v q σ H, kvs[i]? = some (k, v) → H q = some (.tup (k.map kV)) → Pv i σ H → g (.ref q) σ H fun σ2 H2 => tb { D with nx := Pv (i + 1), ct := Pv (i + 1), bk := D.nx } σ2 H2) (hd : ∀ σ H, Pv kvs.length σ H → D.nx σ H) :
    ∃ W : Nat → Nat → L2.St → Hp → Prop, (∃ m, W 0 m σ H) ∧ ∀ i m σ H, W i m σ H →
      ((Itkt d o kvs).stop i H ∧ D.nx σ H) ∨ ((Itkt d o kvs).go i H ∧ ∃ N : L2.St → Hp → Prop, (∀ σ' H', N σ' H' → ∃ m', m' < m ∧ W (i + 1) m' σ' H') ∧ ∀ x H', (Itkt d o kvs).yld i H x H' → g x σ H' fun σ2 H2 => tb { D with nx := N, ct := N, bk := D.nx } σ2 H2) := by
  refine ⟨fun i m σ H => m = kvs.length - i ∧ i ≤ kvs.length ∧ Pv i σ H, ⟨kvs.length, by simp, Nat.zero_le _, h0⟩, ?_⟩
  rintro i m σ H ⟨rfl, hi, p⟩
  have q := hl i σ H hi p
  by_cases hlt : i < kvs.length
  · refine .inr ⟨⟨q, hlt⟩, Pv (i + 1), fun σ' H' p' => ⟨kvs.length - (i + 1), by omega, rfl, hlt, p'⟩, fun x H' y => ?_⟩
    obtain ⟨rfl, k, v, b, e, rfl, hb⟩ := y
    exact hs i k v b σ _ e hb p
  · have e : i = kvs.length := by omega
    subst e
    exact .inl ⟨⟨q, Nat.le_refl _⟩, hd σ H p⟩
theorem call_lenRT {X : Cx} : CallR X (.builtin "len") (fun xs H Q => ∃ a kvs, xs = [V.ref a] ∧ Rd H a (.dT kvs) ∧ Q (.int ((kvs.length : Nat) : Int)) H) := by
  intro pins s σ H xs us Q I r h
  obtain ⟨a, kvs, rfl, ha, q⟩ := h
  obtain ⟨u, rfl, ru⟩ := vals1 r
  cases ru
  obtain ⟨z, hd, xs, rel, dd⟩ := dt_rd I.hok ha
  have e := Paired.length rel
  refine call_len_dictH hd dd (by have := line63; omega) ?_
  rw [← e]
  exact ⟨.int _, H, I.tok _, ⟨_, rfl⟩, q⟩
end Rd

set_option Elab.async false
set_option linter.all false
set_option maxRecDepth 100000
set_option maxHeartbeats 4000000
/-! walks of n turns over anything, in generator expressions -/
namespace Gx
open PySem PySem.Spec PyProof.Rows L2 GenW
theorem all_walk {J : It} {n : Nat} {g : TG} {tt : TT} {te : TE} {vs : List Nat} {σ : L2.St} {d : Bool} {QT QF : Hp → Prop} {H2 : Hp} (Pv : Nat → Hp → Prop) (h0 : Pv 0 H2) (hgo : ∀ i H, i < n → Pv i H → J.go i H) (hst : ∀ H, Pv n H → J.stop n H)
    (hs : ∀ i x H H', i < n → Pv i H → J.yld i H x H' → g x (wipe σ vs) H' fun σ2 H2 => wipe σ2 vs = wipe σ vs ∧ tt σ2 H2 fun b H3 => if b = true then te σ2 H3 fun y H4 => ∃ c, y = .bl c ∧ (if c = d then Pv (i + 1) H4 else QF H4) else Pv (i + 1) H3) (hd : ∀ H, Pv n H → QT H) :
    ∃ W : Nat → Nat → Hp → Prop, (∃ m, W 0 m H2) ∧ Turns J g tt te vs σ d QT QF W := by
  refine ⟨fun i m H => m = n - i ∧ i ≤ n ∧ Pv i H, ⟨n, by simp, Nat.zero_le _, h0⟩, ?_⟩
  rintro i m H ⟨rfl, hi, p⟩
  by_cases hlt : i < n
  · exact .inr ⟨hgo i H hlt p, Pv (i + 1), fun H' p' => ⟨n - (i + 1), by omega, rfl, hlt, p'⟩, fun x H' y => hs i x H H' hlt p y⟩
  · have e : i = n := by omega
    subst e
    exact .inl ⟨hst H p, hd H p⟩
theorem tup_walk {J : It} {n : Nat} {g : TG} {tt : TT} {te : TE} {vs : List Nat} {σ : L2.St} {Q : List V → Hp → Prop} {H2 : Hp} (hz : n ≤ sizeLine) (Pv : Nat → List V → Hp → Prop) (h0 : Pv 0 [] H2) (hgo : ∀ i zs H, i < n → Pv i zs H → J.go i H) (hst : ∀ zs H, Pv n zs H → J.stop n H) (hy : ∀ i zs H, Pv i zs H → zs.length ≤ i)
    (hs : ∀ i x zs H H', i < n → Pv i zs H → J.yld i H x H' → g x (wipe σ vs) H' fun σ2 H2 => wipe σ2 vs = wipe σ vs ∧ tt σ2 H2 fun b H3 => if b = true then te σ2 H3 fun y H4 => Pv (i + 1) (zs ++ [y]) H4 else Pv (i + 1) zs H3) (hd : ∀ zs H, Pv n zs H → Q zs H) :
    ∃ W : Nat → Nat → List V → Hp → Prop, (∃ m, W 0 m [] H2) ∧ TurnsC J g tt te vs σ Q W := by
  refine ⟨fun i m zs H => m = n - i ∧ i ≤ n ∧ Pv i zs H, ⟨n, by simp, Nat.zero_le _, h0⟩, ?_⟩
  rintro i m zs H ⟨rfl, hi, p⟩
  by_cases hlt : i < n
  · exact .inr ⟨hgo i zs H hlt p, Nat.lt_of_le_of_lt (hy i zs H p) (Nat.lt_of_lt_of_le hlt hz), Pv (i + 1), fun zs' H' p' => ⟨n - (i + 1), by omega, rfl, hlt, p'⟩, fun x H' y => hs i x zs H H' hlt p y⟩
  · have e : i = n := by omega
    subst e
    exact .inl ⟨hst zs H p, hd zs H p⟩
/-- over two of one length, each a list or a tuple -/
theorem tup_zipM {K : PySem.W.Frag} {k1 k2 : Bool} {a b : Addr} {xs ys : List V} {g : TG} {tt : TT} {te : TE} {vs : List Nat} {σ : L2.St} {Q : List V → Hp → Prop} {H2 : Hp} (hl : xs.length = ys.length) (hz : xs.length ≤ sizeLine) (Pv : Nat → List V → Hp → Prop) (h0 : Pv 0 [] H2) (hq : ∀ i zs H, Pv i zs H → Rd.sqB k1 K H a xs ∧ Rd.sqB k2 K H b ys) (hy : ∀ i zs H, Pv i zs H → zs.length ≤ i)
    (hs : ∀ i x y T zs H, xs[i]? = some x → ys[i]? = some y → Pv i zs H → H T = none → g (.ref T) (wipe σ vs) (upd H T (.tup [x, y])) fun σ2 H2 => wipe σ2 vs = wipe σ vs ∧ tt σ2 H2 fun b H3 => if b = true then te σ2 H3 fun y H4 => Pv (i + 1) (zs ++ [y]) H4 else Pv (i + 1) zs H3) (hd : ∀ zs H, Pv xs.length zs H → Q zs H) :
    ∃ W : Nat → Nat → List V → Hp → Prop, (∃ m, W 0 m [] H2) ∧ TurnsC (Rd.ItzM k1 k2 K a b) g tt te vs σ Q W := by
  refine tup_walk hz Pv h0 (fun i zs H hi p => ?_) (fun zs H p => ?_) hy (fun i x zs H H' hi p y => ?_) hd
  · obtain ⟨q1, q2⟩ := hq i zs H p
    exact ⟨xs, ys, _, _, q1, q2, List.getElem?_eq_getElem hi, List.getElem?_eq_getElem (by omega)⟩
  · obtain ⟨q1, q2⟩ := hq _ zs H p
    exact ⟨xs, ys, q1, q2, Nat.le_refl _, by omega, .inl rfl⟩
  · obtain ⟨q1, q2⟩ := hq i zs H p
    obtain ⟨T, x', y', rfl, hT, rfl, f1, f2⟩ := y
    exact hs i x' y' T zs H (f1 xs q1) (f2 ys q2) p hT
theorem all_zipM {K : PySem.W.Frag} {k1 k2 : Bool} {a b : Addr} {xs ys : List V} {g : TG} {tt : TT} {te : TE} {vs : List Nat} {σ : L2.St} {d : Bool} {QT QF : Hp → Prop} {H2 : Hp} (hl : xs.length = ys.length) (Pv : Nat → Hp → Prop) (h0 : Pv 0 H2) (hq : ∀ i H, Pv i H → Rd.sqB k1 K H a xs ∧ Rd.sqB k2 K H b ys)
    (hs : ∀ i x y T H, xs[i]? = some x → ys[i]? = some y → Pv i H → H T = none → g (.ref T) (wipe σ vs) (upd H T (.tup [x, y])) fun σ2 H2 => wipe σ2 vs = wipe σ vs ∧ tt σ2 H2 fun b H3 => if b = true then te σ2 H3 fun y H4 => ∃ c, y = .bl c ∧ (if c = d then Pv (i + 1) H4 else QF H4) else Pv (i + 1) H3) (hd : ∀ H, Pv xs.length H → QT H) :
    ∃ W : Nat → Nat → Hp → Prop, (∃ m, W 0 m H2) ∧ Turns (Rd.ItzM k1 k2 K a b) g tt te vs σ d QT QF W := by
  refine all_walk Pv h0 (fun i H hi p => ?_) (fun H p => ?_) (fun i x H H' hi p y => ?_) hd
  · obtain ⟨q1, q2⟩ := hq i H p
    exact ⟨xs, ys, _, _, q1, q2, List.getElem?_eq_getElem hi, List.getElem?_eq_getElem (by omega)⟩
  · obtain ⟨q1, q2⟩ := hq _ H p
    exact ⟨xs, ys, q1, q2, Nat.le_refl _, by omega, .inl rfl⟩
  · obtain ⟨q1, q2⟩ := hq i H p
    obtain ⟨T, x', y', rfl, hT, rfl, f1, f2⟩ := y
    exact hs i x' y' T H (f1 xs q1) (f2 ys q2) p hT
/-- over the keys of a dict by tuples, held -/
theorem all_keysT {d : Addr} {o : Obj} {kvs : List (List Key × V)} {g : TG} {tt : TT} {te : TE} {vs : List Nat} {σ : L2.St} {dd : Bool} {QT QF : Hp → Prop} {H2 : Hp} (Pv : Nat → Hp → Prop) (h0 : Pv 0 H2) (hl : ∀ i H, Pv i H → H d = some (.frz o (.dT kvs)))
    (hs : ∀ i k v q H, kvs[i]? = some (k, v) → H q = some (.tup (k.map kV)) → Pv i H → g (.ref q) (wipe σ vs) H fun σ2 H2 => wipe σ2 vs = wipe σ vs ∧ tt σ2 H2 fun b H3 => if b = true then te σ2 H3 fun y H4 => ∃ c, y = .bl c ∧ (if c = dd then Pv (i + 1) H4 else QF H4) else Pv (i + 1) H3) (hd : ∀ H, Pv kvs.length H → QT H) :
    ∃ W : Nat → Nat → Hp → Prop, (∃ m, W 0 m H2) ∧ Turns (Itkt d o kvs) g tt te vs σ dd QT QF W := by
  refine all_walk Pv h0 (fun i H hi p => ⟨hl i H p, hi⟩) (fun H p => ⟨hl _ H p, Nat.le_refl _⟩) (fun i x H H' hi p y => ?_) hd
  obtain ⟨rfl, k, v, q, e, rfl, hq⟩ := y
  exact hs i k v q _ e hq p
end Gx
namespace Rd
open PySem PySem.Spec PyProof.Rows L2 Dt
/-- xs[i] of a list or a tuple -/
def rIxE (K : PySem.W.Frag) : R2 := fun x y H Q => ∃ (k : Bool) (p : Addr) (xs : List V) (i : Int) (v : V), x = .ref p ∧ y = .int i ∧ sqB k K H p xs ∧ atI xs i = some v ∧ Q v H
theorem ix_seqE {X : Cx} : IxR X (rIxE X.K) := by
  intro value slice pins s σ H x y v u Q I rx ry h hs
  obtain ⟨k, p, xs, i, z, e1, e2, hq, ha, q⟩ := h
  cases k with
  | true => exact ix_list value slice pins s σ H x y v u Q I rx ry ⟨p, xs, i, z, e1, e2, hq, ha, q⟩ hs
  | false => exact ix_tup value slice pins s σ H x y v u Q I rx ry ⟨p, xs, i, z, e1, e2, hq, ha, q⟩ hs
end Rd
namespace Gx
open PySem PySem.Spec PyProof.Rows L2 GenW
theorem tup_enumT {K : PySem.W.Frag} {a : Addr} {xs : List V} {g : TG} {tt : TT} {te : TE} {vs : List Nat} {σ : L2.St} {Q : List V → Hp → Prop} {H2 : Hp} (hz : xs.length ≤ sizeLine) (Pv : Nat → List V → Hp → Prop) (h0 : Pv 0 [] H2) (hq : ∀ i zs H, Pv i zs H → SqT K H a xs) (hy : ∀ i zs H, Pv i zs H → zs.length ≤ i)
    (hs : ∀ i x T zs H, xs[i]? = some x → Pv i zs H → H T = none → g (.ref T) (wipe σ vs) (upd H T (.tup [.int (i : Nat), x])) fun σ2 H2 => wipe σ2 vs = wipe σ vs ∧ tt σ2 H2 fun b H3 => if b = true then te σ2 H3 fun y H4 => Pv (i + 1) (zs ++ [y]) H4 else Pv (i + 1) zs H3) (hd : ∀ zs H, Pv xs.length zs H → Q zs H) :
    ∃ W : Nat → Nat → List V → Hp → Prop, (∃ m, W 0 m [] H2) ∧ TurnsC (Et.ItE K a) g tt te vs σ Q W := by
  refine tup_walk hz Pv h0 (fun i zs H hi p => ⟨xs, _, hq i zs H p, List.getElem?_eq_getElem hi⟩) (fun zs H p => ⟨xs, hq _ zs H p, rfl⟩) hy (fun i x zs H H' hi p y => ?_) hd
  obtain ⟨T, x', rfl, hT, rfl, f1⟩ := y
  exact hs i x' T zs H (f1 xs (hq i zs H p)) p hT
end Gx
namespace Rd
open PySem PySem.Spec PyProof.Rows L2 Dt
/-- a dict by tuples, over anything of n turns -/
theorem dcT_walk {J : It} {n : Nat} {g : TG} {tt : TT} {tk tv : TE} {vs : List Nat} {σ : L2.St} {H1 : Hp} {D : Addr} {Qd : Hp → Prop} (Pv : Nat → Hp → Prop) (h0 : Pv 0 (upd H1 D (.dT []))) (hgo : ∀ i H, i < n → Pv i H → J.go i H) (hst : ∀ H, Pv n H → J.stop n H)
    (hs : ∀ i x H H', i < n → Pv i H → J.yld i H x H' → g x (wipe σ vs) H' fun σ2 H2 => wipe σ2 vs = wipe σ vs ∧ tt σ2 H2 fun b H3 =>
      if b = true then tk σ2 H3 fun y H4 => tv σ2 H4 fun z H5 => ∃ kvs k b, y = .ref b ∧ H5 b = some (.tup (k.map kV)) ∧ H5 D = some (.dT kvs) ∧ kvs.length < sizeLine ∧ Pv (i + 1) (upd H5 D (.dT (putK kvs k z))) else Pv (i + 1) H3) (hd : ∀ H, Pv n H → Qd H) :
    ∃ W : Nat → Nat → Hp → Prop, (∃ m, W 0 m (upd H1 D (.dT []))) ∧ ∀ i m H, W i m H →
      (J.stop i H ∧ Qd H) ∨ (J.go i H ∧ ∃ Nx : Hp → Prop, (∀ H', Nx H' → ∃ m', m' < m ∧ W (i + 1) m' H') ∧ ∀ x H', J.yld i H x H' → g x (wipe σ vs) H' fun σ2 H2 => wipe σ2 vs = wipe σ vs ∧ tt σ2 H2 fun b H3 =>
        if b = true then tk σ2 H3 fun y H4 => tv σ2 H4 fun z H5 => ∃ kvs k b, y = .ref b ∧ H5 b = some (.tup (k.map kV)) ∧ H5 D = some (.dT kvs) ∧ kvs.length < sizeLine ∧ Nx (upd H5 D (.dT (putK kvs k z))) else Nx H3) := by
  refine ⟨fun i m H => m = n - i ∧ i ≤ n ∧ Pv i H, ⟨n, by simp, Nat.zero_le _, h0⟩, ?_⟩
  rintro i m H ⟨rfl, hi, p⟩
  by_cases hlt : i < n
  · exact .inr ⟨hgo i H hlt p, Pv (i + 1), fun H' p' => ⟨n - (i + 1), by omega, rfl, hlt, p'⟩, fun x H' y => hs i x H H' hlt p y⟩
  · have e : i = n := by omega
    subst e
    exact .inl ⟨hst H p, hd H p⟩
end Rd
namespace Rd
open PySem PySem.Spec PyProof.Rows L2 Dt
/-- a loop over anything of n turns -/
theorem for_walk {J : It} {n : Nat} {g : TG} {tb : TS} {D : Ends} {σ : L2.St} {H : Hp} (Pv : Nat → L2.St → Hp → Prop) (h0 : Pv 0 σ H) (hgo : ∀ i σ H, i < n → Pv i σ H → J.go i H) (hst : ∀ σ H, Pv n σ H → J.stop n H)
    (hs : ∀ i x σ H H', i < n → Pv i σ H → J.yld i H x H' → g x σ H' fun σ2 H2 => tb { D with nx := Pv (i + 1), ct := Pv (i + 1), bk := D.nx } σ2 H2) (hd : ∀ σ H, Pv n σ H → D.nx σ H) :
    ∃ W : Nat → Nat → L2.St → Hp → Prop, (∃ m, W 0 m σ H) ∧ ∀ i m σ H, W i m σ H →
      (J.stop i H ∧ D.nx σ H) ∨ (J.go i H ∧ ∃ N : L2.St → Hp → Prop, (∀ σ' H', N σ' H' → ∃ m', m' < m ∧ W (i + 1) m' σ' H') ∧ ∀ x H', J.yld i H x H' → g x σ H' fun σ2 H2 => tb { D with nx := N, ct := N, bk := D.nx } σ2 H2) := by
  refine ⟨fun i m σ H => m = n - i ∧ i ≤ n ∧ Pv i σ H, ⟨n, by simp, Nat.zero_le _, h0⟩, ?_⟩
  rintro i m σ H ⟨rfl, hi, p⟩
  by_cases hlt : i < n
  · exact .inr ⟨hgo i σ H hlt p, Pv (i + 1), fun σ' H' p' => ⟨n - (i + 1), by omega, rfl, hlt, p'⟩, fun x H' y => hs i x σ H H' hlt p y⟩
  · have e : i = n := by omega
    subst e
    exact .inl ⟨hst σ H p, hd σ H p⟩
end Rd

set_option Elab.async false
set_option linter.all false
set_option maxRecDepth 100000
set_option maxHeartbeats 4000000
/-! keys that are tuples of whole numbers; boxes of such tuples -/
namespace Rd
open PySem PySem.Spec PyProof.Rows L2 Dt
def keyB (f : List Int) : List Key := f.map Sum.inl
theorem keyB_kV (f : List Int) : (keyB f).map kV = f.map V.int := by
  unfold keyB
  rw [List.map_map]
  rfl
theorem keyB_inj {f g : List Int} (h : keyB f = keyB g) : f = g := (List.map_inj_right fun a b z => by injection z).mp h
theorem keyB_nodup {fs : List (List Int)} (h : fs.Nodup) : (fs.map keyB).Nodup := List.pairwise_map.mpr (h.imp fun n z => n (keyB_inj z))
/-- all lists of numbers below these -/
def boxL : List Nat → List (List Int)
  | [] => [[]]
  | n :: r => (List.range n).flatMap fun (k : Nat) => (boxL r).map ((k : Int) :: ·)
def prodL : List Nat → Nat
  | [] => 1
  | n :: r => n * prodL r
theorem box_len : ∀ l : List Nat, (boxL l).length = prodL l
  | [] => rfl
  | n :: r => by
    show ((List.range n).flatMap fun (k : Nat) => (boxL r).map ((k : Int) :: ·)).length = n * prodL r
    rw [List.length_flatMap]
    have : ((List.range n).map fun (k : Nat) => ((boxL r).map ((k : Int) :: ·)).length) = (List.range n).map fun _ => prodL r := List.map_congr_left fun k _ => by rw [List.length_map, box_len r]
    rw [this]
    have z : ∀ (m : Nat), ((List.range m).map fun _ => prodL r).sum = m * prodL r := fun m => by
      rw [List.map_const', List.length_range, List.sum_replicate_nat]
    exact z n
theorem box_mem : ∀ {l : List Nat} {t : List Int}, t.length = l.length → (∀ p : Nat, p < l.length → 0 ≤ t.getD p 0 ∧ t.getD p 0 < ((l.getD p 0 : Nat) : Int)) → t ∈ boxL l
  | [], t, hl, _ => by
    rw [List.length_eq_zero_iff.mp hl]
    exact List.mem_singleton.mpr rfl
  | n :: r, [], hl, _ => nomatch hl
  | n :: r, k :: t, hl, h => by
    have h0 := h 0 (by simp)
    have h0 : 0 ≤ k ∧ k < (n : Int) := h0
    refine List.mem_flatMap.mpr ⟨k.toNat, List.mem_range.mpr (by omega), List.mem_map.mpr ⟨t, box_mem (by simpa using hl) (fun p hp => ?_), ?_⟩⟩
    · exact h (p + 1) (by simpa using hp)
    · have e : ((k.toNat : Nat) : Int) = k := by omega
      rw [e]
/-- as many as there are draws, at most -/
theorem box_few {l : List Nat} {ts : List (List Int)} (nd : ts.Nodup) (h : ∀ t ∈ ts, t ∈ boxL l) : ts.length ≤ prodL l := by
  rw [← box_len]
  exact List.Nodup.length_le_of_subset nd h
end Rd

set_option Elab.async false
set_option linter.all false
set_option maxRecDepth 100000
set_option maxHeartbeats 4000000
namespace Rd
open PySem PySem.Spec PyProof.Rows L2 Dt
/-- a list comprehension over anything of n turns -/
theorem lc_walk {J : It} {n : Nat} {g : TG} {tt : TT} {te : TE} {vs : List Nat} {σ : L2.St} {H1 : Hp} {D : Addr} {Qd : Hp → Prop} (Pv : Nat → Hp → Prop) (h0 : Pv 0 (upd H1 D (.lst []))) (hgo : ∀ i H, i < n → Pv i H → J.go i H) (hst : ∀ H, Pv n H → J.stop n H)
    (hs : ∀ i x H H', i < n → Pv i H → J.yld i H x H' → g x (wipe σ vs) H' fun σ2 H2 => wipe σ2 vs = wipe σ vs ∧ tt σ2 H2 fun b H3 =>
      if b = true then te σ2 H3 fun y H4 => ∃ acc, H4 D = some (.lst acc) ∧ acc.length < sizeLine ∧ Pv (i + 1) (upd H4 D (.lst (acc ++ [y]))) else Pv (i + 1) H3) (hd : ∀ H, Pv n H → Qd H) :
    ∃ W : Nat → Nat → Hp → Prop, (∃ m, W 0 m (upd H1 D (.lst []))) ∧ ∀ i m H, W i m H →
      (J.stop i H ∧ Qd H) ∨ (J.go i H ∧ ∃ Nx : Hp → Prop, (∀ H', Nx H' → ∃ m', m' < m ∧ W (i + 1) m' H') ∧ ∀ x H', J.yld i H x H' → g x (wipe σ vs) H' fun σ2 H2 => wipe σ2 vs = wipe σ vs ∧ tt σ2 H2 fun b H3 =>
        if b = true then te σ2 H3 fun y H4 => ∃ acc, H4 D = some (.lst acc) ∧ acc.length < sizeLine ∧ Nx (upd H4 D (.lst (acc ++ [y]))) else Nx H3) := by
  refine ⟨fun i m H => m = n - i ∧ i ≤ n ∧ Pv i H, ⟨n, by simp, Nat.zero_le _, h0⟩, ?_⟩
  rintro i m H ⟨rfl, hi, p⟩
  by_cases hlt : i < n
  · exact .inr ⟨hgo i H hlt p, Pv (i + 1), fun H' p' => ⟨n - (i + 1), by omega, rfl, hlt, p'⟩, fun x H' y => hs i x H H' hlt p y⟩
  · have e : i = n := by omega
    subst e
    exact .inl ⟨hst H p, hd H p⟩
end Rd

set_option Elab.async false
set_option linter.all false
set_option maxRecDepth 100000
set_option maxHeartbeats 4000000
/-! runs step by step, and the draws told back -/
namespace Dt
open PySem PySem.Spec PyProof.Rows L2
inductive Steps (wds : List WD) (tb : List (List Int)) (ord : List Int) : List Int → Log → List Int → Log → Prop
  | refl (tk : List Int) (log : Log) : Steps wds tb ord tk log tk log
  | step {tk tk' : List Int} {log log' : Log} {k : Int} : firstB (stand tb tk) wds ord = some k → canN tb tk (plc wds k) = true → Steps wds tb ord (bumpA tk (plc wds k)) (log ++ [(k, huesA (stand tb tk) (plc wds k))]) tk' log' → Steps wds tb ord tk log tk' log'
/-- how a run ends -/
structure EndsAt (wds : List WD) (tb : List (List Int)) (ord : List Int) (tk : List Int) (b : Bool) : Prop where
  kept : b = true → firstB (stand tb tk) wds ord = none
  spent : b = false → ∃ k, firstB (stand tb tk) wds ord = some k ∧ canN tb tk (plc wds k) = false
theorem goR_steps {wds : List WD} {tb : List (List Int)} {ord : List Int} {R : Res} : ∀ (n : Nat) (tk : List Int) (log : Log), goR wds tb ord n tk log = some R → ∃ tkE, Steps wds tb ord tk log tkE R.2.2 ∧ R.2.1 = stand tb tkE ∧ EndsAt wds tb ord tkE R.1
  | 0, _, _, h => nomatch h
  | n + 1, tk, log, h => by
    rw [goR] at h
    cases e : firstB (stand tb tk) wds ord with
    | none =>
      rw [e] at h
      have z := Option.some.inj h
      rw [← z]
      exact ⟨tk, .refl _ _, rfl, fun _ => e, fun z => nomatch z⟩
    | some k =>
      rw [e] at h
      dsimp only at h
      cases c : canN tb tk (plc wds k) with
      | false =>
        rw [c, if_neg (by decide)] at h
        have z := Option.some.inj h
        rw [← z]
        exact ⟨tk, .refl _ _, rfl, (fun z => nomatch z), fun _ => ⟨k, e, c⟩⟩
      | true =>
        rw [c, if_pos rfl] at h
        obtain ⟨tkE, h1, h2, h3⟩ := goR_steps n _ _ h
        exact ⟨tkE, .step e c h1, h2, h3⟩
theorem steps_goR {wds : List WD} {tb : List (List Int)} {ord : List Int} {tk tk' : List Int} {log log' : Log} (s : Steps wds tb ord tk log tk' log') : ∃ c : Nat, ∀ m, goR wds tb ord (m + c) tk log = goR wds tb ord m tk' log' := by
  induction s with
  | refl tk log => exact ⟨0, fun m => rfl⟩
  | @step tk tk' log log' k e c s ih =>
    obtain ⟨n, hn⟩ := ih
    refine ⟨n + 1, fun m => ?_⟩
    show goR wds tb ord (m + n + 1) tk log = _
    rw [goR, e]
    dsimp only
    rw [c, if_pos rfl]
    exact hn m
theorem ends_goR {wds : List WD} {tb : List (List Int)} {ord : List Int} {tk : List Int} {b : Bool} (h : EndsAt wds tb ord tk b) (m : Nat) (log : Log) : goR wds tb ord (m + 1) tk log = some (b, stand tb tk, log) := by
  rw [goR]
  cases b with
  | true => rw [h.kept rfl]
  | false =>
    obtain ⟨k, h1, h2⟩ := h.spent rfl
    rw [h1]
    dsimp only
    rw [h2, if_neg (by decide)]
theorem goR_more {wds : List WD} {tb : List (List Int)} {ord : List Int} {R : Res} : ∀ (n : Nat) (tk : List Int) (log : Log) (m : Nat), goR wds tb ord n tk log = some R → goR wds tb ord (n + m) tk log = some R
  | 0, _, _, _, h => nomatch h
  | n + 1, tk, log, m, h => by
    rw [show n + 1 + m = (n + m) + 1 by omega]
    rw [goR] at h ⊢
    cases e : firstB (stand tb tk) wds ord with
    | none => rw [e] at h; exact h
    | some k =>
      rw [e] at h
      dsimp only at h ⊢
      cases c : canN tb tk (plc wds k) with
      | false => rw [c, if_neg (by decide)] at h; rw [if_neg (by decide)]; exact h
      | true =>
        rw [c, if_pos rfl] at h
        rw [if_pos rfl]
        exact goR_more n _ _ m h
theorem goR_one {wds : List WD} {tb : List (List Int)} {ord : List Int} {R R' : Res} {n n' : Nat} {tk : List Int} {log : Log} (h : goR wds tb ord n tk log = some R) (h' : goR wds tb ord n' tk log = some R') : R = R' := by
  have a := goR_more n tk log n' h
  have b := goR_more n' tk log n h'
  rw [Nat.add_comm] at b
  exact Option.some.inj (a.symm.trans b)
/-- a run by its steps -/
theorem runOf_of {many hues : Int} {wds : List WD} {tb : List (List Int)} {ord : List Int} (gr : GoodR many hues wds) (nd : ∀ wd ∈ wds, wd.1.Nodup) (gt : GoodT many hues tb) (go : GoodO wds.length ord) {tk : List Int} {log : Log} {b : Bool} (s : Steps wds tb ord (zerosI tb.length) [] tk log) (e : EndsAt wds tb ord tk b) : runOf wds tb ord = some (b, stand tb tk, log) := by
  obtain ⟨R, hR, _⟩ := runOf_some gr nd gt go
  obtain ⟨c, hc⟩ := steps_goR s
  have z := ends_goR e 0 log
  rw [← hc (0 + 1)] at z
  rw [hR]
  exact congrArg some (goR_one hR z)
theorem runOf_steps {wds : List WD} {tb : List (List Int)} {ord : List Int} {R : Res} (h : runOf wds tb ord = some R) : ∃ tkE, Steps wds tb ord (zerosI tb.length) [] tkE R.2.2 ∧ R.2.1 = stand tb tkE ∧ EndsAt wds tb ord tkE R.1 := goR_steps _ _ _ h
/-! ### what stays along steps -/
structure Fit (many hues : Int) (wds : List WD) (tb : List (List Int)) (ord : List Int) : Prop where
  gr : GoodR many hues wds
  nd : ∀ wd ∈ wds, wd.1.Nodup
  len : (tb.length : Int) = many
  go : GoodO wds.length ord
theorem can_fit {many hues : Int} {wds : List WD} {tb : List (List Int)} {tk : List Int} {ord : List Int} {k : Int} (f : Fit many hues wds tb ord) (e : firstB (stand tb tk) wds ord = some k) (h : canN tb tk (plc wds k) = true) : Can tb tk (plc wds k) ∧ ∃ wd, wds[k.toNat]? = some wd ∧ plc wds k = wd.1 ∧ brkAt (stand tb tk) wds k.toNat = true ∧ 0 ≤ k ∧ k < (wds.length : Int) := by
  obtain ⟨hk, hb⟩ := first_some e
  obtain ⟨k0, k1⟩ := f.go.mem k hk
  obtain ⟨wd, hw, he⟩ := wd_of k0 k1
  refine ⟨⟨?_, fun p hp => ?_, fun p hp => of_decide_eq_true (List.all_eq_true.mp h p hp)⟩, wd, hw, he, hb, k0, k1⟩
  · rw [he]; exact f.nd wd (List.mem_of_getElem? hw)
  · rw [he] at hp
    have := (f.gr.each wd (List.mem_of_getElem? hw)).pl p hp
    have := f.len
    omega
theorem steps_good {many hues : Int} {wds : List WD} {tb : List (List Int)} {ord : List Int} (f : Fit many hues wds tb ord) {tk tk' : List Int} {log log' : Log} (s : Steps wds tb ord tk log tk' log') (g : GoodK tb tk) : GoodK tb tk' := by
  induction s with
  | refl => exact g
  | step e c s ih => exact ih (bumpA_good g (can_fit f e c).1).1
theorem atF_bump (tk : List Int) (p q : Int) (h0 : 0 ≤ p) (h1 : p < (tk.length : Int)) (hq : 0 ≤ q) : atF (bump tk p.toNat) q = atF tk q + (if q = p then 1 else 0) := by
  unfold atF
  rw [bump_get]
  by_cases e : q = p
  · subst e
    rw [if_pos ⟨rfl, by omega⟩, if_pos rfl]
  · rw [if_neg (fun z => e (by omega)), if_neg e, Int.add_zero]
theorem atF_bumpA : ∀ (ps : List Int) (tk : List Int) (q : Int), ps.Nodup → (∀ p ∈ ps, 0 ≤ p ∧ p < (tk.length : Int)) → 0 ≤ q → atF (bumpA tk ps) q = atF tk q + (if q ∈ ps then 1 else 0)
  | [], tk, q, _, _, _ => by simp [bumpA]
  | p :: r, tk, q, nd, h, hq => by
    have hp := h p List.mem_cons_self
    have nd2 := List.nodup_cons.mp nd
    show atF (bumpA (bump tk p.toNat) r) q = _
    rw [atF_bumpA r (bump tk p.toNat) q nd2.2 (fun x hx => by rw [bump_len]; exact h x (List.mem_cons_of_mem _ hx)) hq, atF_bump tk p q hp.1 hp.2 hq]
    by_cases e : q = p
    · subst e
      rw [if_pos rfl, if_neg nd2.1, if_pos List.mem_cons_self]
      omega
    · rw [if_neg e, Int.add_zero]
      by_cases e2 : q ∈ r
      · rw [if_pos e2, if_pos (List.mem_cons_of_mem _ e2)]
      · rw [if_neg e2, if_neg (fun z => (List.mem_cons.mp z).elim e e2)]
def cntP (wds : List WD) (log : Log) (p : Int) : Nat := (log.filter fun e => decide (p ∈ plc wds e.1)).length
theorem cntP_snoc (wds : List WD) (log : Log) (e : Int × List Int) (p : Int) : cntP wds (log ++ [e]) p = cntP wds log p + (if p ∈ plc wds e.1 then 1 else 0) := by
  unfold cntP
  rw [List.filter_append, List.length_append]
  by_cases h : p ∈ plc wds e.1
  · simp [h]
  · simp [h]
theorem steps_cnt {many hues : Int} {wds : List WD} {tb : List (List Int)} {ord : List Int} (f : Fit many hues wds tb ord) {tk tk' : List Int} {log log' : Log} (s : Steps wds tb ord tk log tk' log') (g : GoodK tb tk) (h : ∀ p, 0 ≤ p → p < (tb.length : Int) → atF tk p = cntP wds log p) : ∀ p, 0 ≤ p → p < (tb.length : Int) → atF tk' p = cntP wds log' p := by
  induction s with
  | refl => exact h
  | @step tk tk' log log' k e c s ih =>
    have cf := (can_fit f e c).1
    refine ih (bumpA_good g cf).1 fun p p0 p1 => ?_
    rw [atF_bumpA _ _ _ cf.nd (fun x hx => by rw [g.len]; exact cf.pl x hx) p0, cntP_snoc, h p p0 p1]
    by_cases e2 : p ∈ plc wds k
    · rw [if_pos e2, if_pos e2]; rfl
    · rw [if_neg e2, if_neg e2]; rfl
theorem steps_le {many hues : Int} {wds : List WD} {tb : List (List Int)} {ord : List Int} (f : Fit many hues wds tb ord) {tk tk' : List Int} {log log' : Log} (s : Steps wds tb ord tk log tk' log') (g : GoodK tb tk) : ∀ p, 0 ≤ p → atF tk p ≤ atF tk' p := by
  induction s with
  | refl => exact fun _ _ => Int.le_refl _
  | @step tk tk' log log' k e c s ih =>
    intro p p0
    have cf := (can_fit f e c).1
    have a := ih (bumpA_good g cf).1 p p0
    rw [atF_bumpA _ _ _ cf.nd (fun x hx => by rw [g.len]; exact cf.pl x hx) p0] at a
    split at a <;> omega
theorem steps_pre {wds : List WD} {tb : List (List Int)} {ord : List Int} {tk tk' : List Int} {log log' : Log} (s : Steps wds tb ord tk log tk' log') : ∃ more, log' = log ++ more := by
  induction s with
  | refl => exact ⟨[], by rw [List.append_nil]⟩
  | step e c s ih =>
    obtain ⟨more, h⟩ := ih
    exact ⟨_, by rw [h, List.append_assoc]⟩
/-! ### tables that agree so far -/
structure Agree (tb tb' : List (List Int)) (tk : List Int) : Prop where
  len : tb'.length = tb.length
  long : ∀ p : Nat, p < tb.length → tk.getD p 0 < ((tb'.getD p []).length : Int)
  eq : ∀ p : Nat, p < tb.length → (tb'.getD p []).take ((tk.getD p 0).toNat + 1) = (tb.getD p []).take ((tk.getD p 0).toNat + 1)
theorem take_at {a b : List Int} {n j : Nat} (h : a.take (n + 1) = b.take (n + 1)) (hj : j ≤ n) : a.getD j 0 = b.getD j 0 := by
  have z := congrArg (fun l : List Int => l[j]?) h
  simp only [List.getElem?_take] at z
  rw [if_pos (by omega), if_pos (by omega)] at z
  rw [List.getD_eq_getElem?_getD, List.getD_eq_getElem?_getD, z]
theorem Agree.stand {tb tb' : List (List Int)} {tk tkE : List Int} (a : Agree tb tb' tkE) (g : GoodK tb tk) (h : ∀ p, 0 ≤ p → atF tk p ≤ atF tkE p) : stand tb' tk = stand tb tk := by
  have g' : GoodK tb' tk := by
    refine ⟨by rw [a.len]; exact g.len, fun p hp => ?_⟩
    rw [a.len] at hp
    have b := g.at_ p hp
    have c := a.long p hp
    have d := h p (by omega)
    unfold atF at d
    rw [Int.toNat_natCast] at d
    omega
  refine List.ext_getElem? fun i => ?_
  by_cases hi : i < tb.length
  · rw [stand_get g' (by rw [a.len]; exact hi), stand_get g hi]
    have b := g.at_ i hi
    have d := h i (by omega)
    unfold atF at d ⊢
    rw [Int.toNat_natCast] at d
    rw [take_at (a.eq i hi) (by omega)]
  · rw [List.getElem?_eq_none (by rw [stand_len g', a.len]; omega), List.getElem?_eq_none (by rw [stand_len g]; omega)]
theorem agree_good {tb tb' : List (List Int)} {tk tkE : List Int} (a : Agree tb tb' tkE) (g : GoodK tb tk) (h : ∀ p, 0 ≤ p → atF tk p ≤ atF tkE p) : GoodK tb' tk := by
  refine ⟨by rw [a.len]; exact g.len, fun p hp => ?_⟩
  rw [a.len] at hp
  have b := g.at_ p hp
  have c := a.long p hp
  have d := h p (by omega)
  unfold atF at d
  rw [Int.toNat_natCast] at d
  omega
theorem steps_agree {many hues : Int} {wds : List WD} {tb tb' : List (List Int)} {ord : List Int} (f : Fit many hues wds tb ord) {tk tkE : List Int} {log log' : Log} (s : Steps wds tb ord tk log tkE log') (g : GoodK tb tk) (a : Agree tb tb' tkE) : Steps wds tb' ord tk log tkE log' := by
  induction s with
  | refl => exact .refl _ _
  | @step tk tkE log log' k e c s ih =>
    have cf := (can_fit f e c).1
    have g2 := (bumpA_good g cf).1
    have le2 := steps_le f s g2
    have le1 := steps_le f (.step e c s) g
    have es := a.stand g le1
    have ih2 := ih g2 a
    refine .step (k := k) (by rw [es]; exact e) ?_ (by rw [es]; exact ih2)
    refine List.all_eq_true.mpr fun p hp => decide_eq_true ?_
    have pp := cf.pl p hp
    have b := le2 p pp.1
    rw [atF_bumpA _ _ _ cf.nd (fun x hx => by rw [g.len]; exact cf.pl x hx) pp.1, if_pos hp] at b
    have d := a.long p.toNat (by omega)
    unfold atF lenAt at *
    omega
/-! ### the draws told back -/
def app1 (tb : List (List Int)) (p : Nat) (h : Int) : List (List Int) := tb.set p (tb.getD p [] ++ [h])
def appA (tb : List (List Int)) (ps row : List Int) : List (List Int) := (ps.zip row).foldl (fun t x => app1 t x.1.toNat x.2) tb
def toldL (wds : List WD) (n : Nat) (log : Log) : List (List Int) := log.foldl (fun t e => appA t (plc wds e.1) e.2) (List.replicate n [])
def finA (tb : List (List Int)) (fs : List Int) (i : Nat) : List (List Int) := (List.range i).foldl (fun t j => app1 t j (fs.getD j 0)) tb
def toldT (wds : List WD) (fs : List Int) (log : Log) : List (List Int) := finA (toldL wds fs.length log) fs fs.length
def takes (tb : List (List Int)) (tk : List Int) : List (List Int) := List.zipWith (fun ds k => ds.take k.toNat) tb tk
def firsts (tb : List (List Int)) (tk : List Int) : List (List Int) := List.zipWith (fun ds k => ds.take (k.toNat + 1)) tb tk
theorem app1_len (tb : List (List Int)) (p : Nat) (h : Int) : (app1 tb p h).length = tb.length := by simp [app1]
theorem app1_get (tb : List (List Int)) (p i : Nat) (h : Int) : (app1 tb p h).getD i [] = if i = p ∧ p < tb.length then tb.getD p [] ++ [h] else tb.getD i [] := by
  unfold app1
  rw [List.getD_eq_getElem?_getD, List.getElem?_set]
  by_cases e : p = i
  · subst e
    by_cases h2 : p < tb.length
    · rw [if_pos rfl, if_pos h2, if_pos ⟨rfl, h2⟩]; rfl
    · rw [if_pos rfl, if_neg h2, if_neg (fun z => h2 z.2), List.getD_eq_getElem?_getD, List.getElem?_eq_none (by omega)]
  · rw [if_neg e, if_neg (fun z => e z.1.symm), List.getD_eq_getElem?_getD]
theorem appA_len : ∀ (ps row : List Int) (tb : List (List Int)), (appA tb ps row).length = tb.length
  | [], _, _ => rfl
  | _ :: _, [], _ => rfl
  | p :: r, h :: q, tb => by
    show (appA (app1 tb p.toNat h) r q).length = _
    rw [appA_len r q, app1_len]
theorem toldL_len (wds : List WD) (n : Nat) : ∀ log : Log, (toldL wds n log).length = n := fun log => by
  unfold toldL
  have : ∀ (log : Log) (tb : List (List Int)), (log.foldl (fun t e => appA t (plc wds e.1) e.2) tb).length = tb.length := by
    intro log
    induction log with
    | nil => intro _; rfl
    | cons e r ih => intro tb; rw [List.foldl_cons, ih, appA_len]
  rw [this, List.length_replicate]
theorem toldL_snoc (wds : List WD) (n : Nat) (log : Log) (e : Int × List Int) : toldL wds n (log ++ [e]) = appA (toldL wds n log) (plc wds e.1) e.2 := by
  unfold toldL
  rw [List.foldl_append]
  rfl
theorem finA_succ (tb : List (List Int)) (fs : List Int) (i : Nat) : finA tb fs (i + 1) = app1 (finA tb fs i) i (fs.getD i 0) := by
  unfold finA
  rw [List.range_succ, List.foldl_append]
  rfl
theorem finA_len (tb : List (List Int)) (fs : List Int) : ∀ i : Nat, (finA tb fs i).length = tb.length
  | 0 => rfl
  | i + 1 => by rw [finA_succ, app1_len, finA_len tb fs i]
theorem finA_get (tb : List (List Int)) (fs : List Int) : ∀ (i q : Nat), i ≤ tb.length → (finA tb fs i).getD q [] = if q < i then tb.getD q [] ++ [fs.getD q 0] else tb.getD q []
  | 0, q, _ => by rw [if_neg (Nat.not_lt_zero _)]; rfl
  | i + 1, q, h => by
    rw [finA_succ, app1_get, finA_len, finA_get tb fs i q (by omega), finA_get tb fs i i (by omega)]
    by_cases e : q = i
    · subst e
      rw [if_pos ⟨rfl, by omega⟩, if_neg (Nat.lt_irrefl _), if_pos (Nat.lt_succ_self _)]
    · rw [if_neg (fun z => e z.1)]
      by_cases e2 : q < i
      · rw [if_pos e2, if_pos (by omega)]
      · rw [if_neg e2, if_neg (by omega)]
theorem toldT_len (wds : List WD) (fs : List Int) (log : Log) : (toldT wds fs log).length = fs.length := by
  rw [toldT, finA_len, toldL_len]
theorem toldT_get (wds : List WD) (fs : List Int) (log : Log) {q : Nat} (h : q < fs.length) : (toldT wds fs log).getD q [] = (toldL wds fs.length log).getD q [] ++ [fs.getD q 0] := by
  rw [toldT, finA_get _ _ _ _ (by rw [toldL_len]; exact Nat.le_refl _), if_pos h]
theorem takes_len {tb : List (List Int)} {tk : List Int} (g : GoodK tb tk) : (takes tb tk).length = tb.length := by
  unfold takes
  rw [List.length_zipWith, g.len, Nat.min_self]
theorem takes_get {tb : List (List Int)} {tk : List Int} (g : GoodK tb tk) {p : Nat} (hp : p < tb.length) : (takes tb tk)[p]? = some ((tb.getD p []).take (tk.getD p 0).toNat) := by
  have h2 : p < tk.length := by rw [g.len]; exact hp
  unfold takes
  rw [List.getElem?_zipWith, List.getElem?_eq_getElem hp, List.getElem?_eq_getElem h2, getD_get hp, getD_get h2]
theorem firsts_len {tb : List (List Int)} {tk : List Int} (g : GoodK tb tk) : (firsts tb tk).length = tb.length := by
  unfold firsts
  rw [List.length_zipWith, g.len, Nat.min_self]
theorem firsts_get {tb : List (List Int)} {tk : List Int} (g : GoodK tb tk) {p : Nat} (hp : p < tb.length) : (firsts tb tk)[p]? = some ((tb.getD p []).take ((tk.getD p 0).toNat + 1)) := by
  have h2 : p < tk.length := by rw [g.len]; exact hp
  unfold firsts
  rw [List.getElem?_zipWith, List.getElem?_eq_getElem hp, List.getElem?_eq_getElem h2, getD_get hp, getD_get h2]
theorem getD_of {α : Type} {l : List α} {i : Nat} {a d : α} (h : l[i]? = some a) : l.getD i d = a := by
  rw [List.getD_eq_getElem?_getD, h]
  rfl
theorem take1 {tb : List (List Int)} {tk : List Int} {p : Nat} (g : GoodK tb tk) (hp : p < tb.length) (h : tk.getD p 0 + 1 < ((tb.getD p []).length : Int)) : app1 (takes tb tk) p (atF (tb.getD p []) (tk.getD p 0)) = takes tb (bump tk p) := by
  have g2 := good_bump g hp h
  have a := g.at_ p hp
  refine List.ext_getElem? fun i => ?_
  unfold app1
  rw [List.getElem?_set]
  by_cases hi : i < tb.length
  · rw [takes_get g2 hi, bump_get]
    by_cases e : p = i
    · subst e
      rw [if_pos rfl, if_pos (by rw [takes_len g]; exact hp), if_pos ⟨rfl, by rw [g.len]; exact hp⟩, getD_of (takes_get g hp)]
      have en : (tk.getD p 0 + 1).toNat = (tk.getD p 0).toNat + 1 := by omega
      have hl : (tk.getD p 0).toNat < (tb.getD p []).length := by omega
      rw [en, List.take_add_one, atF, getD_get hl, List.getElem?_eq_getElem hl]
      rfl
    · rw [if_neg e, if_neg (fun z => e z.1.symm), takes_get g hi]
  · rw [if_neg (by omega), List.getElem?_eq_none (by rw [takes_len g]; omega), List.getElem?_eq_none (by rw [takes_len g2]; omega)]
theorem takeA : ∀ (ps : List Int) {tb : List (List Int)} {tk : List Int} (w : Int → Int), GoodK tb tk → Can tb tk ps → (∀ p ∈ ps, w p = atF (tb.getD p.toNat []) (atF tk p)) → appA (takes tb tk) ps (ps.map w) = takes tb (bumpA tk ps)
  | [], _, _, _, _, _, _ => rfl
  | p :: r, tb, tk, w, g, c, h => by
    have hp := c.pl p List.mem_cons_self
    have hn := c.nx p List.mem_cons_self
    have hpn : p.toNat < tb.length := by omega
    show appA (app1 (takes tb tk) p.toNat (w p)) r (r.map w) = takes tb (bumpA (bump tk p.toNat) r)
    rw [h p List.mem_cons_self, show atF tk p = tk.getD p.toNat 0 from rfl, take1 g hpn hn]
    refine takeA r w (good_bump g hpn hn) c.tail fun q hq => ?_
    have hq2 := c.pl q (List.mem_cons_of_mem _ hq)
    have hne : q ≠ p := fun z => (List.nodup_cons.mp c.nd).1 (z ▸ hq)
    rw [h q (List.mem_cons_of_mem _ hq), atF_bump tk p q hp.1 (by rw [g.len]; exact hp.2) hq2.1, if_neg hne, Int.add_zero]
theorem steps_told {many hues : Int} {wds : List WD} {tb : List (List Int)} {ord : List Int} (f : Fit many hues wds tb ord) {tk tk' : List Int} {log log' : Log} (s : Steps wds tb ord tk log tk' log') (g : GoodK tb tk) (h : toldL wds tb.length log = takes tb tk) : toldL wds tb.length log' = takes tb tk' := by
  induction s with
  | refl => exact h
  | @step tk tk' log log' k e c s ih =>
    have cf := (can_fit f e c).1
    refine ih (bumpA_good g cf).1 ?_
    rw [toldL_snoc, h]
    refine takeA _ _ g cf fun p hp => ?_
    have pp := cf.pl p hp
    have hpn : p.toNat < tb.length := by omega
    show atF (stand tb tk) p = _
    rw [atF, getD_of (stand_get g hpn)]
    rfl
theorem told_end {wds : List WD} {tb : List (List Int)} {tk : List Int} {log : Log} (g : GoodK tb tk) (h : toldL wds tb.length log = takes tb tk) : toldT wds (stand tb tk) log = firsts tb tk := by
  refine List.ext_getElem? fun i => ?_
  by_cases hi : i < tb.length
  · have hs : i < (stand tb tk).length := by rw [stand_len g]; exact hi
    have e := toldT_get wds (stand tb tk) log hs
    rw [stand_len g, h, getD_of (takes_get g hi), getD_of (stand_get g hi)] at e
    have hl : i < (toldT wds (stand tb tk) log).length := by rw [toldT_len]; exact hs
    rw [getD_get hl] at e
    rw [List.getElem?_eq_getElem hl, e, firsts_get g hi]
    have a := g.at_ i hi
    have hl2 : (tk.getD i 0).toNat < (tb.getD i []).length := by omega
    rw [List.take_add_one, atF, getD_get hl2, List.getElem?_eq_getElem hl2]
    rfl
  · rw [List.getElem?_eq_none (by rw [toldT_len, stand_len g]; omega), List.getElem?_eq_none (by rw [firsts_len g]; omega)]
theorem takes_zero {tb : List (List Int)} : toldL wds tb.length [] = takes tb (zerosI tb.length) := by
  show List.replicate tb.length [] = _
  unfold takes zerosI
  refine List.ext_getElem? fun i => ?_
  rw [List.getElem?_zipWith, List.getElem?_replicate, List.getElem?_replicate]
  by_cases hi : i < tb.length
  · rw [if_pos hi, if_pos hi, List.getElem?_eq_getElem hi]
    rfl
  · rw [if_neg hi, if_neg hi, List.getElem?_eq_none (by omega)]
/-- all of a run -/
structure RunEnd (many hues : Int) (wds : List WD) (tb : List (List Int)) (ord : List Int) (R : Res) (tk : List Int) : Prop where
  gk : GoodK tb tk
  st : Steps wds tb ord (zerosI tb.length) [] tk R.2.2
  fs : R.2.1 = stand tb tk
  en : EndsAt wds tb ord tk R.1
  told : toldT wds R.2.1 R.2.2 = firsts tb tk
  cnt : ∀ p, 0 ≤ p → p < (tb.length : Int) → atF tk p = cntP wds R.2.2 p
theorem runEnd_of {many hues : Int} {wds : List WD} {tb : List (List Int)} {ord : List Int} {R : Res} (gr : GoodR many hues wds) (nd : ∀ wd ∈ wds, wd.1.Nodup) (gt : GoodT many hues tb) (go : GoodO wds.length ord) (h : runOf wds tb ord = some R) : ∃ tk, RunEnd many hues wds tb ord R tk := by
  obtain ⟨tk, s, e, en⟩ := runOf_steps h
  have f : Fit many hues wds tb ord := ⟨gr, nd, gt.len, go⟩
  have g0 := zeros_good gt
  have gk := steps_good f s g0
  refine ⟨tk, gk, s, e, en, ?_, steps_cnt f s g0 fun p p0 _ => ?_⟩
  · rw [e]
    exact told_end gk (steps_told f s g0 takes_zero)
  · unfold atF
    rw [zeros_get]
    rfl
theorem firsts_good {many hues : Int} {tb : List (List Int)} {tk : List Int} (gt : GoodT many hues tb) (g : GoodK tb tk) : GoodT many hues (firsts tb tk) := by
  have key : ∀ ds ∈ firsts tb tk, ∃ d ∈ tb, ∃ n, ds = d.take (n + 1) := fun ds h => by
    obtain ⟨i, hi, e⟩ := List.getElem_of_mem h
    rw [firsts_len g] at hi
    have z := firsts_get g hi
    rw [List.getElem?_eq_getElem (by rw [firsts_len g]; exact hi), e] at z
    exact ⟨_, getD_mem hi, _, Option.some.inj z⟩
  refine ⟨by rw [firsts_len g]; exact gt.len, fun ds h => ?_, fun ds h => ?_, fun ds h z hz => ?_⟩
  · obtain ⟨d, hd, n, rfl⟩ := key ds h
    have := gt.one d hd
    rw [List.length_take]
    omega
  · obtain ⟨d, hd, n, rfl⟩ := key ds h
    have := gt.few d hd
    rw [List.length_take]
    omega
  · obtain ⟨d, hd, n, rfl⟩ := key ds h
    exact gt.hue d hd z (List.mem_of_mem_take hz)
theorem firsts_agree {tb : List (List Int)} {tk : List Int} (g : GoodK tb tk) : Agree tb (firsts tb tk) tk := by
  refine ⟨firsts_len g, fun p hp => ?_, fun p hp => ?_⟩
  · rw [getD_of (firsts_get g hp), List.length_take]
    have := g.at_ p hp
    omega
  · rw [getD_of (firsts_get g hp), List.take_take, Nat.min_self]
/-- the run of the draws taken alone -/
theorem run_firsts {many hues : Int} {wds : List WD} {tb : List (List Int)} {ord : List Int} {R : Res} {tk : List Int} (gr : GoodR many hues wds) (nd : ∀ wd ∈ wds, wd.1.Nodup) (gt : GoodT many hues tb) (go : GoodO wds.length ord) (e : RunEnd many hues wds tb ord R tk) : runOf wds (firsts tb tk) ord = some R := by
  have f : Fit many hues wds tb ord := ⟨gr, nd, gt.len, go⟩
  have ag := firsts_agree e.gk
  have s' := steps_agree f e.st (zeros_good gt) ag
  have es : stand (firsts tb tk) tk = stand tb tk := ag.stand e.gk fun _ _ => Int.le_refl _
  have s2 : Steps wds (firsts tb tk) ord (zerosI (firsts tb tk).length) [] tk R.2.2 := by rw [firsts_len e.gk]; exact s'
  have z := runOf_of gr nd (firsts_good gt e.gk) go (b := R.1) s2 ⟨fun b => by rw [es]; exact e.en.kept b, fun b => by
    obtain ⟨k, h1, h2⟩ := e.en.spent b
    refine ⟨k, by rw [es]; exact h1, ?_⟩
    obtain ⟨hk, hb⟩ := first_some h1
    obtain ⟨k0, k1⟩ := go.mem k hk
    obtain ⟨wd, hw, he⟩ := wd_of k0 k1
    have gw := gr.each wd (List.mem_of_getElem? hw)
    obtain ⟨p, hp⟩ := List.exists_mem_of_length_pos (show 0 < wd.1.length from gw.one)
    rw [canN, List.all_eq_false]
    refine ⟨p, by rw [he]; exact hp, ?_⟩
    have pp := gw.pl p hp
    have hl := gt.len
    have hpn : p.toNat < tb.length := by omega
    have a := e.gk.at_ _ hpn
    rw [decide_eq_true_eq, lenAt, getD_of (firsts_get e.gk hpn), List.length_take]
    unfold atF
    omega⟩
  rw [z, es, ← e.fs]
/-- the run of a table that goes on -/
theorem run_longer {many hues : Int} {wds : List WD} {tb tb' : List (List Int)} {ord : List Int} {R R' : Res} {tk : List Int} (gr : GoodR many hues wds) (nd : ∀ wd ∈ wds, wd.1.Nodup) (gt : GoodT many hues tb) (gt' : GoodT many hues tb') (go : GoodO wds.length ord) (e : RunEnd many hues wds tb ord R tk) (hR' : runOf wds tb' ord = some R')
    (pre : ∀ p : Nat, p < tb.length → ∃ more, tb'.getD p [] = tb.getD p [] ++ more) : (R.1 = true → R' = R) ∧ ∃ more, R'.2.2 = R.2.2 ++ more := by
  have f : Fit many hues wds tb ord := ⟨gr, nd, gt.len, go⟩
  have hl := gt.len
  have hl' := gt'.len
  have ag : Agree tb tb' tk := by
    refine ⟨by omega, fun p hp => ?_, fun p hp => ?_⟩
    · obtain ⟨more, hm⟩ := pre p hp
      have a := e.gk.at_ p hp
      rw [hm, List.length_append]
      omega
    · obtain ⟨more, hm⟩ := pre p hp
      have a := e.gk.at_ p hp
      rw [hm, List.take_append_of_le_length (by omega)]
  have s' := steps_agree f e.st (zeros_good gt) ag
  have es : stand tb' tk = stand tb tk := ag.stand e.gk fun _ _ => Int.le_refl _
  rw [← ag.len] at s'
  refine ⟨fun b => ?_, ?_⟩
  · have z := runOf_of gr nd gt' go (b := R.1) s' ⟨fun b => by rw [es]; exact e.en.kept b, fun z => by rw [b] at z; cases z⟩
    rw [hR', es, ← e.fs] at z
    exact Option.some.inj z
  · obtain ⟨c, hc⟩ := steps_goR s'
    have a := goR_more _ _ _ c hR'
    rw [hc] at a
    obtain ⟨tkE, s2, _⟩ := goR_steps _ _ _ a
    exact steps_pre s2
end Dt

set_option Elab.async false
set_option linter.all false
set_option maxRecDepth 100000
set_option maxHeartbeats 4000000
namespace Rd
open PySem PySem.Spec PyProof.Rows L2 Dt
/-- a statement that is never come to -/
theorem ps_never {X : Cx} {st : Stmt} : PS X st (fun _ _ _ => False) := ⟨fun _ _ _ _ _ _ h => h.elim⟩
/-! ### lists within one that are changed -/
theorem paired_mod {H : Hp} {d : Addr} {l' : List Int} : ∀ {das : List Addr} {T : List (List Int)} {p : Nat}, Paired (IsInts H) das T → das.Nodup → das[p]? = some d → Paired (IsInts (upd H d (.lst (l'.map V.int)))) das (T.set p l')
  | _, _, p, .nil, _, h => by simp at h
  | a :: r, l :: q, 0, .cons h t, nd, e => by
    have ea : a = d := Option.some.inj e
    subst ea
    have nd2 := List.nodup_cons.mp nd
    exact .cons (by show upd H a _ a = _; exact upd_same) (paired_upd t fun x hx (z : x = a) => nd2.1 (by rw [← z]; exact hx))
  | a :: r, l :: q, p + 1, .cons h t, nd, e => by
    have nd2 := List.nodup_cons.mp nd
    have hm : d ∈ r := List.mem_of_getElem? (show r[p]? = some d from e)
    exact .cons (by show upd H d _ a = _; rw [upd_ne (fun z : a = d => nd2.1 (by rw [z]; exact hm))]; exact h) (paired_mod t nd2.2 e)
theorem paired_len_upd {H : Hp} {D : Addr} {o : HO} {das : List Addr} {T : List (List Int)} (p : Paired (IsInts H) das T) (n : D ∉ das) : Paired (IsInts (upd H D o)) das T := paired_upd p fun d hd (z : d = D) => n (by rw [← z]; exact hd)
/-- a new list of new lists, no two one -/
structure NewTab (H H' : Hp) (ta : Addr) (das : List Addr) (T : List (List Int)) : Prop where
  ht : H' ta = some (.lst (das.map V.ref))
  nt : H ta = none
  nd : das.Nodup
  new : ∀ d ∈ das, H d = none ∧ d ≠ ta
  pr : Paired (IsInts H') das T
theorem NewTab.tab {H H' : Hp} {ta : Addr} {das : List Addr} {T : List (List Int)} (h : NewTab H H' ta das T) : IsTab (Old H) H' ta T := ⟨das, h.ht, fun z => z h.nt, fun d hd z => z (h.new d hd).1, h.pr⟩
theorem NewTab.app {H H' : Hp} {ta : Addr} {das : List Addr} {T : List (List Int)} {p : Nat} {d : Addr} {l : List Int} {x : Int} (h : NewTab H H' ta das T) (hd : das[p]? = some d) (hl : T[p]? = some l) : NewTab H (upd H' d (.lst ((l ++ [x]).map V.int))) ta das (app1 T p x) := by
  have hm := List.mem_of_getElem? hd
  refine ⟨by rw [upd_ne (h.new d hm).2.symm]; exact h.ht, h.nt, h.nd, h.new, ?_⟩
  unfold app1
  rw [getD_of hl]
  exact paired_mod h.pr h.nd hd
theorem NewTab.mono {H H' H2 : Hp} {ta : Addr} {das : List Addr} {T : List (List Int)} (h : NewTab H H' ta das T) (s : Seqs H' H2) : NewTab H H2 ta das T := ⟨s.2 _ _ h.ht, h.nt, h.nd, h.new, pairedMap (fun _ _ e => s.2 _ _ e) h.pr⟩
/-! ### how long told draws are -/
theorem app1_le (T : List (List Int)) (p q : Nat) (h : Int) : ((app1 T p h).getD q []).length ≤ (T.getD q []).length + 1 := by
  rw [app1_get]
  split
  · rename_i e
    rw [e.1, List.length_append]
    exact Nat.le_refl _
  · omega
theorem appA_le : ∀ (ps row : List Int) (T : List (List Int)) (q : Nat), ((appA T ps row).getD q []).length ≤ (T.getD q []).length + ps.length
  | [], _, _, _ => Nat.le_refl _
  | _ :: _, [], _, _ => Nat.le_add_right _ _
  | p :: r, h :: s, T, q => by
    have a := appA_le r s (app1 T p.toNat h) q
    have b := app1_le T p.toNat q h
    show ((appA (app1 T p.toNat h) r s).getD q []).length ≤ _
    rw [List.length_cons]
    omega
theorem appA_snoc (T : List (List Int)) : ∀ {ps row : List Int} {j : Nat} {p h : Int}, ps[j]? = some p → row[j]? = some h → appA T (ps.take (j + 1)) (row.take (j + 1)) = app1 (appA T (ps.take j) (row.take j)) p.toNat h := by
  intro ps row j p h hp hh
  unfold appA
  have e : (ps.take (j + 1)).zip (row.take (j + 1)) = (ps.take j).zip (row.take j) ++ [(p, h)] := by
    rw [take_snoc hp, take_snoc hh]
    rw [List.zip_append]
    · rfl
    · rw [List.length_take, List.length_take]
      have a := (List.getElem?_eq_some_iff.mp hp).1
      have b := (List.getElem?_eq_some_iff.mp hh).1
      omega
  rw [e, List.foldl_append]
  rfl
theorem toldL_le {wds : List WD} (h3 : ∀ wd ∈ wds, wd.1.length ≤ 3) (n q : Nat) : ∀ log : Log, ((toldL wds n log).getD q []).length ≤ 3 * log.length := by
  have pl3 : ∀ k : Int, (plc wds k).length ≤ 3 := fun k => by
    unfold plc
    rw [List.getD_eq_getElem?_getD]
    cases e : wds[k.toNat]? with
    | none => simp
    | some wd => exact h3 wd (List.mem_of_getElem? e)
  have key : ∀ (log : Log) (T : List (List Int)), ((log.foldl (fun t e => appA t (plc wds e.1) e.2) T).getD q []).length ≤ (T.getD q []).length + 3 * log.length := by
    intro log
    induction log with
    | nil => intro T; exact Nat.le_refl _
    | cons e r ih =>
      intro T
      rw [List.foldl_cons, List.length_cons]
      have a := ih (appA T (plc wds e.1) e.2)
      have b := appA_le (plc wds e.1) e.2 T q
      have c := pl3 e.1
      omega
  intro log
  have a := key log (List.replicate n [])
  have b : ((List.replicate n ([] : List Int)).getD q []).length = 0 := by
    rw [List.getD_eq_getElem?_getD, List.getElem?_replicate]
    split <;> rfl
  unfold toldL
  omega
/-! ### logs looked at -/
def entB (wds : List WD) (x : Int × List Int) : Bool := decide (0 ≤ x.1 ∧ x.1 < (wds.length : Int) ∧ x.2 ∈ (wds.getD x.1.toNat ([], [])).2)
def logB (wds : List WD) (log : Log) : Bool := log.all (entB wds)
theorem logB_ok {wds : List WD} {log : Log} (h : logB wds log = true) : LogOk wds log := fun e he => by
  obtain ⟨h0, h1, h2⟩ := of_decide_eq_true (List.all_eq_true.mp h e he)
  have hk : e.1.toNat < wds.length := by omega
  rw [getD_get hk] at h2
  exact ⟨h0, h1, _, List.getElem?_eq_getElem hk, h2⟩
theorem logB_of {wds : List WD} {log : Log} (h : LogOk wds log) : logB wds log = true := List.all_eq_true.mpr fun e he => by
  obtain ⟨h0, h1, wd, hw, hr⟩ := h e he
  exact decide_eq_true ⟨h0, h1, by rw [getD_of hw]; exact hr⟩
theorem shaped_row (r : Dt.Row) : SeqAt.shaped (rowD r) = true := by
  have a : ∀ l : List Int, PyData.canLayAll0 (l.map .int) = true := Gv.canAll_ints
  have b : ∀ l : List Int, PyData.depthAll (l.map .int) ≤ 1 := fun l => by
    induction l with
    | nil => simp [PyData.depthAll]
    | cons x q ih => simp only [List.map_cons, PyData.depthAll, PyData.depth]; omega
  show ((rowD r).canLay0 && decide ((rowD r).depth ≤ 64)) = true
  have d : (rowD r).depth ≤ 64 := by
    unfold rowD
    simp only [PyData.depth]
    have := b r
    omega
  have c : (rowD r).canLay0 = true := by
    unfold rowD
    simp only [PyData.canLay0]
    exact a r
  rw [c, decide_eq_true d]
  rfl
theorem row_hue {many hues : Int} {wds : List WD} (gr : GoodR many hues wds) {log : Log} (h : LogOk wds log) : ∀ e ∈ log, ∀ z ∈ e.2, 0 ≤ z ∧ z < hues := fun e he z hz => by
  obtain ⟨_, _, wd, hw, hr⟩ := h e he
  exact ((gr.each wd (List.mem_of_getElem? hw)).row _ hr).2 z hz
theorem app1_all {Pz : Int → Prop} {T : List (List Int)} {p : Nat} {x : Int} (h : ∀ l ∈ T, ∀ z ∈ l, Pz z) (hx : Pz x) : ∀ l ∈ app1 T p x, ∀ z ∈ l, Pz z := fun l hl z hz => by
  rcases List.mem_or_eq_of_mem_set hl with e | e
  · exact h l e z hz
  · rw [e] at hz
    rcases List.mem_append.mp hz with q | q
    · by_cases hp : p < T.length
      · exact h _ (getD_mem (d := []) hp) z q
      · rw [List.getD_eq_getElem?_getD, List.getElem?_eq_none (by omega)] at q
        cases q
    · rw [List.mem_singleton.mp q]; exact hx
theorem appA_all {Pz : Int → Prop} : ∀ (ps row : List Int) (T : List (List Int)), (∀ l ∈ T, ∀ z ∈ l, Pz z) → (∀ z ∈ row, Pz z) → ∀ l ∈ appA T ps row, ∀ z ∈ l, Pz z
  | [], _, _, h, _ => h
  | _ :: _, [], _, h, _ => h
  | p :: r, x :: s, T, h, hr => appA_all r s (app1 T p.toNat x) (app1_all h (hr x List.mem_cons_self)) fun z hz => hr z (List.mem_cons_of_mem _ hz)
theorem toldL_all {Pz : Int → Prop} (wds : List WD) (n : Nat) : ∀ log : Log, (∀ e ∈ log, ∀ z ∈ e.2, Pz z) → ∀ l ∈ toldL wds n log, ∀ z ∈ l, Pz z := by
  have key : ∀ (log : Log) (T : List (List Int)), (∀ l ∈ T, ∀ z ∈ l, Pz z) → (∀ e ∈ log, ∀ z ∈ e.2, Pz z) → ∀ l ∈ log.foldl (fun t e => appA t (plc wds e.1) e.2) T, ∀ z ∈ l, Pz z := by
    intro log
    induction log with
    | nil => intro T h _; exact h
    | cons e r ih =>
      intro T h hl
      rw [List.foldl_cons]
      exact ih _ (appA_all _ _ _ h (hl e List.mem_cons_self)) fun x hx => hl x (List.mem_cons_of_mem _ hx)
  intro log h
  refine key log _ (fun l hl z hz => ?_) h
  rw [(List.mem_replicate.mp hl).2] at hz
  cases hz
theorem told_good {many hues : Int} {wds : List WD} (gr : GoodR many hues wds) {fs : List Int} {log : Log} (gf : GoodF many hues fs) (h : LogOk wds log) (few : ∀ ds ∈ toldT wds fs log, ds.length ≤ 1000) : GoodT many hues (toldT wds fs log) := by
  have each : ∀ ds ∈ toldT wds fs log, ∃ q, q < fs.length ∧ ds = (toldL wds fs.length log).getD q [] ++ [fs.getD q 0] := fun ds hd => by
    obtain ⟨i, hi, e⟩ := List.getElem_of_mem hd
    rw [toldT_len] at hi
    refine ⟨i, hi, ?_⟩
    rw [← toldT_get wds fs log hi, getD_get (by rw [toldT_len]; exact hi), e]
  refine ⟨by rw [toldT_len]; exact gf.len, fun ds hd => ?_, few, fun ds hd z hz => ?_⟩
  · obtain ⟨q, _, e⟩ := each ds hd
    rw [e, List.length_append]
    exact Nat.le_add_left _ _
  · obtain ⟨q, hq, e⟩ := each ds hd
    rw [e] at hz
    rcases List.mem_append.mp hz with y | y
    · have hq2 : q < (toldL wds fs.length log).length := by rw [toldL_len]; exact hq
      exact toldL_all (Pz := fun z => 0 ≤ z ∧ z < hues) wds _ log (row_hue gr h) _ (getD_mem hq2) z y
    · rw [List.mem_singleton.mp y]
      exact gf.hue _ (Dt.getD_mem hq)
/-! ### equality of what is told -/
theorem eqv_ent (x y : Int × List Int) : PyData.eqv (entD x) (entD y) = decide (x = y) := by
  obtain ⟨a, r⟩ := x
  obtain ⟨b, s⟩ := y
  unfold entD
  have e := eqv_row r s
  simp only [PyData.eqv, PyData.eqvAll, e, Bool.and_true]
  by_cases h : a = b
  · subst h
    by_cases h2 : r = s
    · subst h2; simp
    · simp [h2]
  · simp [h]
theorem eqvAll_ents : ∀ a b : Log, PyData.eqvAll (a.map entD) (b.map entD) = decide (a = b)
  | [], [] => by simp [PyData.eqvAll]
  | [], _ :: _ => by simp [PyData.eqvAll]
  | _ :: _, [] => by simp [PyData.eqvAll]
  | x :: r, y :: q => by
    simp only [List.map_cons, PyData.eqvAll, eqv_ent, eqvAll_ents r q]
    by_cases h : x = y
    · subst h; simp
    · simp [h]
theorem eqv_log (a b : Log) : PyData.eqv (logD a) (logD b) = decide (a = b) := by
  unfold logD
  rw [PyData.eqv]
  exact eqvAll_ents a b
theorem eqv_endS (a b : Bool) : PyData.eqv (.str (endS a)) (.str (endS b)) = decide (a = b) := by
  cases a <;> cases b <;> decide +kernel
theorem eqv_res (R S : Res) : PyData.eqv (resD R) (resD S) = decide (R = S) := by
  obtain ⟨a, f, l⟩ := R
  obtain ⟨b, g, m⟩ := S
  unfold resD
  have e1 := eqv_endS a b
  have e2 := eqv_row f g
  have e3 := eqv_log l m
  rw [PyData.eqv]
  simp only [PyData.eqvAll, e1, e2, e3, Bool.and_true]
  by_cases h1 : a = b
  · by_cases h2 : f = g
    · by_cases h3 : l = m
      · subst h1; subst h2; subst h3; simp
      · simp [h3]
    · simp [h2]
  · simp [h1]
def isRunB (wds : List WD) (ord : List Int) (b : Bool) (fs : List Int) (log : Log) : Bool := logB wds log && decide (runOf wds (toldT wds fs log) ord = some (b, fs, log))
/-! ### frames but for the tape and some tables -/
structure FrT (tp : Addr) (Ps : List Addr) (H H' : Hp) : Prop where
  keep : ∀ b o, b ≠ tp → b ∉ Ps → H b = some o → H' b = some o
  tape : Tape H' tp
  tabs : Tabs Ps H'
theorem FrT.frs {tp : Addr} {Ps : List Addr} {H H' : Hp} (t : Tape H tp) (tt : Tabs Ps H) (f : FrS Ps H H') : FrT tp Ps H H' := ⟨fun b o _ n e => f.1 b o n e, t.seqs (f.seqs tt), f.2⟩
theorem FrT.taped {tp : Addr} {Ps : List Addr} {H H' : Hp} (t : Tape H tp) (tt : Tabs Ps H) (f : Taped tp H H') : FrT tp Ps H H' := ⟨fun b o n _ e => f.1 b o n e, f.2, f.tabs t tt⟩
theorem FrT.trans {tp : Addr} {Ps : List Addr} {H H1 H2 : Hp} (a : FrT tp Ps H H1) (b : FrT tp Ps H1 H2) : FrT tp Ps H H2 := ⟨fun x o n m e => b.keep x o n m (a.keep x o n m e), b.tape, b.tabs⟩
theorem FrT.refl {tp : Addr} {Ps : List Addr} {H : Hp} (t : Tape H tp) (tt : Tabs Ps H) : FrT tp Ps H H := ⟨fun _ _ _ _ e => e, t, tt⟩
theorem FrT.same {tp : Addr} {Ps : List Addr} {H H1 H2 : Hp} (a : FrT tp Ps H H1) (s : Same H1 H2) : FrT tp Ps H H2 := ⟨fun x o n m e => s _ _ (a.keep x o n m e), a.tape.same s, a.tabs.same s⟩
theorem FrT.put {tp : Addr} {Ps : List Addr} {H H1 : Hp} {b : Addr} {o : HO} (a : FrT tp Ps H H1) (n : H b = none) (nt : b ≠ tp) (np : b ∉ Ps) : FrT tp Ps H (upd H1 b o) := ⟨fun x u m k e => by rw [upd_ne (ne_of_none e n)]; exact a.keep x u m k e, a.tape.put nt, a.tabs.put np⟩
theorem FrT.tups {tp : Addr} {Ps : List Addr} {H H' : Hp} (t : Tape H tp) (tt : Tabs Ps H) (f : FrT tp Ps H H') : Tups H H' := fun b xs e => f.keep b _ (fun z => by
  obtain ⟨_, _, h1, _⟩ := t
  rw [z, h1] at e
  cases e) (tt.tup e) e
theorem FrT.lst {tp : Addr} {Ps : List Addr} {H H' : Hp} (tt : Tabs Ps H) (f : FrT tp Ps H H') {b : Addr} {xs : List V} (n : b ≠ tp) (e : H b = some (.lst xs)) : H' b = some (.lst xs) := f.keep b _ n (tt.lst e) e
theorem FrT.free {tp : Addr} {Ps : List Addr} {H H' : Hp} {b : Addr} (f : FrT tp Ps H H') (h : H' b = none) : H b = none := by
  cases e : H b with
  | none => rfl
  | some o =>
    have h1 := f.tape.new h
    have h2 := f.tabs.new h
    rw [f.keep b o h1 h2 e] at h
    cases h
theorem LI.frt {K : PySem.W.Frag} {a : Addr} {xs : List V} {Ps : List Addr} {tp : Addr} {H H' : Hp} (h : LI K a xs Ps tp H) (f : FrT tp Ps H H') : LI K a xs Ps tp H' := by
  refine ⟨f.tape, f.tabs, ?_, h.far⟩
  by_cases e : a = tp
  · exact h.far e H'
  · rcases h.scr with (z | ⟨o, z⟩) | z
    · exact .inl (.inl (f.lst h.tabs e z))
    · exact .inl (.inr ⟨o, f.keep a _ e (fun y => by obtain ⟨ps, q, _⟩ := h.tabs a y; rw [z] at q; cases q) z⟩)
    · exact .inr z
theorem IsTab.frt {tp : Addr} {Ps : List Addr} {H H' : Hp} {ta : Addr} {tb : List (List Int)} (h : IsTab (· = tp) H ta tb) (tt : Tabs Ps H) (f : FrT tp Ps H H') : IsTab (· = tp) H' ta tb := h.mono fun b xs n e => f.lst tt n e
/-- a list of the items of two lists -/
theorem lc_zipL {K : PySem.W.Frag} {a b : Addr} {xs ys : List V} {g : TG} {tt : TT} {te : TE} {vs : List Nat} {σ : L2.St} {H1 : Hp} {D : Addr} {Qd : Hp → Prop} (hl : xs.length = ys.length) (Pv : Nat → Hp → Prop) (h0 : Pv 0 (upd H1 D (.lst []))) (hq : ∀ i H, Pv i H → SqL K H a xs ∧ SqL K H b ys)
    (hs : ∀ i x y T H, xs[i]? = some x → ys[i]? = some y → Pv i H → H T = none → g (.ref T) (wipe σ vs) (upd H T (.tup [x, y])) fun σ2 H2 => wipe σ2 vs = wipe σ vs ∧ tt σ2 H2 fun b H3 =>
      if b = true then te σ2 H3 fun y H4 => ∃ acc, H4 D = some (.lst acc) ∧ acc.length < sizeLine ∧ Pv (i + 1) (upd H4 D (.lst (acc ++ [y]))) else Pv (i + 1) H3) (hd : ∀ H, Pv xs.length H → Qd H) :
    ∃ W : Nat → Nat → Hp → Prop, (∃ m, W 0 m (upd H1 D (.lst []))) ∧ ∀ i m H, W i m H →
      ((Itz K a b).stop i H ∧ Qd H) ∨ ((Itz K a b).go i H ∧ ∃ Nx : Hp → Prop, (∀ H', Nx H' → ∃ m', m' < m ∧ W (i + 1) m' H') ∧ ∀ x H', (Itz K a b).yld i H x H' → g x (wipe σ vs) H' fun σ2 H2 => wipe σ2 vs = wipe σ vs ∧ tt σ2 H2 fun b H3 =>
        if b = true then te σ2 H3 fun y H4 => ∃ acc, H4 D = some (.lst acc) ∧ acc.length < sizeLine ∧ Nx (upd H4 D (.lst (acc ++ [y]))) else Nx H3) := by
  refine ⟨fun i m H => m = xs.length - i ∧ i ≤ xs.length ∧ Pv i H, ⟨xs.length, by simp, Nat.zero_le _, h0⟩, ?_⟩
  rintro i m H ⟨rfl, hi, p⟩
  obtain ⟨qx, qy⟩ := hq i H p
  by_cases hlt : i < xs.length
  · have hx : xs[i]? = some xs[i] := List.getElem?_eq_getElem hlt
    have hlt2 : i < ys.length := by omega
    have hy : ys[i]? = some ys[i] := List.getElem?_eq_getElem hlt2
    refine .inr ⟨⟨xs, ys, _, _, qx, qy, hx, hy⟩, Pv (i + 1), fun H' p' => ⟨xs.length - (i + 1), by omega, rfl, hlt, p'⟩, fun v H' y => ?_⟩
    obtain ⟨T, x', y', rfl, hT, rfl, f1, f2⟩ := y
    exact hs i x' y' T H (f1 xs qx) (f2 ys qy) p hT
  · have e : i = xs.length := by omega
    subst e
    exact .inl ⟨⟨xs, ys, qx, qy, Or.inl (Nat.le_refl _)⟩, hd H p⟩
theorem pairedTake {α β : Type} {F : α → β → Prop} : ∀ {l : List α} {m : List β} (n : Nat), Paired F l m → Paired F (l.take n) (m.take n)
  | _, _, 0, _ => by rw [List.take_zero, List.take_zero]; exact .nil
  | _, _, _ + 1, .nil => .nil
  | _, _, n + 1, .cons h t => .cons h (pairedTake n t)
theorem pairedDrop {α β : Type} {F : α → β → Prop} : ∀ {l : List α} {m : List β} (n : Nat), Paired F l m → Paired F (l.drop n) (m.drop n)
  | _, _, 0, h => h
  | _, _, _ + 1, .nil => .nil
  | _, _, n + 1, .cons _ t => pairedDrop n t
end Rd

set_option Elab.async false
set_option linter.all false
set_option maxRecDepth 100000
set_option maxHeartbeats 4000000
namespace Rd
open PySem PySem.Spec PyProof.Rows L2 Dt
/-! ### numbers -/
def CPowW (i j : Int) : Prop := 0 ≤ j ∧ (Builtin.Int.intBits i : Int) * j ≤ 2 ^ 27
theorem op_powW {X : Cx} : OpR X (binaryOp .Pow) (rI CPowW fun i j => .int (i ^ j.toNat)) := opI fun _ _ _ _ _ _ _ hc q => pow_int hc.1 hc.2 q
theorem abs_of_bits {a : Int} {n : Nat} (h : Builtin.Int.intBits a ≤ n) : a.natAbs < 2 ^ n := by
  unfold Builtin.Int.intBits at h
  by_cases e : a = 0
  · subst e
    exact Nat.two_pow_pos n
  · have e2 : a.natAbs ≠ 0 := by omega
    have h2 : a.natAbs.log2 + 1 ≤ n := by
      split at h
      · rename_i q
        simp at q
        exact absurd q e
      · exact h
    exact Nat.lt_of_lt_of_le Nat.lt_log2_self (Nat.pow_le_pow_right (by decide) h2)
theorem mix_bits {sd c : Int} {n : Nat} (h0 : 0 ≤ sd) (h1 : sd ≤ 2147483629) (hc : Builtin.Int.intBits c ≤ n) (hn : 47 ≤ n) : Builtin.Int.intBits (sd * 50021 + c) ≤ n + 1 := by
  refine intBits_le ?_
  have a := abs_of_bits hc
  have b : (140737488355328 : Nat) ≤ 2 ^ n := Nat.le_trans (by decide : (140737488355328 : Nat) ≤ 2 ^ 47) (Nat.pow_le_pow_right (by decide) hn)
  rw [Nat.pow_succ]
  generalize (2 : Nat) ^ n = m at a b
  omega

/-! ### the well -/
structure WellC (cs : List Int) (b c : Int) : Prop where
  b0 : 0 ≤ b
  c0 : 0 ≤ c
  c1 : c ≤ 2147483647
  nn : ∀ x ∈ cs, 0 ≤ x
def Well (H : Hp) (wl cl : Addr) : Prop := ∃ (cs : List Int) (b c : Int), H wl = some (.lst [.ref cl, .int b, .int c]) ∧ H cl = some (.lst (cs.map V.int)) ∧ WellC cs b c
theorem Well.ne {H : Hp} {wl cl : Addr} (h : Well H wl cl) : wl ≠ cl := by
  obtain ⟨cs, b, c, h1, h2, _⟩ := h
  refine ne_of h1 h2 fun e => ?_
  cases cs with
  | nil => cases e
  | cons x r => cases e
/-- H' is H but for the well -/
def Drawn (wl cl : Addr) (H H' : Hp) : Prop := (∀ b o, b ≠ wl → b ≠ cl → H b = some o → H' b = some o) ∧ Well H' wl cl
theorem Well.same {H H' : Hp} {wl cl : Addr} (h : Well H wl cl) (s : Same H H') : Well H' wl cl := by
  obtain ⟨cs, b, c, h1, h2, hc⟩ := h
  exact ⟨cs, b, c, s _ _ h1, s _ _ h2, hc⟩
theorem Well.new {H : Hp} {wl cl b : Addr} (h : Well H wl cl) (n : H b = none) : b ≠ wl ∧ b ≠ cl := by
  obtain ⟨cs, x, c, h1, h2, hc⟩ := h
  exact ⟨(ne_of_none h1 n).symm, (ne_of_none h2 n).symm⟩
theorem Well.put {H : Hp} {wl cl b : Addr} {o : HO} (h : Well H wl cl) (n : b ≠ wl ∧ b ≠ cl) : Well (upd H b o) wl cl := by
  obtain ⟨cs, x, c, h1, h2, hc⟩ := h
  exact ⟨cs, x, c, by rw [upd_ne n.1.symm]; exact h1, by rw [upd_ne n.2.symm]; exact h2, hc⟩
theorem Drawn.refl {H : Hp} {wl cl : Addr} (h : Well H wl cl) : Drawn wl cl H H := ⟨fun _ _ _ _ e => e, h⟩
theorem Drawn.trans {H H1 H2 : Hp} {wl cl : Addr} (a : Drawn wl cl H H1) (b : Drawn wl cl H1 H2) : Drawn wl cl H H2 := ⟨fun x o n1 n2 e => b.1 x o n1 n2 (a.1 x o n1 n2 e), b.2⟩
theorem Drawn.same {H H1 H2 : Hp} {wl cl : Addr} (a : Drawn wl cl H H1) (s : Same H1 H2) : Drawn wl cl H H2 := ⟨fun x o n1 n2 e => s _ _ (a.1 x o n1 n2 e), a.2.same s⟩
/-- a store at a place that wasn't there at first -/
theorem Drawn.put {H H1 : Hp} {wl cl b : Addr} {o : HO} (a : Drawn wl cl H H1) (n : H b = none) (nb : b ≠ wl ∧ b ≠ cl) : Drawn wl cl H (upd H1 b o) :=
  ⟨fun x u n1 n2 e => by rw [upd_ne (ne_of_none e n)]; exact a.1 x u n1 n2 e, a.2.put nb⟩
theorem Drawn.tups {H H' : Hp} {wl cl : Addr} (w : Well H wl cl) (a : Drawn wl cl H H') : Tups H H' := fun b xs e => by
  obtain ⟨cs, x, c, h1, h2, hc⟩ := w
  exact a.1 b _ (fun z => by rw [z, h1] at e; cases e) (fun z => by rw [z, h2] at e; cases e) e
theorem Drawn.free {H H' : Hp} {wl cl b : Addr} (w : Well H wl cl) (a : Drawn wl cl H H') (n : H' b = none) : H b = none := by
  cases e : H b with
  | none => rfl
  | some o =>
    obtain ⟨m1, m2⟩ := a.2.new n
    rw [a.1 b o m1 m2 e] at n
    cases n

/-! ### things popped at drawn places -/
structure PopsD {α : Type} (f : α → V) (wl cl : Addr) (H : Hp) (l D : Addr) (zs0 : List α) (i : Nat) (H5 : Hp) (acc ls : List α) : Prop where
  fr : Drawn wl cl H H5
  hL : H5 l = some (.lst (ls.map f))
  hD : H5 D = some (.lst (acc.map f))
  la : acc.length = i
  ll : ls.length + i = zs0.length
  pm : (acc ++ ls).Perm zs0
theorem popD_step {α : Type} {f : α → V} {wl cl : Addr} {H : Hp} {l D : Addr} {zs0 : List α} {i : Nat} {H5 H6 : Hp} {acc ls : List α} {d : Int} (nl : H l = none) (nlt : l ≠ wl ∧ l ≠ cl) (nD : H D = none) (nDt : D ≠ wl ∧ D ≠ cl) (nlD : l ≠ D) (hz : zs0.length ≤ 999) (p : PopsD f wl cl H l D zs0 i H5 acc ls) (D6 : Drawn wl cl H5 H6) (d0 : 0 ≤ d) (d1 : d < (ls.length : Int)) :
    ∃ y, (ls.map f)[d.toNat]? = some y ∧ H6 l = some (.lst (ls.map f)) ∧ seqIndex? d (ls.map f).length = some d.toNat ∧ ∃ acc', upd H6 l (.lst ((ls.map f).eraseIdx d.toNat)) D = some (.lst acc') ∧ acc'.length < sizeLine ∧ ∃ acc2 ls2, PopsD f wl cl H l D zs0 (i + 1) (upd (upd H6 l (.lst ((ls.map f).eraseIdx d.toNat))) D (.lst (acc' ++ [y]))) acc2 ls2 := by
  have hd : d.toNat < ls.length := by omega
  have hL6 := D6.1 l _ nlt.1 nlt.2 p.hL
  have hD6 := D6.1 D _ nDt.1 nDt.2 p.hD
  have la := p.la
  have ll := p.ll
  refine ⟨f ls[d.toNat], map_at (List.getElem?_eq_getElem hd), hL6, seqIndex_of d0 (by rw [List.length_map]; exact d1), acc.map f, ?_, ?_, acc ++ [ls[d.toNat]], ls.eraseIdx d.toNat, ?_, ?_, ?_, ?_, ?_, ?_⟩
  · rw [upd_ne (Ne.symm nlD)]
    exact hD6
  · rw [List.length_map]
    exact small1000 (by omega)
  · exact ((p.fr.trans D6).put nl nlt).put nD nDt
  · rw [upd_ne nlD, upd_same, map_erase]
  · rw [upd_same, List.map_append]
    rfl
  · rw [List.length_append, la]
    rfl
  · rw [List.length_eraseIdx_of_lt hd]
    omega
  · refine List.Perm.trans ?_ p.pm
    rw [List.append_assoc]
    exact List.Perm.append_left acc (erase_perm ls _ hd)
theorem Drawn.tabs {Ps : List Addr} {H H' : Hp} {wl cl : Addr} (w : Well H wl cl) (a : Drawn wl cl H H') (t : Tabs Ps H) : Tabs Ps H' := fun P hP => by
  obtain ⟨ps, hp, ht⟩ := t P hP
  obtain ⟨cs, x, c, h1, h2, hc⟩ := w
  exact ⟨ps, a.1 P _ (fun z => by rw [z, h1] at hp; cases hp) (fun z => by rw [z, h2] at hp; cases hp) hp, ht⟩
theorem FrS.well {Ps : List Addr} {H H' : Hp} {wl cl : Addr} (t : Tabs Ps H) (f : FrS Ps H H') (w : Well H wl cl) : Well H' wl cl := by
  obtain ⟨cs, x, c, h1, h2, hc⟩ := w
  exact ⟨cs, x, c, f.1 _ _ (t.lst h1) h1, f.1 _ _ (t.lst h2) h2, hc⟩
theorem Drawn.lst {H H' : Hp} {wl cl : Addr} (a : Drawn wl cl H H') {b : Addr} {xs : List V} (n : b ≠ wl ∧ b ≠ cl) (e : H b = some (.lst xs)) : H' b = some (.lst xs) := a.1 b _ n.1 n.2 e
theorem eqv_nil_cons (z : Int) (r : List Int) : PyData.eqv (.list ((z :: r).map PyData.int)) (.list []) = false := by
  simp [PyData.eqv, PyData.eqvAll]
theorem eqv_nil_nil : PyData.eqv (.list (([] : List Int).map PyData.int)) (.list []) = true := by
  simp [PyData.eqv, PyData.eqvAll]
def rInt1 : List V → Hp → VK → Prop := fun xs H Q => (∃ i, xs = [.int i] ∧ Q (.int i) H) ∨ ∃ k, xs = [.bl k] ∧ Q (.int (if k then 1 else 0)) H
theorem lc_enumL {K : PySem.W.Frag} {a : Addr} {xs : List V} {g : TG} {tt : TT} {te : TE} {vs : List Nat} {σ : L2.St} {H1 : Hp} {D : Addr} {Qd : Hp → Prop} (Pv : Nat → Hp → Prop) (h0 : Pv 0 (upd H1 D (.lst []))) (hl : ∀ i H, i ≤ xs.length → Pv i H → SqL K H a xs)
    (hs : ∀ i x H T, xs[i]? = some x → Pv i H → H T = none → g (.ref T) (wipe σ vs) (upd H T (.tup [.int (i : Nat), x])) fun σ2 H2 => wipe σ2 vs = wipe σ vs ∧ tt σ2 H2 fun b H3 =>
      if b = true then te σ2 H3 fun y H4 => ∃ acc, H4 D = some (.lst acc) ∧ acc.length < sizeLine ∧ Pv (i + 1) (upd H4 D (.lst (acc ++ [y]))) else Pv (i + 1) H3) (hd : ∀ H, Pv xs.length H → Qd H) :
    ∃ W : Nat → Nat → Hp → Prop, (∃ m, W 0 m (upd H1 D (.lst []))) ∧ ∀ i m H, W i m H →
      ((Ite K a).stop i H ∧ Qd H) ∨ ((Ite K a).go i H ∧ ∃ Nx : Hp → Prop, (∀ H', Nx H' → ∃ m', m' < m ∧ W (i + 1) m' H') ∧ ∀ x H', (Ite K a).yld i H x H' → g x (wipe σ vs) H' fun σ2 H2 => wipe σ2 vs = wipe σ vs ∧ tt σ2 H2 fun b H3 =>
        if b = true then te σ2 H3 fun y H4 => ∃ acc, H4 D = some (.lst acc) ∧ acc.length < sizeLine ∧ Nx (upd H4 D (.lst (acc ++ [y]))) else Nx H3) := by
  refine ⟨fun i m H => i + m = xs.length ∧ Pv i H, ⟨xs.length, by omega, h0⟩, ?_⟩
  rintro i m H ⟨e, p⟩
  have q := hl i H (by omega) p
  by_cases c : i < xs.length
  · refine .inr ⟨⟨xs, xs[i], q, List.getElem?_eq_getElem c⟩, Pv (i + 1), fun H' p' => ⟨m - 1, by omega, by omega, p'⟩, fun v H' hy => ?_⟩
    obtain ⟨T, x, rfl, nT, rfl, fx⟩ := hy
    exact hs i x H T (fx xs q) p nT
  · have e2 : i = xs.length := by omega
    subst e2
    exact .inl ⟨⟨xs, q, Nat.le_refl _⟩, hd H p⟩
theorem bumpA_get {tk ps : List Int} {i : Nat} {x : Int} (nd : ps.Nodup) (pl : ∀ p ∈ ps, 0 ≤ p ∧ p < (tk.length : Int)) (h : tk[i]? = some x) : ∃ y, (bumpA tk ps)[i]? = some y ∧ y = x + (if (i : Int) ∈ ps then 1 else 0) := by
  have hi : i < tk.length := (List.getElem?_eq_some_iff.mp h).1
  have bl : ∀ (ps tk : List Int), (bumpA tk ps).length = tk.length := fun ps => by
    unfold bumpA
    induction ps with
    | nil => intro tk; rfl
    | cons p r ih => intro tk; rw [List.foldl_cons, ih, bump_len]
  have hi2 : i < (bumpA tk ps).length := by rw [bl]; exact hi
  refine ⟨(bumpA tk ps)[i], List.getElem?_eq_getElem hi2, ?_⟩
  have z := atF_bumpA ps tk (i : Int) nd pl (by omega)
  unfold atF at z
  rw [Int.toNat_natCast, getD_get hi2, getD_of h] at z
  exact z
end Rd

set_option Elab.async false
set_option linter.all false
set_option maxRecDepth 100000
set_option maxHeartbeats 4000000
/-! xs != [] of any list -/
namespace Rd
open PySem PySem.Spec PyProof.Rows L2 Dt
def rNeE (K : PySem.W.Frag) : R2 := fun x y H Q => ∃ (a b : Addr) (xs : List V), x = .ref a ∧ y = .ref b ∧ SqL K H a xs ∧ SqL K H b [] ∧ Q (.bl (!xs.isEmpty)) H
theorem op_neE {X : Cx} (hu : X.A.units + 64 < cLine) : OpR X (compareOp .NotEq) (rNeE X.K) := by
  intro pins s σ H x y v u Q I rx ry h
  obtain ⟨a, b, xs, rfl, rfl, ha, hb, q⟩ := h
  cases rx
  cases ry
  obtain ⟨its, rv, hl, _⟩ := I.list ha
  obtain ⟨its2, rv2, hl2, _⟩ := I.list hb
  have l1 := rv.length
  have l2 := rv2.length
  cases xs with
  | nil =>
    have z1 : its = [] := List.length_eq_zero_iff.mp l1.symm
    have z2 : its2 = [] := List.length_eq_zero_iff.mp l2.symm
    subst z1 z2
    refine PySem.SeqAt.RcNeAt.lists (e := fun _ => true) hl.isList hl2.isList rfl (by omega) (fun j j1 => absurd j1 (Nat.not_lt_zero j)) _ _ _ _ ⟨.bl _, H, I, rfl, q⟩
  | cons z r =>
    refine PySem.SeqAt.RcNeAt.lists_lengths hl.isList hl2.isList ?_ (by omega) _ _ _ _ ⟨.bl _, H, I, rfl, q⟩
    rw [List.size_toArray, List.size_toArray, ← l1, ← l2]
    rfl
end Rd

set_option Elab.async false
set_option linter.all false
set_option maxRecDepth 100000
set_option maxHeartbeats 4000000
/-! an exception that is caught and kept: try / except x as n, the exception's object tracked from then on -/
namespace Rd
open PySem PySem.Spec PyProof.Rows L2 Dt
/-- the object of an exception, of which the class and the dict are known -/
def ExD (cls : Value) (d : Option Addr) (a : Addr) : HO := .ext fun h => ∃ (oe : Obj) (vs : Array Value), h.get? a = some oe ∧ Zc cls d oe ∧ oe.data = .fields vs
theorem exD_ok {P : Program} {w : World} {H : Hp} {h : Heap} {a : Addr} {cls : Value} {d : Option Addr} {oe : Obj} {vs : Array Value} (e : h.get? a = some oe) (z : Zc cls d oe) (y : oe.data = .fields vs) : ObjOk P w H h a (ExD cls d a) :=
  ⟨⟨oe, vs, e, z, y⟩, ⟨oe, e⟩, fun h1 h2 ⟨o', vs', e', z', y'⟩ k => ⟨o', vs', k _ e', z', y'⟩⟩
section
variable {X : Cx} {pins : List (Addr × Obj)} {σ : L2.St} {H : Hp} {s : Shared}
theorem track_ok (I : Inv X pins σ H s) {a : Addr} {o : HO} (na : H a = none) (n0 : X.s_0.heap.get? a = none) (nL : a ≠ X.env.locals) (nC : ∀ x c, X.env.cells.lookup x = some c → c ≠ a) (nP : ∀ p ∈ X.pn ++ pins, p.1 ≠ a) (new : ObjOk X.prog X.w (upd H a o) s.heap a o) : Inv X pins σ (upd H a o) s :=
  ⟨I.ok, I.os, I.bare, ⟨I.base.keep, I.base.slot, fun b u e n hx => by
      rw [upd_ne (fun z => by rw [z, n0] at e; cases e)]
      exact I.base.free b u e n hx, I.base.there, fun b xs e => by
      have q := I.base.tups b xs e
      rw [upd_ne (ne_of_none q na)]
      exact q, fun b u xs e => by
      have q := I.base.frzs b u xs e
      rw [upd_ne (ne_of_none q na)]
      exact q, fun b ps e => by
      obtain ⟨more, q⟩ := I.base.tbls b ps e
      exact ⟨more, by rw [upd_ne (ne_of_none q na)]; exact q⟩⟩, I.loc, I.cell, by
    rw [upd_ne (Ne.symm nL)]
    exact I.free, fun x c e => by
    rw [upd_ne (nC x c e)]
    exact I.freeC x c e, fun p hp => by
    obtain ⟨p1, p2, p3⟩ := I.pin p hp
    exact ⟨p1, by rw [upd_ne (nP p hp)]; exact p2, p3⟩, I.hok.laidN (fun _ _ e => e) na new, I.len⟩
end
/-- the clause 'except x as n', the exception tracked in its suite and behind it -/
def wKeep (K : PySem.W.Frag) (c : Value) (i : Nat) (ts : Addr → TS) (Wout : WX) (D : Ends) : WX := fun cls d σ H =>
  ∃ b, PySem.W.exmOne K cls c = some b ∧ (b = true → ∀ a, H a = none → ts a { nx := fun σ' H' => D.nx (σ'.set i none) H', rt := D.rt, bk := fun σ' H' => D.bk (σ'.set i none) H', ct := fun σ' H' => D.ct (σ'.set i none) H' } (σ.set i (some (.ref a))) (upd H a (ExD cls d a))) ∧ (b = false → Wout cls d σ H)
section
variable {X : Cx} {x n : Str} {c : Value} {i : Nat} {body suite : List Stmt} {b₀ : Stmt} {np pos pos' : Pos} {tb : WX → TS} {ts : Addr → TS} {Wout : WX}
theorem ps_try_keep (hex : X.ex = []) (hs : X.stack = X.env :: X.outer) (hf : X.env.frame = some X.env.locals) (hN : X.N.Nodup) (hi : X.N[i]? = some n) (hln : X.env.kindOf n = some .local) (hc : Names X x c) (tk : Takes X Wout)
    (hb : ∀ (W : WX) (pn : List (Addr × Obj)) (xe : Value → Shared → Prop), Takes (X.tr pn xe) W → PassesOwn (model X.prog X.w) X.A X.env xe → PSs (X.tr pn xe) body (tb W)) (hsu : ∀ (a : Addr) (pn : List (Addr × Obj)), PSs (X.suite a pn) (b₀ :: suite) (ts a)) :
    PS X (.Try body [.ExceptHandler (some (.Name x np)) (some n) (b₀ :: suite) pos'] [] [] pos) (fun D σ H => tb (wKeep X.K c i ts Wout D) D σ H) := ⟨fun pins s σ H D I h => by
  have ok := I.ok; have hfr : X.A.frames = some (X.env :: X.outer) := (by rw [ok.frames, hs])
  have hloc : Loc X.env.scope n := .inl hln; refine wpAny_Try_except ?_
  refine wpAny_mono ((hb (wKeep X.K c i ts Wout D) (X.pn ++ pins) (fun e s₁ => wpAny (model X.prog X.w) X.A (noteFrame e X.env) (fun _ s₂ => wpAny (model X.prog X.w) X.A (setFlight e none) (fun _ s₃ => wpAny (model X.prog X.w) X.A (handleBy e X.env [.ExceptHandler (some (.Name x np)) (some n) (b₀ :: suite) pos']) (SP X pins D) X.xe s₃) X.xe s₂) X.xe s₁) (fun u s' xx => ?_) PassesOwn.looking).run [] s σ H D (I.toTry _) h) (fun f s1 hsp => ?_) (fun e s1 he => he)
  · obtain ⟨a, B, sI, pins', σ', H', cls, d, rfl, J', nb, up, sky, na, os, ag, b, hb1, hyes, hno⟩ := xx; have J : Inv X pins σ' H' sI := J'.ofTry ok
    have sky' : Sky B (X.env :: X.outer) a (Zc cls d) X.env.locals s'.heap := (by rw [← hs]; exact sky)
    show wpAny (model X.prog X.w) X.A (noteFrame (.ref a) X.env) _ _ _; refine Sky.land Zc.steady hfr hf sky' fun h3 fl3 up3 => ?_
    have J3 : Inv X pins σ' H' { s' with heap := h3 } := J.landed nb fl3.1 (up.trans up3) os ag; obtain ⟨oe3, vs3, he3, hz3, hd3⟩ := fl3.there
    have nfr : a ∉ frs (X.env :: X.outer) := fun hm => by
      obtain ⟨_, o', e', hnf⟩ := fl3.2.2.1.mem hm; rw [he3] at e'; cases e'; exact hnf _ hd3
    have nL : a ≠ X.env.locals := fun z => nfr (List.mem_filterMap.mpr ⟨X.env, List.mem_cons_self, by rw [hf, z]⟩); have nF : a ∉ X.fs := fun hm => (by
      obtain ⟨e, he, q⟩ := List.mem_filterMap.mp hm
      exact nfr (List.mem_filterMap.mpr ⟨e, List.mem_cons_of_mem _ he, q⟩))
    have nI : sI.heap.get? a = none := by
      cases q : sI.heap.get? a with
      | none => rfl
      | some o =>
        have z := nb a o q (by rw [hs]; exact nfr)
        rw [fl3.2.1] at z
        cases z
    have n0 : X.s_0.heap.get? a = none := by
      cases q : X.s_0.heap.get? a with
      | none => rfl
      | some o =>
        obtain ⟨o', z⟩ := J.base.there a o q (by rw [hex]; exact List.not_mem_nil)
        rw [nI] at z
        cases z
    have nC : ∀ y z, X.env.cells.lookup y = some z → z ≠ a := fun y z e q => by
      obtain ⟨v, o, eo, _⟩ := J.cell y z e
      rw [q, nI] at eo
      cases eo
    have nP : ∀ p ∈ X.pn ++ pins, p.1 ≠ a := fun p hp q => by
      have e := (J.pin p hp).1
      rw [q, nI] at e
      cases e
    have S3 := J3.suite he3 hd3 na nL nF; refine wpAny_handleBy_cons (codeAny_handlers_test ?_) (by intro q; cases q)
    have LT : PySem.W.Looks (model X.prog X.w) h3 (typeOf (.ref a)) cls := fun A Q E s k q => wpAny_typeOf_ref (k _ _ he3) (by rw [hz3.1]; exact q); have LM := PySem.W.exm_one (M := model X.prog X.w) (J3.kIn) LT hb1
    have test : ∀ {Q : Value → Shared → Prop} {E : Value → Shared → Prop}, Q c { s' with heap := h3 } → wpAny (model X.prog X.w) (X.A.mark (some (.ref a))) (eval (.Name x np) X.env) Q E { s' with heap := h3 } := fun {Q E} q => (by
      obtain ⟨hg, hdbg, hm | ⟨hm, hv, hnn⟩⟩ := hc
      · exact ld_glob (X := X.suite a ((a, oe3) :: (X.pn ++ pins))) S3 hg hm q hdbg
      · exact ld_blt (X := X.suite a ((a, oe3) :: (X.pn ++ pins))) S3 hg hm hv q hnn hdbg)
    refine test (LM.here ?_); cases b with
    | true =>
      refine codeAny_handlers_suite_as (HandSPX.lands_againZ fl3 fun h4 fl4 up4 => ?_)
      have J4 : Inv X pins σ' H' { s' with heap := h4 } := J.landed nb fl4.1 ((up.trans up3).trans up4) os ag; obtain ⟨oe4, vs4, he4, hz4, hd4⟩ := fl4.there
      have T4 : Inv X pins σ' (upd H' a (ExD cls d a)) { s' with heap := h4 } := track_ok J4 na n0 nL nC nP (exD_ok he4 hz4 hd4)
      have S4 : Inv (X.suite a (X.pn ++ pins)) [] σ' (upd H' a (ExD cls d a)) { s' with heap := h4 } := ⟨ok.suite _ _, T4.os, T4.bare, T4.base, T4.loc, T4.cell, T4.free, T4.freeC, fun p hp => T4.pin p (by rw [List.append_nil] at hp; exact hp), T4.hok, T4.len⟩
      refine store_ok (X := X.suite a (X.pn ++ pins)) (v := .ref a) S4 hN hi hloc rfl (fun s5 S5 => ?_) (.inr hln)
      refine wpAny_mono ((hsu a (X.pn ++ pins)).run [] s5 _ _ _ S5 (hyes rfl a na)) (fun f s6 hsp => ?_) (fun _ _ z => False.elim z)
      have back : ∀ {σ6 : L2.St} {H6 : Hp} {Q : Shared → Prop}, Inv (X.suite a (X.pn ++ pins)) [] σ6 H6 s6 → (∀ s7, Inv X pins (σ6.set i none) H6 s7 → Q s7) → wpAny (model X.prog X.w) X.A (do bindName X.env n .none; unbindBehindTheSuite X.env n pos') (fun _ s7 => Q s7) X.xe s6 := fun {σ6 H6 Q} S6 hq =>
        gone_ok (X := X) (pins := pins) ⟨ok, S6.os, S6.bare, S6.base, S6.loc, S6.cell, S6.free, S6.freeC, fun p hp => S6.pin p (List.mem_append_left _ hp), S6.hok, S6.len⟩ hN hi hln hq
      cases f with
      | ret u => obtain ⟨v6, σ6, H6, S6, r6, q6⟩ := hsp; exact back S6 fun s7 J7 => ⟨_, _, _, J7, r6, q6⟩
      | next => obtain ⟨σ6, H6, S6, q6⟩ := hsp; exact back S6 fun s7 J7 => ⟨_, _, J7, q6⟩
      | brk => obtain ⟨σ6, H6, S6, q6⟩ := hsp; exact back S6 fun s7 J7 => ⟨_, _, J7, q6⟩
      | cont => obtain ⟨σ6, H6, S6, q6⟩ := hsp; exact back S6 fun s7 J7 => ⟨_, _, J7, q6⟩
    | false =>
      show wpAny _ X.A (handleBy (.ref a) X.env []) _ _ _; refine wpAny_handleBy_nil ?_; obtain ⟨k1, k2, k3, oe, vs, T, oT, ts', he, hz, hd, h1, hr⟩ := id fl3
      unfold PySem.passOn; refine wpAny_bind (wpAny_field he hd h1 ?_); rw [if_neg (show ¬ ((Value.ref T == Value.none) = true) from by simp)]
      have fin : wpAny (model X.prog X.w) X.A (setFlight (.ref a) X.env.frame) (fun _ s4 => wpAny (model X.prog X.w) X.A (throw (.ref a) : Sem Flow) (SP X pins D) X.xe s4) X.xe { s' with heap := h3 } := (by
        rw [hf]; refine HandSPX.setFlight_upZ fl3 fun h4 hh4 up4 => wpAny_throw (tk _ _ ?_)
        exact ⟨a, B, sI, pins, σ', H', cls, d, rfl, J, nb, (up.trans up3).trans up4, .inr (.inr (by rw [hs]; exact hh4)), na, os, ag, hno rfl⟩)
      first | exact wpAny_bind (wpAny_pure (wpAny_bind fin)) | exact wpAny_bind fin
  · cases f with
    | ret u => obtain ⟨v, σ', H', J', r, q⟩ := hsp; exact ⟨v, σ', H', J'.ofTry ok, r, q⟩
    | next => obtain ⟨σ', H', J', q⟩ := hsp; exact wpAny_execs_nil ⟨σ', H', J'.ofTry ok, q⟩
    | brk => obtain ⟨σ', H', J', q⟩ := hsp; exact ⟨σ', H', J'.ofTry ok, q⟩
    | cont => obtain ⟨σ', H', J', q⟩ := hsp; exact ⟨σ', H', J'.ofTry ok, q⟩⟩
end
end Rd

set_option Elab.async false
set_option linter.all false
set_option maxRecDepth 100000
set_option maxHeartbeats 4000000
/-! the refusals' classes; isinstance of one that was caught; calls that may let one out -/
namespace Rd
open PySem PySem.Spec PyProof.Rows L2 Dt
theorem pe_gref {X : Cx} {x : Str} {a : Addr} {pos : Pos} (hg : Gl X x) (hm : X.mg x = some (.ref a)) (hd : (x == ("__debug__" : Str)) = false := by decide) : PE X (.Name x pos) (tC (.ref a)) := pe_glob hg hm rfl hd
def rIsD (K : PySem.W.Frag) : List V → Hp → VK → Prop := fun xs H Q => ∃ (a D : Addr) (c : V) (cv : Value) (b : Bool), xs = [.ref a, c] ∧ H a = some (ExD (.ref D) none a) ∧ ExcC K D ∧ ClsV c cv ∧ PySem.W.kitOne K (.ref D) cv = some b ∧ Q (.bl b) H
theorem call_isD {X : Cx} : CallR X (.builtin "isinstance") (rIsD X.K) := by
  intro pins s σ H xs us Q I r h
  obtain ⟨a, D, c, cv, b, rfl, ha, C, k, e, q⟩ := h
  obtain ⟨u1, u2, rfl, r1, r2⟩ := vals2 r
  have e2 := k.eq r2
  subst e2
  cases (show u1 = Value.ref a from r1)
  obtain ⟨⟨oe, vs, hget, hz, hd⟩, _, _⟩ := I.hok a _ ha
  have J : PySem.W.InstAt s.heap a oe D none := by
    obtain ⟨oc, od, oda, osl⟩ := oe
    obtain ⟨h1, h2⟩ := hz
    dsimp only at h1 h2 hd
    subst h1 h2 hd
    exact ⟨hget, rfl, rfl, trivial⟩
  exact PySem.W.kia_one (PySem.W.handS_kitx_exc C.hg C.hk C.hs C.hd C.ha C.hn C.ht C.hm) I.kIn J e (fun z => nomatch z) fun tk => ⟨.bl b, H, I.tok tk, rfl, q⟩
/-- the classes: the eleven refusals as _law_kinds names them, then the one above -/
structure ClsX (K : PySem.W.Frag) (mg : Str → Option Value) (C : Nat → Addr) : Prop where
  g_NoEnd : mg "NoEnd" = some (.ref (C 0))
  g_NoLog : mg "NoLog" = some (.ref (C 1))
  g_NoName : mg "NoName" = some (.ref (C 2))
  g_NoRow : mg "NoRow" = some (.ref (C 3))
  g_NoStep : mg "NoStep" = some (.ref (C 4))
  g_NoTable : mg "NoTable" = some (.ref (C 5))
  g_NoText : mg "NoText" = some (.ref (C 6))
  g_NoWish : mg "NoWish" = some (.ref (C 7))
  g_Spent : mg "Spent" = some (.ref (C 8))
  g_Told : mg "Told" = some (.ref (C 9))
  g_TooMany : mg "TooMany" = some (.ref (C 10))
  g_DrawError : mg "DrawError" = some (.ref (C 11))
  m_isinstance : mg "isinstance" = none
  m_ValueError : mg "ValueError" = none
  x : ∀ i, i < 12 → PySem.W.excIn K (C i) [.type "ValueError", .type "Exception", .type "BaseException", .type "object"] "ValueError.__new__" = true
  k : ∀ i, i < 12 → PySem.W.keepIn K (.ref (C i)) = true
  e : ∀ i, i < 12 → ExcC K (C i)
  kit : ∀ i, i < 12 → ∀ j, j < 11 → PySem.W.kitOne K (.ref (C i)) (.ref (C j)) = some (decide (i = j))
  kitV : ∀ i, i < 12 → PySem.W.kitOne K (.ref (C i)) (.type "ValueError") = some true
  ty : ∀ i, i < 12 → PySem.W.typeIn K (.ref (C i)) = some (.type "type")
  exm : ∀ i, i < 12 → PySem.W.exmOne K (.ref (C i)) (.ref (C 11)) = some true
theorem ClsX.raises {K : PySem.W.Frag} {mg : Str → Option Value} {C : Nat → Addr} (T : ClsX K mg C) {X : Cx} (hK : X.K = K) {i : Nat} (hi : i < 12) : Raises X (.ref (C i)) := raises_own (by rw [hK]; exact (T.e i hi).hs) (by rw [hK]; exact T.ty i hi)
/-- a def that may raise -/
def CalX (P : Program) (w : World) (K : PySem.W.Frag) (mg : Str → Option Value) (base : Heap) (k : Nat) (x : Str) (ps : List Str) (sp : Sp) : Prop :=
  ∃ (f : Addr) (fd : FuncData), FnOk P w K mg base (L2.CX P w) k f fd ps sp ∧ mg x = some (.ref f) ∧ PySem.W.keepIn K (.ref f) = true ∧ Binds K fd ps []
theorem pe_calX {X : Cx} {W : WX} {k : Nat} {x : Str} {ps : List Str} {sp : Sp} {p pos : Pos} {e : Expr} {es : List Expr} {t : TA} (C : CalX X.prog X.w X.K X.mg X.base k x ps sp) (hr : Room k X.A) (tk : Takes X W) (hg : Gl X x)
    (ha : PA X (e :: es) t) (hdb : (x == ("__debug__" : Str)) = false := by decide) (he : starEach (e :: es) X.env = (false, eval e X.env) :: starEach es X.env := by rfl) (hpl : (backTo pos (starEach es X.env)).any (·.1) = false := by rfl) : PE X (.Call (.Name x p) (e :: es) [] pos) (tCallS sp (WE W) t) := by
  obtain ⟨f, fd, F, hm, hk, hb⟩ := C
  exact pe_callS F hr hg hm hk hb (passAt tk) ha hdb he hpl
/-- of what _law_kinds tells -/
def kindsB (i : Nat) : List Bool := ((List.range 11).map fun j => decide (i = j)) ++ [true]
def spKnd (C : Nat → Addr) : Sp := fun vs H Q _ => ∃ (a : Addr) (i : Nat), vs = [.ref a] ∧ i < 12 ∧ H a = some (ExD (.ref (C i)) none a) ∧
  ∀ H' p, Same H H' → H p = none → H' p = some (.lst ((kindsB i).map V.bl)) → Q (.ref p) H'
end Rd

set_option Elab.async false
set_option linter.all false
set_option maxRecDepth 100000
set_option maxHeartbeats 4000000
/-! defs that repr is called in: run where no repr is under way; isinstance of one that was caught, with a tuple of classes -/
namespace Rd
open PySem PySem.Spec PyProof.Rows L2 Dt
structure FnG (P : Program) (w : World) (K : PySem.W.Frag) (mg : Str → Option Value) (base : Heap) (k : Nat) (f : Addr) (fd : FuncData) (ps : List Str) (sp : Sp) : Prop where
  len : ∀ vs H Q E, sp vs H Q E → vs.length = ps.length
  run : ∀ (A : Around) (outer : List Env) (s : Shared) (H : Hp) (args : Args) (us : List Value) (vs : List V) (Q : VK), A.guards = some [] → Room k A → Env0 P w K mg base A outer s H → BindsTo s fd args (ps.zip us) → Vals vs us → sp vs H Q E0 →
    codeAny (model P w) A (.call (.ref f) args) (CR CX0 outer P w H s Q E0) s
theorem Fun.okG {P : Program} {w : World} {K : PySem.W.Frag} {mg : Str → Option Value} {base : Heap} {x qual : Str} {st : Stmt} {f : Addr} {fd : FuncData} {N ps : List Str} {k : Nat} {sp : Sp} (F : Fun K x qual st f fd) (S : FnScope N ps (defScope st)) (len : ∀ vs H Q E, sp vs H Q E → vs.length = ps.length)
    (body : ∀ (cdv : Value) (A : Around) (outer : List Env) (s : Shared) (H : Hp) (vs : List V) (Q : VK), A.guards = some [] → Room k (A.deeper (envOfC qual (defScope st) s.heap.objs.size f cdv)) → sp vs H Q E0 →
      ∃ t, PSs (cxOf CX0 P w K mg base N qual (defScope st) f cdv A outer s H E0).nox (defBody st) t ∧ t { nx := fun _ H' => Q .non H', rt := Q } (start N vs) H) : FnG P w K mg base (k + 1) f fd ps sp :=
  ⟨len, fun A outer s H args us vs Q hg hr e0 hb r hsp => Lg.run_at F S hr e0 hb r (len _ _ _ _ hsp) fun cdv hr' => body cdv A outer s H vs Q hg hr' hsp⟩
def CalG (P : Program) (w : World) (K : PySem.W.Frag) (mg : Str → Option Value) (base : Heap) (k : Nat) (x : Str) (ps : List Str) (sp : Sp) : Prop :=
  ∃ (f : Addr) (fd : FuncData), FnG P w K mg base k f fd ps sp ∧ mg x = some (.ref f) ∧ PySem.W.keepIn K (.ref f) = true ∧ Binds K fd ps []
theorem pe_calG {X : Cx} {k : Nat} {x : Str} {ps : List Str} {sp : Sp} {p pos : Pos} {e : Expr} {es : List Expr} {t : TA} (C : CalG X.prog X.w X.K X.mg X.base k x ps sp) (gd : X.A.guards = some []) (hr : Room k X.A) (hg : Gl X x)
    (ha : PA X (e :: es) t) (hdb : (x == ("__debug__" : Str)) = false := by decide) (he : starEach (e :: es) X.env = (false, eval e X.env) :: starEach es X.env := by rfl) (hpl : (backTo pos (starEach es X.env)).any (·.1) = false := by rfl) :
    PE X (.Call (.Name x p) (e :: es) [] pos) (tCallS sp (fun _ => E0) t) := by
  obtain ⟨f, fd, F, hm, hk, hb⟩ := C
  constructor
  intro pins s σ H Q I h
  apply wpAny_Call_Name_kw
  apply ld_glob I hg hm _ hdb
  apply PySem.W.callWith_K (h₀ := X.base) I.ok.mod.kin hk _ he hpl
  refine thn (ha.run pos pins s σ H _ I h) ?_
  rintro us s1 ⟨vs, H1, I1, rv, qv⟩
  have lv := F.len _ _ _ _ qv
  have bd := hb s1 us I1.kIn (by rw [List.append_nil, ← rv.length]; exact lv)
  rw [List.append_nil] at bd
  have run := F.run X.A X.stack s1 H1 ⟨us, []⟩ us vs Q gd hr I1.env0 bd rv qv
  exact ⟨I1.kIn, wpAny_call (codeAny_mono run fun res s2 out => match res, out with
    | .ok (.ret u), out => I1.after out
    | .ok .next, out => out.elim
    | .ok .brk, out => out.elim
    | .ok .cont, out => out.elim
    | .error _, out => False.elim out)⟩
/-- isinstance of one that was caught, with a tuple of classes -/
def rIsDT (K : PySem.W.Frag) : List V → Hp → VK → Prop := fun xs H Q => ∃ (a D tp : Addr) (cs : List Addr) (b : Bool), xs = [.ref a, .ref tp] ∧ H a = some (ExD (.ref D) none a) ∧ ExcC K D ∧ SqT K H tp (cs.map V.ref) ∧ PySem.W.kitAny K (.ref D) (cs.map Value.ref) = some b ∧ Q (.bl b) H
theorem vals_refs : ∀ {cs : List Addr} {us : List Value}, Vals (cs.map V.ref) us → us = cs.map Value.ref
  | [], _, h => by cases h; rfl
  | c :: q, _, h => by
    cases h with
    | cons h1 h2 =>
      rw [vals_refs h2]
      cases (show _ = Value.ref c from h1)
      rfl
theorem call_isDT {X : Cx} : CallR X (.builtin "isinstance") (rIsDT X.K) := by
  intro pins s σ H xs us Q I r h
  obtain ⟨a, D, tp, cs, b, rfl, ha, C, ht, e, q⟩ := h
  obtain ⟨u1, u2, rfl, r1, r2⟩ := vals2 r
  cases (show u1 = Value.ref a from r1)
  cases (show u2 = Value.ref tp from r2)
  obtain ⟨its, o, n, vi, ho, hc, hd⟩ := sqT_at I.hok I.kIn ht
  obtain ⟨tc, td, tda, tsl⟩ := o
  dsimp only at hc hd
  subst hc hd
  rw [← vals_refs vi] at e
  obtain ⟨⟨oe, vs, hget, hz, hx⟩, _, _⟩ := I.hok a _ ha
  have J : PySem.W.InstAt s.heap a oe D none := by
    obtain ⟨oc, od, oda, osl⟩ := oe
    obtain ⟨h1, h2⟩ := hz
    dsimp only at h1 h2 hx
    subst h1 h2 hx
    exact ⟨hget, rfl, rfl, trivial⟩
  exact PySem.W.kia_tup (PySem.W.handS_kitx_exc C.hg C.hk C.hs C.hd C.ha C.hn C.ht C.hm) I.kIn J ho e (fun z => nomatch z) fun tk => ⟨.bl b, H, I.tok tk, rfl, q⟩
/-- none of them -/
theorem kit_none {K : PySem.W.Frag} {t : Value} : ∀ {cs : List Value}, (∀ c ∈ cs, PySem.W.kitOne K t c = some false) → PySem.W.kitAny K t cs = some false
  | [], _ => rfl
  | c :: q, h => by
    rw [PySem.W.kitAny.eq_2, h c List.mem_cons_self]
    exact kit_none fun d hd => h d (List.mem_cons_of_mem _ hd)
/-! repr of what is no container -/
def rRepS : List V → Hp → VK → Prop := fun xs H Q => (xs = [.non] ∧ Q (.str "None") H) ∨ (∃ i, xs = [.int i] ∧ i.natAbs.log2 < 1920 ∧ Q (.str (Str.ofString (toString i))) H) ∨ (∃ b, xs = [.bl b] ∧ Q (.str (if b = true then "True" else "False")) H) ∨
  ∃ z : Str, xs = [.str z] ∧ (reprText z).length ≤ sizeLine ∧ Q (.str (reprText z)) H
theorem call_reprS {X : Cx} : CallR X (.builtin "repr") rRepS := by
  intro pins s σ H xs us Q I r h
  rcases h with ⟨rfl, q⟩ | ⟨i, rfl, hi, q⟩ | ⟨b, rfl, q⟩ | ⟨z, rfl, hz, q⟩
  · obtain ⟨u, rfl, ru⟩ := vals1 r
    cases (show u = Value.none from ru)
    exact PySem.P.repr_of_none ⟨.str "None", H, I.tok _, ⟨_, rfl⟩, q⟩
  · obtain ⟨u, rfl, ru⟩ := vals1 r
    obtain ⟨tk, rfl⟩ := (show ∃ tk, u = Value.int i tk from ru)
    exact PySem.P.repr_of_int hi ⟨.str (Str.ofString (toString i)), H, I.tok _, ⟨_, rfl⟩, q⟩
  · obtain ⟨u, rfl, ru⟩ := vals1 r
    cases (show u = Value.bool b from ru)
    refine PySem.P.repr_of_bool ⟨.str (if b = true then "True" else "False"), H, I.tok _, ⟨_, rfl⟩, ?_⟩
    exact q
  · obtain ⟨u, rfl, ru⟩ := vals1 r
    obtain ⟨tk, rfl⟩ := (show ∃ tk, u = Value.str z tk from ru)
    exact PySem.P.repr_of_str ⟨.str (reprText z), H, I.tok _, ⟨_, rfl⟩, q⟩ hz
/-! repr of {text: number} -/
def rRepD (K : PySem.W.Frag) : List V → Hp → VK → Prop := fun xs H Q => ∃ (a : Addr) (z : Str) (i : Int), xs = [.ref a] ∧ H a = some (.dK [(.inr z, .int i)]) ∧ (PyData.dict [(.str z, .int i)]).showable = true ∧ (PyData.dict [(.str z, .int i)]).shown.length ≤ sizeLine ∧ Q (.str (PyData.dict [(.str z, .int i)]).shown) H
theorem call_reprD {X : Cx} (hg : X.A.guards = some []) (hu : X.A.units + 64 < cLine) : CallR X (.builtin "repr") (rRepD X.K) := by
  intro pins s σ H xs us Q I r h
  obtain ⟨a, z, i, rfl, ha, h1, h4, q⟩ := h
  obtain ⟨u, rfl, ru⟩ := vals1 r
  cases (show u = Value.ref a from ru)
  obtain ⟨_, nm, vs, kv, o, es, ep, ho, hx, hd, hk, hp, _⟩ := I.hok a _ ha
  have rd : Reads s.heap (.ref a) (.dict [(.str z, .int i)]) (a :: [] ++ []) := by
    cases kv with
    | cons k1 k2 =>
      cases k2
      obtain ⟨e1, e2⟩ := k1
      obtain ⟨tk, e2⟩ := (show ∃ tk, _ = Value.int i tk from e2)
      generalize hel : es.toList = el at hp
      cases hp with
      | cons p1 p2 p3 =>
        rename_i de es'
        cases p3
        rw [← e1] at p1
        rw [e2] at p2
        obtain ⟨tk2, ek⟩ : ∃ tk2, de.key = Value.str z tk2 := by
          have p1 : Value.isStrOf z de.key = true := p1
          cases hk0 : de.key with
          | str y t2 =>
            rw [hk0] at p1
            refine ⟨t2, ?_⟩
            have : y = z := by simpa [Value.isStrOf] using p1
            rw [this]
          | _ => rw [hk0] at p1; simp [Value.isStrOf] at p1
        refine .dict ho hx.1 hd ?_ ?_
        · rw [hel]
          show ReadsAll _ [de.key] [PyData.str z] []
          rw [ek]
          exact .cons (.str z tk2) .nil
        · rw [hel]
          show ReadsAll _ [de.val] [PyData.int i] []
          rw [p2]
          exact .cons (.int i tk) .nil
  refine repr_of_reads' rd h1 (fun _ m => ?_) hg (by simp [PyData.depth, PyData.depthKv]; omega) (fun _ _ e => e) (fun h' u tk hk => ?_) h4
  · have : sysModules = a := by simpa using m
    rw [this] at nm
    simp at nm
  · exact ⟨.str _, H, I.kept (t' := _) hk, ⟨_, rfl⟩, q⟩
/-! repr of any of these -/
def RepV (K : PySem.W.Frag) (H : Hp) (v : V) (r : Str) : Prop := (∀ (X : List V → Hp → VK → Prop), X = rRepS → ∀ Q : VK, Q (.str r) H → X [v] H Q) ∨
  (∃ (a : Addr) (d : PyData), v = .ref a ∧ Dp K H (.ref a) d ∧ d.showable = true ∧ d.hasDict = false ∧ d.depth < 63 ∧ d.shown.length ≤ sizeLine ∧ r = d.shown) ∨
  ∃ (a : Addr) (z : Str) (i : Int), v = .ref a ∧ H a = some (.dK [(.inr z, .int i)]) ∧ (PyData.dict [(.str z, .int i)]).showable = true ∧ (PyData.dict [(.str z, .int i)]).shown.length ≤ sizeLine ∧ r = (PyData.dict [(.str z, .int i)]).shown
def rRepV (K : PySem.W.Frag) : List V → Hp → VK → Prop := fun xs H Q => ∃ (v : V) (r : Str), xs = [v] ∧ RepV K H v r ∧ Q (.str r) H
theorem call_reprV {X : Cx} (hg : X.A.guards = some []) (hu : X.A.units + 64 < cLine) : CallR X (.builtin "repr") (rRepV X.K) := by
  intro pins s σ H xs us Q I r h
  obtain ⟨v, z, rfl, rv, q⟩ := h
  rcases rv with rv | ⟨a, d, rfl, h1, h2, h3, h4, h5, rfl⟩ | ⟨a, y, i, rfl, h1, h2, h3, rfl⟩
  · exact call_reprS pins s σ H _ us Q I r (rv _ rfl Q q)
  · exact Lg.call_repr hg hu pins s σ H _ us Q I r ⟨a, d, rfl, h1, h2, h3, h4, h5, q⟩
  · exact call_reprD hg hu pins s σ H _ us Q I r ⟨a, y, i, rfl, h1, h2, h3, q⟩
end Rd

set_option Elab.async false
set_option linter.all false
set_option maxRecDepth 100000
set_option maxHeartbeats 4000000
/-! things of any kind: data on the heap, small dicts within it; repr and isinstance of them -/
namespace Rd
open PySem PySem.Spec PyProof.Rows L2 Dt
/-- the dicts that occur -/
inductive Lf (H : Hp) (a : Addr) : PyData → Prop
  | e : H a = some (.dK []) → Lf H a (.dict [])
  | n : H a = some (.dK [(.inl 0, .int 0)]) → Lf H a (.dict [(.int 0, .int 0)])
  | t : H a = some (.dT [([.inl 0], .int 0)]) → Lf H a (.dict [(.tuple [.int 0], .int 0)])
mutual
inductive An (Av : Addr → Prop) (H : Hp) : V → PyData → Prop
  | non : An Av H .non .none
  | bl (b : Bool) : An Av H (.bl b) (.bool b)
  | int (i : Int) : An Av H (.int i) (.int i)
  | str (x : Str) : An Av H (.str x) (.str x)
  | lst {a : Addr} {xs : List V} {ds : List PyData} : H a = some (.lst xs) → ¬ Av a → AnAll Av H xs ds → An Av H (.ref a) (.list ds)
  | tup {a : Addr} {xs : List V} {ds : List PyData} : H a = some (.tup xs) → AnAll Av H xs ds → An Av H (.ref a) (.tuple ds)
  | dct {a : Addr} {d : PyData} : Lf H a d → An Av H (.ref a) d
inductive AnAll (Av : Addr → Prop) (H : Hp) : List V → List PyData → Prop
  | nil : AnAll Av H [] []
  | cons {v : V} {vs : List V} {d : PyData} {ds : List PyData} : An Av H v d → AnAll Av H vs ds → AnAll Av H (v :: vs) (d :: ds)
end
/-- all but tables of code objects and the lists that are to be avoided stay -/
def NoTb (Av : Addr → Prop) (H H' : Hp) : Prop := ∀ b o, (∀ ps, o ≠ .tbl ps) → (¬ ∃ xs, o = .lst xs ∧ Av b) → H b = some o → H' b = some o
theorem NoTb.trans {Av : Addr → Prop} {H H1 H2 : Hp} (a : NoTb Av H H1) (b : NoTb Av H1 H2) : NoTb Av H H2 := fun x o n m e => b x o n m (a x o n m e)
theorem NoTb.same {Av : Addr → Prop} {H H' : Hp} (s : Same H H') : NoTb Av H H' := fun b o _ _ e => s b o e
theorem NoTb.refl {Av : Addr → Prop} (H : Hp) : NoTb Av H H := fun _ _ _ _ e => e
theorem NoTb.tups {Av : Addr → Prop} {H H' : Hp} (k : NoTb Av H H') : Tups H H' := fun b xs e => k b _ (fun _ z => nomatch z) (fun ⟨_, z, _⟩ => nomatch z) e
theorem NoTb.weak {Av Bv : Addr → Prop} {H H' : Hp} (k : NoTb Av H H') (w : ∀ b, Av b → Bv b) : NoTb Bv H H' := fun b o n m e => k b o n (fun ⟨xs, z, y⟩ => m ⟨xs, z, w b y⟩) e
theorem FrS.noTb {Av : Addr → Prop} {Ps : List Addr} {H H' : Hp} (t : Tabs Ps H) (f : FrS Ps H H') : NoTb Av H H' := fun b o n _ e => f.1 b o (fun z => by
  obtain ⟨ps, q, _⟩ := t b z
  rw [e] at q
  exact n ps (Option.some.inj q)) e
theorem Lf.mono {Av : Addr → Prop} {H H' : Hp} {a : Addr} {d : PyData} (k : NoTb Av H H') (h : Lf H a d) : Lf H' a d := by
  cases h with
  | e h => exact .e (k _ _ (fun _ z => nomatch z) (fun ⟨_, z, _⟩ => nomatch z) h)
  | n h => exact .n (k _ _ (fun _ z => nomatch z) (fun ⟨_, z, _⟩ => nomatch z) h)
  | t h => exact .t (k _ _ (fun _ z => nomatch z) (fun ⟨_, z, _⟩ => nomatch z) h)
mutual
theorem An.mono {Av : Addr → Prop} {H H' : Hp} (k : NoTb Av H H') : ∀ (d : PyData) (v : V), An Av H v d → An Av H' v d
  | .none, _, h => by
    cases h with
    | non => exact .non
    | dct l => cases l
  | .bool b, _, h => by
    cases h with
    | bl => exact .bl b
    | dct l => cases l
  | .int i, _, h => by
    cases h with
    | int => exact .int i
    | dct l => cases l
  | .str x, _, h => by
    cases h with
    | str => exact .str x
    | dct l => cases l
  | .list ds, _, h => by
    cases h with
    | lst e n t => exact .lst (k _ _ (fun _ z => nomatch z) (fun ⟨_, _, z⟩ => n z) e) n (An.monoAll k ds _ t)
    | dct l => cases l
  | .tuple ds, _, h => by
    cases h with
    | tup e t => exact .tup (k _ _ (fun _ z => nomatch z) (fun ⟨_, z, _⟩ => nomatch z) e) (An.monoAll k ds _ t)
    | dct l => cases l
  | .dict _, _, h => by
    cases h with
    | dct l => exact .dct (l.mono k)
theorem An.monoAll {Av : Addr → Prop} {H H' : Hp} (k : NoTb Av H H') : ∀ (ds : List PyData) (vs : List V), AnAll Av H vs ds → AnAll Av H' vs ds
  | [], _, h => by
    cases h
    exact .nil
  | d :: ds, _, h => by
    cases h with
    | cons h t => exact .cons (An.mono k d _ h) (An.monoAll k ds _ t)
end
theorem An.up {Av : Addr → Prop} {H H' : Hp} {v : V} {d : PyData} (h : An Av H v d) (k : NoTb Av H H') : An Av H' v d := An.mono k d v h
theorem AnAll.up {Av : Addr → Prop} {H H' : Hp} {vs : List V} {ds : List PyData} (h : AnAll Av H vs ds) (k : NoTb Av H H') : AnAll Av H' vs ds := An.monoAll k ds vs h
theorem AnAll.len {Av : Addr → Prop} {H : Hp} : ∀ {vs : List V} {ds : List PyData}, AnAll Av H vs ds → vs.length = ds.length
  | _, _, .nil => rfl
  | _, _, .cons _ t => congrArg (· + 1) t.len
theorem AnAll.get {Av : Addr → Prop} {H : Hp} : ∀ {vs : List V} {ds : List PyData} {i : Nat} {v : V}, AnAll Av H vs ds → vs[i]? = some v → ∃ d, ds[i]? = some d ∧ An Av H v d
  | _, _, 0, _, .cons h _, e => by
    cases e
    exact ⟨_, rfl, h⟩
  | _, _, i + 1, v, .cons _ t, e => AnAll.get (i := i) t e
theorem AnAll.append {Av : Addr → Prop} {H : Hp} : ∀ {vs ws : List V} {ds es : List PyData}, AnAll Av H vs ds → AnAll Av H ws es → AnAll Av H (vs ++ ws) (ds ++ es)
  | _, _, _, _, .nil, h => h
  | _, _, _, _, .cons a t, h => .cons a (t.append h)
theorem AnAll.take {Av : Addr → Prop} {H : Hp} : ∀ {vs : List V} {ds : List PyData} (n : Nat), AnAll Av H vs ds → AnAll Av H (vs.take n) (ds.take n)
  | _, _, 0, _ => .nil
  | _, _, _ + 1, .nil => .nil
  | _, _, n + 1, .cons a t => .cons a (t.take n)
theorem AnAll.drop {Av : Addr → Prop} {H : Hp} : ∀ {vs : List V} {ds : List PyData} (n : Nat), AnAll Av H vs ds → AnAll Av H (vs.drop n) (ds.drop n)
  | _, _, 0, h => h
  | _, _, _ + 1, .nil => .nil
  | _, _, n + 1, .cons _ t => t.drop n
theorem AnAll.rev {Av : Addr → Prop} {H : Hp} : ∀ {vs : List V} {ds : List PyData}, AnAll Av H vs ds → AnAll Av H vs.reverse ds.reverse
  | _, _, .nil => .nil
  | _, _, .cons a t => by
    rw [List.reverse_cons, List.reverse_cons]
    exact t.rev.append (.cons a .nil)
theorem AnAll.ints {Av : Addr → Prop} {H : Hp} : ∀ ns : List Int, AnAll Av H (ns.map V.int) (ns.map PyData.int)
  | [] => .nil
  | n :: r => .cons (.int n) (AnAll.ints r)
mutual
theorem An.weak {Av Bv : Addr → Prop} {H : Hp} (w : ∀ b, Bv b → Av b) : ∀ (d : PyData) (v : V), An Av H v d → An Bv H v d
  | .none, _, h => by
    cases h with
    | non => exact .non
    | dct l => exact .dct l
  | .bool b, _, h => by
    cases h with
    | bl => exact .bl b
    | dct l => exact .dct l
  | .int i, _, h => by
    cases h with
    | int => exact .int i
    | dct l => exact .dct l
  | .str x, _, h => by
    cases h with
    | str => exact .str x
    | dct l => exact .dct l
  | .list ds, _, h => by
    cases h with
    | lst e n t => exact .lst e (fun z => n (w _ z)) (An.weakAll w ds _ t)
    | dct l => exact .dct l
  | .tuple ds, _, h => by
    cases h with
    | tup e t => exact .tup e (An.weakAll w ds _ t)
    | dct l => exact .dct l
  | .dict _, _, h => by
    cases h with
    | dct l => exact .dct l
theorem An.weakAll {Av Bv : Addr → Prop} {H : Hp} (w : ∀ b, Bv b → Av b) : ∀ (ds : List PyData) (vs : List V), AnAll Av H vs ds → AnAll Bv H vs ds
  | [], _, h => by
    cases h
    exact .nil
  | d :: ds, _, h => by
    cases h with
    | cons h t => exact .cons (An.weak w d _ h) (An.weakAll w ds _ t)
end
abbrev Any (H : Hp) : V → PyData → Prop := An (fun _ => False) H
abbrev AnyAll (H : Hp) : List V → List PyData → Prop := AnAll (fun _ => False) H
theorem An.any {Av : Addr → Prop} {H : Hp} {v : V} {d : PyData} (h : An Av H v d) : Any H v d := An.weak (fun _ z => z.elim) d v h
theorem AnAll.any {Av : Addr → Prop} {H : Hp} {vs : List V} {ds : List PyData} (h : AnAll Av H vs ds) : AnyAll H vs ds := An.weakAll (fun _ z => z.elim) ds vs h
/-- what is handed to isinstance -/
def tyD : PyData → String
  | .none => "NoneType"
  | .bool _ => "bool"
  | .int _ => "int"
  | .str _ => "str"
  | .list _ => "list"
  | .tuple _ => "tuple"
  | .dict _ => "dict"
theorem An.ty {Av : Addr → Prop} {K : PySem.W.Frag} {H : Hp} {v : V} {d : PyData} (h : An Av H v d) : TyX K H v (.type (tyD d)) := by
  cases h with
  | non => exact .base .non
  | bl b => exact .base (.bl b)
  | int i => exact .base (.int i)
  | str x => exact .base (.str x)
  | lst e _ _ => exact .base (.lst e)
  | tup e _ => exact .base (.tup e)
  | dct l =>
    cases l with
    | e h => exact .base (.dK h)
    | n h => exact .base (.dK h)
    | t h => exact .base (.dT h)
/-! ### read -/
section
variable {X : Cx} {pins : List (Addr × Obj)} {σ : L2.St} {H : Hp} {s : Shared}
theorem str_key {z : Str} {k : Value} (h : Value.isStrOf z k = true) : ∃ t, k = .str z t := by
  cases k with
  | str y t =>
    have : y = z := by simpa [Value.isStrOf] using h
    exact ⟨t, by rw [this]⟩
  | _ => simp [Value.isStrOf] at h
theorem lf_reads (I : Inv X pins σ H s) {a : Addr} {d : PyData} (h : Lf H a d) : ∃ as, Reads s.heap (.ref a) d as ∧ sysModules ∉ as := by
  cases h with
  | e ha =>
    obtain ⟨_, nm, vs, kv, o, es, ep, ho, hx, hd, hk, hp, _⟩ := I.hok a _ ha
    cases kv
    generalize hel : es.toList = el at hp
    cases hp
    refine ⟨a :: [] ++ [], .dict ho hx.1 hd ?_ ?_, fun m => ?_⟩
    · rw [hel]; exact .nil
    · rw [hel]; exact .nil
    · have : sysModules = a := by simpa using m
      rw [this] at nm
      simp at nm
  | n ha =>
    obtain ⟨_, nm, vs, kv, o, es, ep, ho, hx, hd, hk, hp, _⟩ := I.hok a _ ha
    cases kv with
    | cons k1 k2 =>
      cases k2
      obtain ⟨e1, e2⟩ := k1
      obtain ⟨tk, e2⟩ := (show ∃ tk, _ = Value.int 0 tk from e2)
      generalize hel : es.toList = el at hp
      cases hp with
      | cons p1 p2 p3 =>
        rename_i de es'
        cases p3
        rw [← e1] at p1
        rw [e2] at p2
        obtain ⟨tk2, ek⟩ : ∃ tk2, de.key = Value.int 0 tk2 := by
          rcases keyIs_shape (show keyIs (Sum.inl 0) de.key = true from p1) with ⟨i, t, q1, q2⟩ | ⟨y, t, q1, q2⟩
          · cases q1
            exact ⟨t, q2⟩
          · cases q1
        refine ⟨a :: [] ++ [], .dict ho hx.1 hd ?_ ?_, fun m => ?_⟩
        · rw [hel]
          show ReadsAll _ [de.key] [PyData.int 0] []
          rw [ek]
          exact .cons (.int 0 tk2) .nil
        · rw [hel]
          show ReadsAll _ [de.val] [PyData.int 0] []
          rw [p2]
          exact .cons (.int 0 tk) .nil
        · have : sysModules = a := by simpa using m
          rw [this] at nm
          simp at nm
  | t ha =>
    obtain ⟨_, nm, xs, pr, o, es, ep, ho, hx, hd, hk, _⟩ := I.hok a _ ha
    cases pr with
    | @cons _ q _ _ p1 p2 =>
      cases p2
      obtain ⟨e1, e2, e3⟩ := p1
      obtain ⟨tk, e3⟩ := (show ∃ tk, q.2.2 = Value.int 0 tk from e3)
      obtain ⟨_, its, rv, o2, ho2, hc2, n2, hd2⟩ := I.hok q.2.1 _ e2
      refine ⟨a :: [] ++ [], .dict ho hx.1 hd ?_ ?_, fun m => ?_⟩
      · rw [hk]
        show ReadsAll _ [Value.ref q.2.1] [PyData.tuple [.int 0]] []
        refine .cons (as := []) (.tuple ho2 hc2 hd2 ?_) .nil
        cases rv with
        | cons r1 r2 =>
          cases r2
          obtain ⟨t1, r1⟩ := (show ∃ t, _ = Value.int 0 t from r1)
          show ReadsAll _ [_] [PyData.int 0] []
          rw [r1]
          exact .cons (.int 0 t1) .nil
      · rw [hk]
        show ReadsAll _ [q.2.2] [PyData.int 0] []
        rw [e3]
        exact .cons (.int 0 tk) .nil
      · have : sysModules = a := by simpa using m
        rw [this] at nm
        simp at nm
mutual
theorem an_reads (I : Inv X pins σ H s) : ∀ (d : PyData) (v : V) (u : Value), An Av H v d → RelV v u → ∃ as, Reads s.heap u d as
  | .none, _, _, h, r => by
    cases h with
    | non => cases r; exact ⟨_, .none⟩
    | dct l => cases l
  | .bool b, _, _, h, r => by
    cases h with
    | bl => cases r; exact ⟨_, .bool b⟩
    | dct l => cases l
  | .int i, _, _, h, r => by
    cases h with
    | int => obtain ⟨t, rfl⟩ := r; exact ⟨_, .int i t⟩
    | dct l => cases l
  | .str x, _, _, h, r => by
    cases h with
    | str => obtain ⟨t, rfl⟩ := r; exact ⟨_, .str x t⟩
    | dct l => cases l
  | .list ds, _, _, h, r => by
    cases h with
    | lst e _ t =>
      cases r
      obtain ⟨_, its, n, rv, hg⟩ := I.hok _ _ e
      obtain ⟨as, q⟩ := an_readsAll I ds _ its t rv
      exact ⟨_, .list hg rfl rfl q⟩
    | dct l => cases l
  | .tuple ds, _, _, h, r => by
    cases h with
    | tup e t =>
      cases r
      obtain ⟨_, its, rv, o, hg, hc, n, hd⟩ := I.hok _ _ e
      obtain ⟨as, q⟩ := an_readsAll I ds _ its t rv
      exact ⟨_, .tuple hg hc hd q⟩
    | dct l => cases l
  | .dict _, _, _, h, r => by
    cases h with
    | dct l =>
      cases r
      obtain ⟨as, q, _⟩ := lf_reads I l
      exact ⟨as, q⟩
theorem an_readsAll (I : Inv X pins σ H s) : ∀ (ds : List PyData) (vs : List V) (us : List Value), AnAll Av H vs ds → Vals vs us → ∃ as, ReadsAll s.heap us ds as
  | [], _, _, h, r => by
    cases h
    cases r
    exact ⟨_, .nil⟩
  | d :: ds, _, _, h, r => by
    cases h with
    | cons a t =>
      cases r with
      | cons r1 r2 =>
        obtain ⟨as, q1⟩ := an_reads I d _ _ a r1
        obtain ⟨bs, q2⟩ := an_readsAll I ds _ _ t r2
        exact ⟨_, .cons q1 q2⟩
end
/-! ### shown -/
mutual
theorem an_repr (I : Inv X pins σ H s) : ∀ (d : PyData) (v : V) (u : Value), An Av H v d → RelV v u → d.showable = true → d.shown.length ≤ sizeLine → ∃ bs, ReadAtMost s.heap d.depth bs ∧ ReprK X.prog X.w bs s.heap d.depth u d.shown
  | .list ds, v, u, h, r, sh, sz => by
    obtain ⟨as, rd⟩ := an_reads I (.list ds) v u h r
    cases h with
    | dct l => cases l
    | lst e _ t =>
      cases r
      obtain ⟨_, its, n, rv, hg⟩ := I.hok _ _ e
      have sz2 : (listText (PyData.shownAll ds)).length ≤ sizeLine := by simpa only [PyData.shown] using sz
      obtain ⟨bs, b1, b2⟩ := an_reprAll I ds _ its t rv (by simpa [PyData.showable] using sh) fun x hx => Nat.le_trans (listText_mem_le hx) sz2
      have dp : PyData.depth (.list ds) = PyData.depthAll ds + 1 := by simp only [PyData.depth]
      have out := not_mem_of_deeper rd (by rw [dp]; exact Nat.lt_succ_self _) b1
      refine ⟨_ :: bs, ReadAtMost.cons rd (by rw [dp]; exact Nat.le_succ _) b1, ?_⟩
      rw [dp]
      simp only [PyData.shown]
      cases its with
      | nil =>
        cases rv
        cases t
        simp only [PyData.shownAll, listText_nil]
        exact ReprK.listEmpty hg rfl rfl
      | cons x l => exact ReprK.list hg rfl rfl out (by simpa using b2.length_eq) fun i y q => b2.item i y (by simpa using q)
  | .tuple ds, v, u, h, r, sh, sz => by
    obtain ⟨as, rd⟩ := an_reads I (.tuple ds) v u h r
    cases h with
    | dct l => cases l
    | tup e t =>
      cases r
      obtain ⟨_, its, rv, o, hg, hc, n, hd⟩ := I.hok _ _ e
      have sz2 : (tupleText (PyData.shownAll ds)).length ≤ sizeLine := by simpa only [PyData.shown] using sz
      obtain ⟨bs, b1, b2⟩ := an_reprAll I ds _ its t rv (by simpa [PyData.showable] using sh) fun x hx => Nat.le_trans (tupleText_mem_le hx) sz2
      have dp : PyData.depth (.tuple ds) = PyData.depthAll ds + 1 := by simp only [PyData.depth]
      have out := not_mem_of_deeper rd (by rw [dp]; exact Nat.lt_succ_self _) b1
      refine ⟨_ :: bs, ReadAtMost.cons rd (by rw [dp]; exact Nat.le_succ _) b1, ?_⟩
      rw [dp]
      simp only [PyData.shown]
      exact ReprK.tuple hg hc hd out b2
  | .dict kvs, v, u, h, r, sh, sz => by
    cases h with
    | dct l =>
      cases r
      obtain ⟨as, rd, no⟩ := lf_reads I l
      exact ReprK.of_reads rd sh (fun _ => no) sz
  | .none, v, u, h, r, sh, sz => by
    obtain ⟨as, rd⟩ := an_reads I .none v u h r
    exact ReprK.of_reads rd sh (fun z => nomatch z) sz
  | .bool b, v, u, h, r, sh, sz => by
    obtain ⟨as, rd⟩ := an_reads I (.bool b) v u h r
    exact ReprK.of_reads rd sh (fun z => nomatch z) sz
  | .int i, v, u, h, r, sh, sz => by
    obtain ⟨as, rd⟩ := an_reads I (.int i) v u h r
    exact ReprK.of_reads rd sh (fun z => nomatch z) sz
  | .str x, v, u, h, r, sh, sz => by
    obtain ⟨as, rd⟩ := an_reads I (.str x) v u h r
    exact ReprK.of_reads rd sh (fun z => nomatch z) sz
theorem an_reprAll (I : Inv X pins σ H s) : ∀ (ds : List PyData) (vs : List V) (us : List Value), AnAll Av H vs ds → Vals vs us → PyData.showableAll ds = true → (∀ t ∈ PyData.shownAll ds, t.length ≤ sizeLine) → ∃ bs, ReadAtMost s.heap (PyData.depthAll ds) bs ∧ ReprAllK X.prog X.w bs s.heap (PyData.depthAll ds) us (PyData.shownAll ds)
  | [], _, _, h, r, _, _ => by
    cases h
    cases r
    refine ⟨[], (fun _ m => nomatch m), ?_⟩
    simp only [PyData.shownAll]
    exact .nil
  | d :: ds, _, _, h, r, sh, sz => by
    cases h with
    | cons a t =>
      cases r with
      | cons r1 r2 =>
        obtain ⟨s1, s2⟩ : d.showable = true ∧ PyData.showableAll ds = true := by simpa [PyData.showableAll] using sh
        simp only [PyData.shownAll] at sz
        obtain ⟨bs, b1, b2⟩ := an_repr I d _ _ a r1 s1 (sz _ List.mem_cons_self)
        obtain ⟨cs, c1, c2⟩ := an_reprAll I ds _ _ t r2 s2 fun x hx => sz x (List.mem_cons_of_mem _ hx)
        have m1 : d.depth ≤ PyData.depthAll (d :: ds) := by simp only [PyData.depthAll]; exact Nat.le_max_left _ _
        have m2 : PyData.depthAll ds ≤ PyData.depthAll (d :: ds) := by simp only [PyData.depthAll]; exact Nat.le_max_right _ _
        refine ⟨bs ++ cs, (b1.mono m1).append (c1.mono m2), ?_⟩
        simp only [PyData.shownAll]
        exact .cons ((b2.more fun b hb => List.mem_append_left _ hb).level_le m1) (c2.more_le (fun b hb => List.mem_append_right _ hb) m2)
end
end
/-- repr(x), x anything -/
def rRepA : List V → Hp → VK → Prop := fun xs H Q => ∃ (Av : Addr → Prop) (v : V) (d : PyData), xs = [v] ∧ An Av H v d ∧ d.showable = true ∧ d.depth < 60 ∧ d.shown.length ≤ sizeLine ∧ Q (.str d.shown) H
theorem call_reprA {X : Cx} (hg : X.A.guards = some []) (hu : X.A.units + 64 < cLine) : CallR X (.builtin "repr") rRepA := by
  intro pins s σ H xs us Q I r h
  obtain ⟨Av, v, d, rfl, an, sh, dp, sz, q⟩ := h
  obtain ⟨u, rfl, ru⟩ := vals1 r
  have kept : ∀ {h' : Heap} {u tk}, (∀ b o, s.heap.get? b = some o → h'.get? b = some o) → EP X pins σ Q (.str d.shown u) { s with heap := h', toks := tk } := fun {h' u tk} hk => ⟨.str d.shown, H, I.kept (t' := tk) hk, ⟨_, rfl⟩, q⟩
  cases d with
  | none =>
    cases an with
    | non => cases (show u = Value.none from ru); exact PySem.P.repr_of_none ⟨.str "None", H, I.tok _, ⟨_, rfl⟩, q⟩
    | dct l => cases l
  | bool b =>
    cases an with
    | bl => cases (show u = Value.bool b from ru); exact PySem.P.repr_of_bool ⟨.str _, H, I.tok _, ⟨_, rfl⟩, q⟩
    | dct l => cases l
  | int i =>
    cases an with
    | int =>
      obtain ⟨tk, rfl⟩ := (show ∃ tk, u = Value.int i tk from ru)
      have hi : i.natAbs.log2 < 1920 := by simpa [PyData.showable] using sh
      exact PySem.P.repr_of_int hi ⟨.str _, H, I.tok _, ⟨_, rfl⟩, q⟩
    | dct l => cases l
  | str x =>
    cases an with
    | str =>
      obtain ⟨tk, rfl⟩ := (show ∃ tk, u = Value.str x tk from ru)
      exact PySem.P.repr_of_str ⟨.str _, H, I.tok _, ⟨_, rfl⟩, q⟩ sz
    | dct l => cases l
  | list ds =>
    obtain ⟨as, rd⟩ := an_reads I (.list ds) v u an ru
    cases an with
    | dct l => cases l
    | @lst a xs0 _ e _ t =>
      cases (show u = Value.ref a from ru)
      obtain ⟨_, its, n, rv, hg1⟩ := I.hok _ _ e
      have sz2 : (listText (PyData.shownAll ds)).length ≤ sizeLine := by simpa only [PyData.shown] using sz
      obtain ⟨bs, b1, b2⟩ := an_reprAll I ds _ its t rv (by simpa [PyData.showable] using sh) fun x hx => Nat.le_trans (listText_mem_le hx) sz2
      have dpe : PyData.depth (.list ds) = PyData.depthAll ds + 1 := by simp only [PyData.depth]
      have out := not_mem_of_deeper rd (by rw [dpe]; exact Nat.lt_succ_self _) b1
      refine call_repr_slot (T := "list") (idr := "list.__repr__") (by omega) ⟨_, hg1, rfl⟩ F.slot_list_repr.toG ?_
      have e1 : PyData.shown (.list ds) = listText (PyData.shownAll ds) := by simp only [PyData.shown]
      cases its with
      | nil =>
        cases rv
        cases t
        exact call_list_repr_empty ⟨_, hg1, rfl⟩ hg1 rfl ⟨_, _, rfl, kept (fun _ _ e => e)⟩
      | cons x l =>
        refine call_list_reprK hg1 rfl rfl out (by simpa using b2.length_eq) (fun i y q => b2.item i y (by simpa using q)) hg (fun b _ => Clear.nil b) (by rw [dpe] at dp; show X.A.units + 1 + _ < _; omega) (fun _ _ e => e) (fun h' w tk hk => ⟨_, _, rfl, ?_⟩) sz2
        have z := kept (u := w) (tk := tk) hk
        rw [e1] at z
        exact z
  | tuple ds =>
    obtain ⟨as, rd⟩ := an_reads I (.tuple ds) v u an ru
    cases an with
    | dct l => cases l
    | @tup a xs0 _ e t =>
      cases (show u = Value.ref a from ru)
      obtain ⟨_, its, rv, o, hg1, hc, n, hd⟩ := I.hok _ _ e
      have sz2 : (tupleText (PyData.shownAll ds)).length ≤ sizeLine := by simpa only [PyData.shown] using sz
      obtain ⟨bs, b1, b2⟩ := an_reprAll I ds _ its t rv (by simpa [PyData.showable] using sh) fun x hx => Nat.le_trans (tupleText_mem_le hx) sz2
      have dpe : PyData.depth (.tuple ds) = PyData.depthAll ds + 1 := by simp only [PyData.depth]
      have out := not_mem_of_deeper rd (by rw [dpe]; exact Nat.lt_succ_self _) b1
      refine call_repr_slot (T := "tuple") (idr := "tuple.__repr__") (by omega) ⟨_, hg1, hc⟩ F.slot_tuple_repr ?_
      have e1 : PyData.shown (.tuple ds) = tupleText (PyData.shownAll ds) := by simp only [PyData.shown]
      refine call_tuple_reprK hg1 hc hd out b2 hg (fun b _ => Clear.nil b) (by rw [dpe] at dp; show X.A.units + 1 + _ < _; omega) (fun _ _ e => e) (fun h' w tk hk => ⟨_, _, rfl, ?_⟩) sz2
      have z := kept (u := w) (tk := tk) hk
      rw [e1] at z
      exact z
  | dict kvs =>
    cases an with
    | @dct a _ l =>
      cases (show u = Value.ref a from ru)
      obtain ⟨as, rd, no⟩ := lf_reads I l
      exact repr_of_reads' rd sh (fun _ => no) hg (by omega) (fun _ _ e => e) (fun h' w tk hk => kept hk) sz
end Rd

set_option Elab.async false
set_option linter.all false
set_option maxRecDepth 100000
set_option maxHeartbeats 4000000
/-! {(..): v}: a dict of one pair, its key a tuple -/
namespace Rd
open PySem PySem.Spec PyProof.Rows L2 Dt
def tDisp1T (tk tv : TE) : TE := fun σ H Q => ∀ p, H p = none → tk σ (upd H p (.dT [])) fun x H1 => tv σ H1 fun v H2 => ∃ (b : Addr) (k : List Key), x = .ref b ∧ H2 p = some (.dT []) ∧ H2 b = some (.tup (k.map kV)) ∧ Q (.ref p) (upd H2 p (.dT [(k, v)]))
theorem pe_disp1T {X : Cx} {pos : Pos} {ke ve : Expr} {tk tv : TE} (hu : X.A.units + 1 < cLine) (hk : PE X ke tk) (hv : PE X ve tv) : PE X (.Dict [some ke] [ve] pos) (tDisp1T tk tv) := by
  refine ⟨fun pins s σ H Q I q => ?_⟩
  have hn := I.hok.fresh (Nat.le_refl s.heap.objs.size)
  have I1 := I.laid (a := s.heap.objs.size) (o := .dT []) (h' := s.heap.push { cls := .type "dict", data := .dict #[] }) (t' := s.toks) (fun _ _ q => Heap.get?_push_of_some _ q) (Nat.le_refl _) (dt_empty s.heap I.big)
  have room : (tupleKind (mixKind X.prog X.w)).room X.A := Nat.lt_of_succ_lt hu
  rw [arm_eval_Dict, zip_pairTrees [some ke] [ve] X.env pos rfl rfl, dictDisplay_pairs (pairTrees [some ke] [ve] X.env pos) (fun z => by cases z) (by show 1 < 17; decide)]
  refine wpAny_bind (wpAny_standAt (wpAny_bind (wpAny_subDictH (knd := tupleKind (mixKind X.prog X.w)) room (by show 1 ≤ 15; decide) ?_)))
  refine pairTrees_cons_walk (thn (hk.run pins _ σ _ _ I1 (q _ hn)) fun x1 s1 ⟨x, H1, J1, rx, q1⟩ => thn (hv.run pins s1 σ H1 _ J1 q1) fun v1 s2 ⟨v, H2, J2, rv, b, k, ex, e, eb, q2⟩ => pairTrees_nil_walk ?_)
  subst ex
  obtain rfl : x1 = Value.ref b := rx
  obtain ⟨z, hd, xs, rel, dd⟩ := dt_of J2.hok e
  cases rel
  refine ⟨[(k, b, v1)], ⟨rfl, rfl, key_of J2.hok eb, trivial⟩, dd, fun h' tk' dk hs => wpAny_pure ⟨.ref s.heap.objs.size, _, ?_, rfl, q2⟩⟩
  obtain ⟨o, es, ep, hq, g2, g3, g4, _, g5⟩ := dk
  refine d_write J2 (by rw [e]; exact True.intro) hs ⟨o, hq⟩ ⟨by show 1 ≤ sizeLine; decide, hd, [(k, b, v1)], .cons ⟨rfl, ?_, rv⟩ .nil, o, es, ep, hq, g2, g3, g4, g5⟩
  show upd H2 _ _ b = _
  rw [upd_ne (ne_of eb e (fun z => nomatch z))]
  exact eb
end Rd

set_option Elab.async false
set_option linter.all false
set_option maxRecDepth 100000
set_option maxHeartbeats 4000000
/-! a tuple times an int from 1 on -/
namespace L2
open PySem PySem.Spec PyProof.Rows
theorem tuple_mul1 (l : Addr) (items : Array Value) (n : Nat) (sl : Array (Option Value)) (dd : Option Addr) (u : Tok) :
    Meets (Builtin.«tuple.__mul__» ⟨[.ref l, .int 1 u], []⟩) (fun _ R s => s.heap.get? l = some { cls := .type "tuple", dict := dd, data := .seq items n, slots := sl } ∧ R (.ok (.ret (Value.ref l))) s) :=
  .of_wp fun prog w A R s h => by
    obtain ⟨hp, g, d, tk, os⟩ := s
    obtain ⟨hl, h⟩ := h
    have f1 := AutoSeq1.idx_int
    have c1 : (items.isEmpty || (1 : Int) == 1) = true := by simp
    wp_walk using wpAny_loadPart' hl
    repeat (first
      | (refine wpAny_ite_false (decide_eq_false (by decide)) ?_; wp_walk using wpAny_loadPart' hl)
      | (refine wpAny_ite_true (decide_eq_true (by rw [c1])) ?_; wp_walk using wpAny_loadPart' hl))
    exact ⟨_, rfl, h⟩
def rRep1 (K : PySem.W.Frag) : R2 := fun x y H Q => ∃ l xs, x = .ref l ∧ y = .int 1 ∧ SqT K H l xs ∧ Q (.ref l) H
theorem op_rep1 {X : Cx} : OpR X (binaryOp .Mult) (rRep1 X.K) := by
  intro pins s σ H x y v u Q I rx ry h
  obtain ⟨l, xs, rfl, rfl, hT, q⟩ := h
  cases rx
  obtain ⟨t, rfl⟩ := ry
  obtain ⟨its, r, ⟨⟨cls, dd, data, sl⟩, ho, hc, n, hd⟩, hs⟩ := I.tuple hT
  simp only at hc hd
  subst hc hd
  refine wpAny_binaryOp_repeat_ref (T := "tuple") (U := "int") (by decide) ⟨_, ho, rfl⟩ (fun s' => typeIs_int s' 1 t) noFill_tuple_mul F.fills_int_mul F.slot_int_rmul repeat_tuple F.slot_int_index.lookup
    (call_meets F.slot_int_rmul (typeIs_int s 1 t) F.entry_int_rmul (F.args_int_rmul_2 _ _) (int_rmul_tuple 1 t l its.toArray n dd sl)
      ⟨ho, rfl, ⟨_, ho, rfl⟩, call_meets F.slot_tuple_mul ⟨_, ho, rfl⟩ F.entry_tuple_mul (F.args_tuple_mul_2 _ _) (tuple_mul1 l its.toArray n sl dd t) ⟨ho, ?_⟩⟩)
  exact ⟨.ref l, H, I, rfl, q⟩
def rRepU (K : PySem.W.Frag) : R2 := fun x y H Q => rRepT K x y H Q ∨ rRep1 K x y H Q
theorem op_repU {X : Cx} : OpR X (binaryOp .Mult) (rRepU X.K) := OpR.or op_repT op_rep1
end L2

set_option Elab.async false
set_option linter.all false
set_option maxRecDepth 100000
set_option maxHeartbeats 4000000
/-! what is told is held as it stands; walks over a dict's items -/
namespace Rd
open PySem PySem.Spec PyProof.Rows L2 Dt
def tFrz (te : TE) : TE := fun σ H Q => te σ H fun v H1 => ∃ (d : Addr) (u : HO), v = .ref d ∧ H1 d = some u ∧ Mut (some u) ∧ ∀ od, Q v (upd H1 d (.frz od u))
theorem pe_frz {X : Cx} {e : Expr} {te : TE} (he : PE X e te) : PE X e (tFrz te) := by
  refine ⟨fun pins s σ H Q I h => ?_⟩
  refine thn (he.run pins s σ H _ I h) fun v s1 ⟨x, H1, I1, r1, d, u, ex, hd, mu, q⟩ => ?_
  obtain ⟨od, I2⟩ := I1.lock hd mu
  exact ⟨x, _, I2, r1, q od⟩
theorem for_items {d : Addr} {o : Obj} {kvs : List (Key × V)} {g : TG} {tb : TS} {D : Ends} {σ : L2.St} {H : Hp} (Pv : Nat → L2.St → Hp → Prop) (h0 : Pv 0 σ H) (hl : ∀ i σ H, i ≤ kvs.length → Pv i σ H → H d = some (.frz o (.dK kvs)))
    (hs : ∀ i k v σ H T, kvs[i]? = some (k, v) → Pv i σ H → H T = none → g (.ref T) σ (upd H T (.tup [kV k, v])) fun σ2 H2 => tb { D with nx := Pv (i + 1), ct := Pv (i + 1), bk := D.nx } σ2 H2) (hd : ∀ σ H, Pv kvs.length σ H → D.nx σ H) :
    ∃ W : Nat → Nat → L2.St → Hp → Prop, (∃ m, W 0 m σ H) ∧ ∀ i m σ H, W i m σ H →
      ((Iti d o kvs).stop i H ∧ D.nx σ H) ∨ ((Iti d o kvs).go i H ∧ ∃ N : L2.St → Hp → Prop, (∀ σ' H', N σ' H' → ∃ m', m' < m ∧ W (i + 1) m' σ' H') ∧ ∀ x H', (Iti d o kvs).yld i H x H' → g x σ H' fun σ2 H2 => tb { D with nx := N, ct := N, bk := D.nx } σ2 H2) := by
  refine ⟨fun i m σ H => m = kvs.length - i ∧ i ≤ kvs.length ∧ Pv i σ H, ⟨kvs.length, by simp, Nat.zero_le _, h0⟩, ?_⟩
  rintro i m σ H ⟨rfl, hi, p⟩
  have q := hl i σ H hi p
  by_cases hlt : i < kvs.length
  · refine .inr ⟨⟨q, hlt⟩, Pv (i + 1), fun σ' H' p' => ⟨kvs.length - (i + 1), by omega, rfl, hlt, p'⟩, fun x H' y => ?_⟩
    obtain ⟨T, k, v, e, rfl, nT, rfl⟩ := y
    exact hs i k v σ H T e p nT
  · have e : i = kvs.length := by omega
    subst e
    exact .inl ⟨⟨q, Nat.le_refl _⟩, hd σ H p⟩
end Rd

set_option Elab.async false
set_option linter.all false
set_option maxRecDepth 100000
set_option maxHeartbeats 4000000
/-! tuple.index of whole numbers; sorted of a tuple of tuples -/
namespace Rd
open PySem PySem.Spec PyProof.Rows L2 Dt
def rIdxT (K : PySem.W.Frag) : V → List V → Hp → VK → Prop := fun x xs H Q => ∃ (a : Addr) (ns : List Int) (k : Int), x = .ref a ∧ xs = [.int k] ∧ SqT K H a (ns.map V.int) ∧ k ∈ ns ∧ Q (.int (ns.idxOf k : Nat)) H
theorem mt_indexT {X : Cx} : MtR X "tuple.index" (rIdxT X.K) := by
  intro pins s σ H x xs v us Q I rx rxs h
  obtain ⟨a, ns, k, rfl, rfl, hs, hk, q⟩ := h
  cases rx
  obtain ⟨u, rfl, ru⟩ := rxs.one
  obtain ⟨t, rfl⟩ := ru
  obtain ⟨its, rv, ht, hz⟩ := I.tuple hs
  exact PySem.SeqAt.tuple_index_ints ht rv.ints hk ⟨.int (ns.idxOf k : Nat), H, I.tok _, ⟨_, rfl⟩, q⟩
section
variable {prog : Program} {w : World} {A : Around} {E : Value → Shared → Prop} {s : Shared}
theorem coll_tup {l : Addr} {vs : List Value} {Q : List Value → Shared → Prop} (hz : vs.length ≤ sizeLine) (hl : s.heap.IsTuple l vs.toArray) (h : Q vs { s with heap := (s.heap.push (seqObj "list" #[] 0)).update s.heap.objs.size (Obj.mapSeq (· ++ vs.toArray)) }) : wpAny (model prog w) A (collect (.ref l)) Q E s := by
  obtain ⟨o, he, hc, n, hd⟩ := id hl; unfold collect; refine wpAny_bind (wpAny_runValue (codeAny_builtin entry_proto_collect' ?_)); show wpAny _ _ (do again (.builtin "list.__iadd__" ⟨[← newList [], .ref l], []⟩)) _ _ s; refine wpAny_bind (wpAny_newList (wpAny_pure ⟨Code.quiet_builtin _ (by decide +kernel), codeAny_builtin entry_list_iadd' ?_⟩)); show wpAny _ _ (Builtin.List.listExtendWith (.ref s.heap.objs.size) (.ref l) (.ref s.heap.objs.size)) _ _ { s with heap := s.heap.push (seqObj "list" #[] 0) }; unfold Builtin.List.listExtendWith; have he2 : (s.heap.push (seqObj "list" #[] 0)).get? l = some o := Heap.get?_push_of_some _ he; refine wpAny_bind (wpAny_typeOf (T := "tuple") ⟨o, he2, hc⟩ ?_); have hy : (Value.type "tuple" == Value.type "tuple") = true := (by rfl); rw [if_pos (by rw [hy]; simp)]; refine wpAny_bind (listItems_at he2 hd ?_); refine wpAny_bind (listItems_at (xs := #[]) (n := 0) (Heap.get?_push_size _ rfl) rfl ?_); rw [if_neg (by simp)]; refine wpAny_bind (listUpdate_at (xs := #[]) (n := 0) (Heap.get?_push_size _ rfl) rfl ?_ (Nat.zero_le _) (by show (#[] ++ vs.toArray).size ≤ sizeLine + 1; simp only [Array.size_append, List.size_toArray, List.length_nil]; omega)); refine wpAny_pure ?_; show wpAny (model prog w) A (load s.heap.objs.size >>= fun ob => match ob.data with | .seq ys _ => pure ys.toList | _ => unsupported "internal:collect") Q E { s with heap := (s.heap.push (seqObj "list" #[] 0)).update s.heap.objs.size (Obj.mapSeq (· ++ vs.toArray)) }; refine wpAny_bind (wpAny_load (get?_update_seq (Heap.get?_push_size _ rfl) _) ?_); show wpAny _ _ (pure ((#[] : Array Value) ++ vs.toArray).toList) Q E _; rw [show ((#[] : Array Value) ++ vs.toArray).toList = vs by simp]; exact wpAny_pure h
theorem sorted_tup {l : Addr} {vs : List Value} {ltv : Value → Value → Bool} {Q : Value → Shared → Prop} (O : SrtO.Swo ltv) (hl : s.heap.IsTuple l vs.toArray) (hz : vs.length ≤ sizeLine)
    (hS : 2 ≤ vs.length → ∀ (h₁ : Heap) (a : Addr), h₁.get? a = some (seqObj "list" vs.toArray 0) → (∀ b o, s.heap.get? b = some o → b ≠ a ∧ h₁.get? b = some o) → SrtO.SortableO prog w A.in1.in1 { s with heap := h₁ } a vs ltv)
    (h : ∀ out : List Value, SrtO.Srtd ltv out → SrtO.Stb ltv out vs → Q (.ref (s.heap.objs.size + 1)) { s with heap := sortedAll s.heap vs out.toArray }) : wpAny (model prog w) A (call (.builtin "sorted") [.ref l]) Q E s := by
  refine Calls.call_function_entry kind_sorted plain_sorted entry_sorted (args_sorted1 _) ?_; unfold Builtin.«sorted»; refine wpAny_bind (m := checkCount "sorted" 1 1 _) (wpAny_pure ?_); refine wpAny_bind (coll_tup hz hl (wpAny_bind (wpAny_newList ?_ hz))); have e1 : ((s.heap.push (seqObj "list" #[] 0)).update s.heap.objs.size (Obj.mapSeq (· ++ vs.toArray))).objs.size = s.heap.objs.size + 1 := (by rw [Heap.size_update, size_push']); have e2 : (((s.heap.push (seqObj "list" #[] 0)).update s.heap.objs.size (Obj.mapSeq (· ++ vs.toArray))).push (seqObj "list" vs.toArray 0)).get? (s.heap.objs.size + 1) = some (seqObj "list" vs.toArray 0) := (by rw [← e1]; exact Heap.get?_push_size _ rfl)
  have kp : ∀ b o, s.heap.get? b = some o → b ≠ s.heap.objs.size + 1 ∧ (((s.heap.push (seqObj "list" #[] 0)).update s.heap.objs.size (Obj.mapSeq (· ++ vs.toArray))).push (seqObj "list" vs.toArray 0)).get? b = some o := fun b o q => by
    have lt : b < s.heap.objs.size := Heap.lt_size q
    refine ⟨Nat.ne_of_lt (Nat.lt_succ_of_lt lt), Heap.get?_push_of_some _ ?_⟩
    rw [Heap.get?_update_ne _ _ _ _ (Nat.ne_of_lt lt)]
    exact Heap.get?_push_of_some _ q
  show wpAny _ _ _ _ _ { s with heap := ((s.heap.push (seqObj "list" #[] 0)).update s.heap.objs.size (Obj.mapSeq (· ++ vs.toArray))).push (seqObj "list" vs.toArray 0) }; rw [e1]; refine wpAny_bind (wpAny_holding (wpAny_call_entry slot_list_sort ⟨_, e2, rfl⟩ entry_list_sort (SrtO.list_sort_ord O e2 hz (fun h2 => hS h2 _ _ e2 kp) fun out hs hb => ⟨_, rfl, ?_⟩) (args_list_sort _))); exact wpAny_pure ⟨_, rfl, h out hs hb⟩
end
def rSortedU (K : PySem.W.Frag) : List V → Hp → VK → Prop := fun vs H Q => ∃ (a : Addr) (ts : List Addr) (k : Addr → List Int) (d : Nat) (B : Int), vs = [.ref a] ∧ SqT K H a (ts.map V.ref) ∧ 1 ≤ d ∧ (∀ t ∈ ts, H t = some (.tup ((k t).map V.int)) ∧ (k t).length = d ∧ TS.Bd B (k t)) ∧
  ∀ (ts' : List Addr) (p : Addr), ts'.Perm ts → H p = none → Q (.ref p) (upd H p (.lst (ts'.map V.ref)))
theorem cr_sortedU {X : Cx} : CallR X (.builtin "sorted") (rSortedU X.K) := by
  intro pins s σ H vs us Q I r h
  obtain ⟨a, ts, k, d, B, rfl, hs, hd, ht, q⟩ := h
  obtain ⟨its, rv, hl, hz⟩ := I.tuple hs
  obtain ⟨u, rfl, ru⟩ := vals1 r
  cases (show u = Value.ref a from ru)
  obtain rfl := Tt.vals_refs rv
  have tup : ∀ t ∈ ts, TS.TupInts s.heap (.ref t) (k t) := fun t hm => by
    obtain ⟨_, its, rr, hT⟩ := I.hok t _ (ht t hm).1
    exact ⟨t, its.toArray, rfl, hT, by simpa using rr.ints⟩
  have ok : TS.TupsOk s.heap d B (ts.map Value.ref) := fun v hv => by
    obtain ⟨t, hm, rfl⟩ := List.mem_map.mp hv
    exact ⟨k t, tup t hm, (ht t hm).2.1, (ht t hm).2.2⟩
  have rk_at : ∀ v ∈ ts.map Value.ref, ∀ ns, TS.TupInts s.heap v ns → Tt.rk s.heap B v = TS.code B ns := fun v _ ns t => by
    unfold Tt.rk
    rw [t.ints]
  refine sorted_tup (Tt.swo_rk (Tt.rk s.heap B)) hl (by rw [← rv.length]; exact hz) (fun h2 h₁ a' ha' kk => ?_) fun out so sb => ?_
  · have keep : ∀ b o, s.heap.get? b = some o → o.cls = .type "tuple" → h₁.get? b = some o := fun b o e _ => (kk b o e).2
    refine Tt.sortable (s := { s with heap := h₁ }) hd h2 (ok.keeps keep) (fun o e c => ?_) (Tt.rk s.heap B) fun v hv ns t => ?_
    · have e' := Option.some.inj (e.symm.trans ha')
      rw [e'] at c
      exact absurd (Value.type.inj c) (by decide)
    · obtain ⟨n0, t0, _⟩ := ok v hv
      rw [show ns = n0 from t.ints.symm.trans (t0.keeps keep).ints]
      exact rk_at v hv n0 t0
  · obtain ⟨ep, he⟩ := PyProof.Rows.sortedAll_at s.heap (ts.map Value.ref) out.toArray
    have pm := sb.perm
    obtain ⟨ts', rfl, pt⟩ : ∃ ts' : List Addr, out = ts'.map Value.ref ∧ ts'.Perm ts := by
      have back : ∀ v ∈ out, ∃ t, v = Value.ref t := fun v hv => by
        obtain ⟨t, _, e⟩ := List.mem_map.mp (pm.mem_iff.mp hv)
        exact ⟨t, e.symm⟩
      have g : ∀ l : List Value, (∀ v ∈ l, ∃ t, v = Value.ref t) → ∃ m : List Addr, l = m.map Value.ref := by
        intro l
        induction l with
        | nil => intro _; exact ⟨[], rfl⟩
        | cons v r ih =>
          intro hv
          obtain ⟨t, rfl⟩ := hv v List.mem_cons_self
          obtain ⟨m, rfl⟩ := ih fun z hz => hv z (List.mem_cons_of_mem _ hz)
          exact ⟨t :: m, rfl⟩
      obtain ⟨m, rfl⟩ := g out back
      let f : Value → Addr := fun v => match v with | .ref t => t | _ => 0
      have q2 := pm.map f
      rw [List.map_map, List.map_map] at q2
      have e1 : (f ∘ Value.ref) = id := by funext z; rfl
      rw [e1, List.map_id, List.map_id] at q2
      exact ⟨m, rfl, q2⟩
    refine ⟨.ref (s.heap.objs.size + 1), _, I.laid (t' := s.toks) (o := .lst (ts'.map V.ref)) (fun _ _ => PyProof.Rows.sortedAll_old) (Nat.le_succ _) ⟨?_, ts'.map Value.ref, ep, Tt.refs_vals ts', he⟩, rfl, q ts' _ pt (I.hok.fresh (Nat.le_succ _))⟩
    rw [List.length_map, pt.length_eq]
    rw [List.length_map] at hz
    exact hz
theorem for_enumL {K : PySem.W.Frag} {a : Addr} {xs : List V} {g : TG} {tb : TS} {D : Ends} {σ : L2.St} {H : Hp} (Pv : Nat → L2.St → Hp → Prop) (h0 : Pv 0 σ H) (hl : ∀ i σ H, i ≤ xs.length → Pv i σ H → SqL K H a xs)
    (hs : ∀ i x σ H T, xs[i]? = some x → Pv i σ H → H T = none → g (.ref T) σ (upd H T (.tup [.int (i : Nat), x])) fun σ2 H2 => tb { D with nx := Pv (i + 1), ct := Pv (i + 1), bk := D.nx } σ2 H2) (hd : ∀ σ H, Pv xs.length σ H → D.nx σ H) :
    ∃ W : Nat → Nat → L2.St → Hp → Prop, (∃ m, W 0 m σ H) ∧ ∀ i m σ H, W i m σ H →
      ((Ite K a).stop i H ∧ D.nx σ H) ∨ ((Ite K a).go i H ∧ ∃ N : L2.St → Hp → Prop, (∀ σ' H', N σ' H' → ∃ m', m' < m ∧ W (i + 1) m' σ' H') ∧ ∀ x H', (Ite K a).yld i H x H' → g x σ H' fun σ2 H2 => tb { D with nx := N, ct := N, bk := D.nx } σ2 H2) := by
  refine ⟨fun i m σ H => i + m = xs.length ∧ Pv i σ H, ⟨xs.length, by omega, h0⟩, ?_⟩
  rintro i m σ H ⟨e, p⟩
  have q := hl i σ H (by omega) p
  by_cases c : i < xs.length
  · refine .inr ⟨⟨xs, xs[i], q, List.getElem?_eq_getElem c⟩, Pv (i + 1), fun σ' H' p' => ⟨m - 1, by omega, by omega, p'⟩, fun v H' hy => ?_⟩
    obtain ⟨T, x, rfl, nT, rfl, fx⟩ := hy
    exact hs i x σ H T (fx xs q) p nT
  · have e2 : i = xs.length := by omega
    subst e2
    exact .inl ⟨⟨xs, q, Nat.le_refl _⟩, hd σ H p⟩
theorem ip_mul {X : Cx} : PIp X .Mult (fun x y H Q => ∃ i j, x = .int i ∧ y = .int j ∧ CMul i j ∧ Q (.int (i * j)) H) := by
  intro pins s σ H x y v u Q I r1 r2 h
  obtain ⟨i, j, e1, e2, hm, q⟩ := h
  subst e1; subst e2
  obtain ⟨t, rfl⟩ := r1
  obtain ⟨t', rfl⟩ := r2
  exact imul_int ⟨.int _, H, I.tok _, ⟨_, rfl⟩, q⟩ hm.ok
theorem pow_bd {n : Int} (h0 : 0 ≤ n) (h4 : n ≤ 4) {i : Nat} (hi : i ≤ 6) : 0 ≤ n ^ i ∧ n ^ i ≤ 4096 := by
  obtain ⟨m, rfl⟩ : ∃ m : Nat, n = m := ⟨n.toNat, by omega⟩
  have := pow_le_4096 (show m ≤ 4 by omega) hi
  constructor
  · exact Int.pow_nonneg h0
  · exact_mod_cast this
end Rd

set_option Elab.async false
set_option linter.all false
set_option maxRecDepth 100000
set_option maxHeartbeats 4000000
/-! fractions, weights, and what they show -/
namespace Gx
open PySem PySem.Spec PyProof.Rows L2
theorem all_enumL {K : PySem.W.Frag} {a : Addr} {xs : List V} {g : TG} {tt : TT} {te : TE} {vs : List Nat} {σ : L2.St} {d : Bool} {QT QF : Hp → Prop} {H2 : Hp} (Pv : Nat → Hp → Prop) (h0 : Pv 0 H2) (hl : ∀ i H, i ≤ xs.length → Pv i H → SqL K H a xs)
    (hs : ∀ i x H T, xs[i]? = some x → Pv i H → H T = none → g (.ref T) (wipe σ vs) (upd H T (.tup [.int (i : Nat), x])) fun σ2 H2 => wipe σ2 vs = wipe σ vs ∧ tt σ2 H2 fun b H3 => if b = true then te σ2 H3 fun y H4 => ∃ c, y = .bl c ∧ (if c = d then Pv (i + 1) H4 else QF H4) else Pv (i + 1) H3) (hd : ∀ H, Pv xs.length H → QT H) :
    ∃ W : Nat → Nat → Hp → Prop, (∃ m, W 0 m H2) ∧ Turns (Ite K a) g tt te vs σ d QT QF W := by
  refine ⟨fun i m H => m = xs.length - i ∧ i ≤ xs.length ∧ Pv i H, ⟨xs.length, by simp, Nat.zero_le _, h0⟩, ?_⟩
  rintro i m H ⟨rfl, hi, p⟩
  have q := hl i H hi p
  by_cases hlt : i < xs.length
  · refine .inr ⟨⟨xs, xs[i], q, by simp [hlt]⟩, Pv (i + 1), fun H' p' => ⟨xs.length - (i + 1), by omega, rfl, hlt, p'⟩, fun v H' hy => ?_⟩
    obtain ⟨T, x, rfl, nT, rfl, fx⟩ := hy
    exact hs i x H T (fx xs q) p nT
  · have e : i = xs.length := by omega
    subst e
    exact .inl ⟨⟨xs, q, Nat.le_refl _⟩, hd H p⟩
end Gx
namespace Rd
open PySem PySem.Spec PyProof.Rows L2 Dt
abbrev Fc := Int × Int
def gcdI (a b : Int) : Int := ((Nat.gcd a.toNat b.toNat : Nat) : Int)
def lowI (a b : Int) : Fc := (a / gcdI a b, b / gcdI a b)
theorem gcdI_step {a b : Int} (ha : 0 ≤ a) (hb : 0 < b) : gcdI b (a % b) = gcdI a b := by
  obtain ⟨m, rfl⟩ : ∃ m : Nat, a = m := ⟨a.toNat, by omega⟩
  obtain ⟨n, rfl⟩ : ∃ n : Nat, b = n := ⟨b.toNat, by omega⟩
  unfold gcdI
  rw [← Int.natCast_emod, Int.toNat_natCast, Int.toNat_natCast, Int.toNat_natCast, Nat.gcd_comm m n, Nat.gcd_rec n m, Nat.gcd_comm]
theorem gcdI_zero {a : Int} (ha : 0 ≤ a) : gcdI a 0 = a := by
  unfold gcdI
  rw [show (0 : Int).toNat = 0 from rfl, Nat.gcd_zero_right]
  omega
theorem gcdI_pos {a b : Int} (hb : 1 ≤ b) : 1 ≤ gcdI a b := by
  unfold gcdI
  have := Nat.gcd_pos_of_pos_right a.toNat (show 0 < b.toNat by omega)
  omega
theorem gcdI_le {a b : Int} (hb : 1 ≤ b) : gcdI a b ≤ b := by
  unfold gcdI
  have := Nat.le_of_dvd (show 0 < b.toNat by omega) (Nat.gcd_dvd_right a.toNat b.toNat)
  omega
theorem low_mul {a b : Int} (ha : 0 ≤ a) (hb : 1 ≤ b) : a = gcdI a b * (lowI a b).1 ∧ b = gcdI a b * (lowI a b).2 := by
  unfold lowI
  dsimp only
  have d1 : gcdI a b ∣ a := by
    have := Int.natCast_dvd_natCast.mpr (Nat.gcd_dvd_left a.toNat b.toNat)
    rw [Int.toNat_of_nonneg ha] at this
    exact this
  have d2 : gcdI a b ∣ b := by
    have := Int.natCast_dvd_natCast.mpr (Nat.gcd_dvd_right a.toNat b.toNat)
    rw [Int.toNat_of_nonneg (show 0 ≤ b by omega)] at this
    exact this
  exact ⟨(Int.mul_ediv_cancel' d1).symm, (Int.mul_ediv_cancel' d2).symm⟩
theorem pos_of_mul {g x : Int} (hg : 1 ≤ g) (h : 1 ≤ g * x) : 1 ≤ x := by
  by_cases c : 1 ≤ x
  · exact c
  · have : g * x ≤ g * 0 := Int.mul_le_mul_of_nonneg_left (by omega) (by omega)
    omega
theorem lt_of_mul {g x y : Int} (hg : 1 ≤ g) (h : g * x < g * y) : x < y := by
  by_cases c : x < y
  · exact c
  · have : g * y ≤ g * x := Int.mul_le_mul_of_nonneg_left (by omega) (by omega)
    omega
theorem le_mul {g x : Int} (hg : 1 ≤ g) (h : 0 ≤ x) : x ≤ g * x := by
  have : 1 * x ≤ g * x := Int.mul_le_mul_of_nonneg_right hg h
  omega
theorem low_ok {a b : Int} (ha : 0 ≤ a) (hb : 1 ≤ b) : 0 ≤ (lowI a b).1 ∧ 1 ≤ (lowI a b).2 ∧ (lowI a b).2 ≤ b ∧ (lowI a b).1 ≤ a := by
  have g1 := gcdI_pos (a := a) hb
  obtain ⟨e1, e2⟩ := low_mul ha hb
  have p1 : 0 ≤ (lowI a b).1 := Int.ediv_nonneg ha (by omega)
  have p2 : 1 ≤ (lowI a b).2 := pos_of_mul g1 (by omega)
  have l1 := le_mul g1 p1
  have l2 := le_mul g1 (show 0 ≤ (lowI a b).2 by omega)
  omega
theorem low_lt {a b : Int} (ha : 1 ≤ a) (h : a < b) : 1 ≤ (lowI a b).1 ∧ (lowI a b).1 < (lowI a b).2 := by
  have g1 := gcdI_pos (a := a) (show 1 ≤ b by omega)
  obtain ⟨e1, e2⟩ := low_mul (show 0 ≤ a by omega) (show 1 ≤ b by omega)
  exact ⟨pos_of_mul g1 (by omega), lt_of_mul g1 (by omega)⟩
theorem low_le {r e A B : Int} (hr : 0 ≤ r) (he : 1 ≤ e) (hA : 0 ≤ A) (hB : 1 ≤ B) : (lowI r e).1 * (lowI A B).2 ≤ (lowI A B).1 * (lowI r e).2 ↔ r * B ≤ A * e := by
  have g1 := gcdI_pos (a := r) he
  have k1 := gcdI_pos (a := A) hB
  obtain ⟨e1, e2⟩ := low_mul hr he
  obtain ⟨e3, e4⟩ := low_mul hA hB
  generalize gcdI r e = g at *
  generalize gcdI A B = k at *
  generalize (lowI r e).1 = r', (lowI r e).2 = e', (lowI A B).1 = A', (lowI A B).2 = B' at *
  subst e1 e2 e3 e4
  have gk : 0 < g * k := Int.mul_pos (by omega) (by omega)
  have x1 : g * r' * (k * B') = g * k * (r' * B') := by
    rw [Int.mul_assoc, Int.mul_assoc, Int.mul_left_comm r' k B']
  have x2 : k * A' * (g * e') = g * k * (A' * e') := by
    rw [Int.mul_assoc, Int.mul_comm g k, Int.mul_assoc, Int.mul_left_comm A' g e']
  rw [x1, x2]
  constructor
  · exact fun h => Int.mul_le_mul_of_nonneg_left h (by omega)
  · exact fun h => Int.le_of_mul_le_mul_left h gk
/-! ### weights -/
def wAt (ws : List Fc) (i : Nat) : Fc := ws.getD i (1, 2)
structure GoodW (B : Int) (ws : List Fc) : Prop where
  each : ∀ x ∈ ws, 1 ≤ x.1 ∧ x.1 < x.2 ∧ x.2 ≤ B
def IsFrs (H : Hp) (l : Addr) (ws : List Fc) : Prop := ∃ ts : List Addr, H l = some (.lst (ts.map V.ref)) ∧ Paired (IsPr H) ts ws
theorem IsFrs.mono {H H' : Hp} {l : Addr} {ws : List Fc} (h : IsFrs H l ws) (t : Tups H H') (k : ∀ xs, H l = some (.lst xs) → H' l = some (.lst xs)) : IsFrs H' l ws := let ⟨ts, h1, h2⟩ := h; ⟨ts, k _ h1, pairedMap (fun _ _ e => t _ _ e) h2⟩
theorem IsFrs.seqs {H H' : Hp} {l : Addr} {ws : List Fc} (h : IsFrs H l ws) (s : Seqs H H') : IsFrs H' l ws := h.mono s.1 fun xs e => s.2 _ _ e
def frD (x : Fc) : PyData := .tuple [.int x.1, .int x.2]
def frsD (ws : List Fc) : PyData := .list (ws.map frD)
theorem dpFrL {K : PySem.W.Frag} {H : Hp} : ∀ {ts : List Addr} {ws : List Fc}, Paired (IsPr H) ts ws → DpAll K H (ts.map V.ref) (ws.map frD)
  | _, _, .nil => .nil
  | _, _, .cons h t => .cons (.tup (.inl (.inl h)) (.cons (.int _) (.cons (.int _) .nil))) (dpFrL t)
theorem dpFrs {K : PySem.W.Frag} {H : Hp} {l : Addr} {ws : List Fc} (h : IsFrs H l ws) : Dp K H (.ref l) (frsD ws) := let ⟨ts, h1, h2⟩ := h; .lst (.inl (.inl h1)) (dpFrL h2)
theorem fine_intX {i : Int} (h0 : 0 ≤ i) (h1 : i < 10 ^ 9) : Fine (.int i) 1 34 := by
  obtain ⟨n, rfl⟩ : ∃ n : Nat, i = n := ⟨i.toNat, by omega⟩
  have hn : n < 10 ^ 9 := by omega
  have hl : n.log2 ≤ 29 := by
    by_cases e : n = 0
    · subst e; decide
    · have := (Nat.log2_lt e).mpr (show n < 2 ^ 30 by omega)
      omega
  refine ⟨rfl, by simp [PyData.depth], ?_, ?_, rfl, short_int n (by omega)⟩
  · simp only [PyData.weight]
    split
    · omega
    · have e : ((n : Int)).natAbs = n := by omega
      rw [e]
      omega
  · simp only [PyData.showable]
    have e : ((n : Int)).natAbs = n := by omega
    rw [e]
    exact decide_eq_true (by omega)
theorem fine_fr {x : Fc} (h1 : 0 ≤ x.1) (h2 : x.1 < 10 ^ 9) (h3 : 0 ≤ x.2) (h4 : x.2 < 10 ^ 9) : Fine (frD x) 2 80 :=
  (Fine.tuple (.cons (fine_intX h1 h2) (.cons (fine_intX h3 h4) (.nil _)))).mono (by omega) (by omega)
theorem fine_frs {B : Int} {ws : List Fc} (hB : B < 10 ^ 9) (g : GoodW B ws) (hl : ws.length ≤ 100) : Fine (frsD ws) 3 9000 := by
  refine (Fine.list (fineAll_map (n := 2) (w := 80) ws fun x hx => ?_)).mono (by omega) (by omega)
  have := g.each x hx
  exact fine_fr (by omega) (by omega) (by omega) (by omega)
theorem wAt_get {ws : List Fc} {i : Nat} (h : i < ws.length) : ws[i]? = some (wAt ws i) := by
  unfold wAt
  rw [List.getD_eq_getElem?_getD, List.getElem?_eq_getElem h]
  rfl
theorem wAt_ok {B : Int} {ws : List Fc} {i : Nat} (g : GoodW B ws) (h : i < ws.length) : 1 ≤ (wAt ws i).1 ∧ (wAt ws i).1 < (wAt ws i).2 ∧ (wAt ws i).2 ≤ B := g.each _ (List.mem_of_getElem? (wAt_get h))
/-! ### the room of a wish -/
def stepW (ws : List Fc) (i : Nat) (p : Fc) (z : Int) : Fc := if z = (i : Int) then p else (p.1 * ((wAt ws z.toNat).2 - (wAt ws z.toNat).1), p.2 * (wAt ws z.toNat).2)
def roomF (ws : List Fc) (i : Nat) (l : List Int) : Fc := l.foldl (stepW ws i) (wAt ws i)
theorem room_snoc (ws : List Fc) (i : Nat) (l : List Int) (z : Int) : roomF ws i (l ++ [z]) = stepW ws i (roomF ws i l) z := by
  unfold roomF
  rw [List.foldl_append]
  rfl
theorem mul_pos1 {x y : Int} (h : 1 ≤ x) (k : 1 ≤ y) : 1 ≤ x * y := by
  have := Int.mul_pos (show 0 < x by omega) (show 0 < y by omega)
  omega
theorem step_ok {B : Int} {ws : List Fc} {i : Nat} {p : Fc} {z : Int} (g : GoodW B ws) (hz : 0 ≤ z) (hz2 : z.toNat < ws.length) (h1 : 1 ≤ p.1) (h2 : 1 ≤ p.2) : 1 ≤ (stepW ws i p z).1 ∧ 1 ≤ (stepW ws i p z).2 := by
  unfold stepW
  have := wAt_ok g hz2
  split
  · exact ⟨h1, h2⟩
  · exact ⟨mul_pos1 h1 (by omega), mul_pos1 h2 (by omega)⟩
theorem room_ok {B : Int} {ws : List Fc} {i : Nat} (g : GoodW B ws) (hi : i < ws.length) (hB : 1 ≤ B) : ∀ (l : List Int), (∀ z ∈ l, 0 ≤ z ∧ z.toNat < ws.length) → ∀ p : Fc, 1 ≤ p.1 → 1 ≤ p.2 → 1 ≤ (l.foldl (stepW ws i) p).1 ∧ 1 ≤ (l.foldl (stepW ws i) p).2 ∧ (l.foldl (stepW ws i) p).2 ≤ p.2 * B ^ l.length
  | [], _, p, h1, h2 => ⟨h1, h2, by simp⟩
  | z :: r, h, p, h1, h2 => by
    have hz := h z List.mem_cons_self
    obtain ⟨s1, s2⟩ := step_ok (i := i) g hz.1 hz.2 h1 h2
    have ih := room_ok g hi hB r (fun y hy => h y (List.mem_cons_of_mem _ hy)) (stepW ws i p z) s1 s2
    rw [List.foldl_cons]
    refine ⟨ih.1, ih.2.1, Int.le_trans ih.2.2 ?_⟩
    have hw := wAt_ok g hz.2
    have e : (stepW ws i p z).2 ≤ p.2 * B := by
      unfold stepW
      split
      · have : p.2 * 1 ≤ p.2 * B := Int.mul_le_mul_of_nonneg_left hB (by omega)
        omega
      · exact Int.mul_le_mul_of_nonneg_left hw.2.2 (by omega)
    have pp : (0 : Int) ≤ B ^ r.length := Int.pow_nonneg (by omega)
    have := Int.mul_le_mul_of_nonneg_right e pp
    rw [List.length_cons, Int.pow_succ, Int.mul_comm (B ^ r.length) B, ← Int.mul_assoc]
    exact this
theorem log_big {x : Int} (h0 : 1 ≤ x) (h : x < 2 ^ 250) : x.natAbs.log2 < 9000 := by
  have hz : x.natAbs ≠ 0 := by omega
  have h2 : x.natAbs < 2 ^ 250 := by
    have e : ((x.natAbs : Nat) : Int) = x := by omega
    have : ((x.natAbs : Nat) : Int) < ((2 ^ 250 : Nat) : Int) := by rw [e]; exact_mod_cast h
    exact_mod_cast this
  have := (Nat.log2_lt hz).mpr h2
  omega
theorem room_log {ws : List Fc} {i : Nat} {l : List Int} (g : GoodW 20000 ws) (hi : i < ws.length) (hl : l.length ≤ 8) (h : ∀ z ∈ l, 0 ≤ z ∧ z.toNat < ws.length) : 1 ≤ (roomF ws i l).1 ∧ 1 ≤ (roomF ws i l).2 ∧ (roomF ws i l).2.natAbs.log2 < 9000 := by
  have hw := wAt_ok g hi
  obtain ⟨a, b, c⟩ := room_ok g hi (by decide) l h (wAt ws i) (by omega) (by omega)
  refine ⟨a, b, log_big b (Int.lt_of_le_of_lt c ?_)⟩
  have p1 : (20000 : Int) ^ l.length ≤ 20000 ^ 8 := by
    have := Nat.pow_le_pow_right (show 0 < 20000 by decide) hl
    exact_mod_cast this
  have p2 : (wAt ws i).2 * (20000 : Int) ^ l.length ≤ 20000 * 20000 ^ 8 := Int.mul_le_mul hw.2.2 p1 (Int.pow_nonneg (by decide)) (by decide)
  refine Int.lt_of_le_of_lt p2 ?_
  have : (20000 * 20000 ^ 8 : Nat) < 2 ^ 250 := by
    refine Nat.lt_of_lt_of_le (show (20000 * 20000 ^ 8 : Nat) < 2 ^ 200 by decide) (Nat.pow_le_pow_right (by decide) (by decide))
  exact_mod_cast this
/-! ### what is shown -/
def everyI (wd : WD) (hues : Int) : Int := hues ^ wd.1.length
def okW (wds : List WD) (hues : Int) (ws : List Fc) (i : Nat) : Bool := match wds[i]? with
  | some wd => decide ((wd.2.length : Int) * (roomF ws i (clsL wds wd wds.length)).2 ≤ (roomF ws i (clsL wds wd wds.length)).1 * everyI wd hues)
  | none => true
def shownB (wds : List WD) (hues : Int) (ws : List Fc) : Bool := (List.range wds.length).all (okW wds hues ws)
theorem okW_of {wds : List WD} {hues : Int} {ws : List Fc} {i : Nat} {wd : WD} (h : wds[i]? = some wd) : okW wds hues ws i = decide ((wd.2.length : Int) * (roomF ws i (clsL wds wd wds.length)).2 ≤ (roomF ws i (clsL wds wd wds.length)).1 * everyI wd hues) := by
  unfold okW
  rw [h]
theorem shown_yes {wds : List WD} {hues : Int} {ws : List Fc} (h : ∀ i, i < wds.length → okW wds hues ws i = true) : shownB wds hues ws = true := by
  unfold shownB
  rw [List.all_eq_true]
  exact fun i hi => h i (List.mem_range.mp hi)
theorem shown_no {wds : List WD} {hues : Int} {ws : List Fc} {i : Nat} (hi : i < wds.length) (h : okW wds hues ws i = false) : shownB wds hues ws = false := by
  unfold shownB
  rw [List.all_eq_false]
  exact ⟨i, List.mem_range.mpr hi, by rw [h]; decide⟩
theorem every_pos {wd : WD} {hues : Int} (h : 2 ≤ hues) : 1 ≤ everyI wd hues := by
  unfold everyI
  have : 0 < hues ^ wd.1.length := Int.pow_pos (by omega)
  omega
theorem every_le {wd : WD} {hues : Int} (h2 : 2 ≤ hues) (h4 : hues ≤ 4) (l3 : wd.1.length ≤ 3) : everyI wd hues ≤ 64 := by
  unfold everyI
  obtain ⟨n, rfl⟩ : ∃ n : Nat, hues = n := ⟨hues.toNat, by omega⟩
  have : n ^ wd.1.length ≤ 64 := Nat.le_trans (Nat.pow_le_pow_left (show n ≤ 4 by omega) _) (Nat.le_trans (Nat.pow_le_pow_right (by decide) l3) (by decide))
  exact_mod_cast this
end Rd

set_option Elab.async false
set_option linter.all false
set_option maxRecDepth 100000
set_option maxHeartbeats 4000000
/-! where a mending may lead, and how likely -/
namespace Rd
open PySem PySem.Spec PyProof.Rows L2 Dt
theorem fill_allC {hues : Nat} : ∀ (n : Nat) (f : List Int), f.length = n → (∀ h ∈ f, 0 ≤ h ∧ h < (hues : Int)) → f ∈ fillL hues n
  | 0, f, hl, _ => by
    rw [List.length_eq_zero_iff.mp hl]
    exact List.mem_singleton.mpr rfl
  | n + 1, f, hl, h => by
    have ne : f ≠ [] := fun z => by rw [z] at hl; cases hl
    have e := List.dropLast_concat_getLast ne
    refine List.mem_flatMap.mpr ⟨f.dropLast, fill_allC n _ (by rw [List.length_dropLast]; omega) fun z hz => h z (by have y : z ∈ f.dropLast ++ [f.getLast ne] := List.mem_append_left _ hz; rw [e] at y; exact y), ?_⟩
    have hb := h _ (List.getLast_mem ne)
    refine List.mem_map.mpr ⟨(f.getLast ne).toNat, List.mem_range.mpr (by omega), ?_⟩
    have e2 : (((f.getLast ne).toNat : Nat) : Int) = f.getLast ne := by omega
    rw [e2]
    exact e
/-- the filling with a row's hues at these places -/
def anewL (f ps r : List Int) : List Int := (ps.zip r).foldl (fun g x => g.set x.1.toNat x.2) f
theorem anewL_len (f ps r : List Int) : (anewL f ps r).length = f.length := by
  unfold anewL
  generalize ps.zip r = zs
  induction zs generalizing f with
  | nil => rfl
  | cons z zs ih => rw [List.foldl_cons, ih, List.length_set]
theorem anewL_mem {P : Int → Prop} {f : List Int} (hf : ∀ h ∈ f, P h) {ps r : List Int} (hr : ∀ h ∈ r, P h) : ∀ h ∈ anewL f ps r, P h := by
  unfold anewL
  have hz : ∀ z ∈ ps.zip r, P z.2 := fun z hz => hr _ (List.of_mem_zip hz).2
  generalize ps.zip r = zs at hz
  induction zs generalizing f with
  | nil => exact hf
  | cons z zs ih =>
    rw [List.foldl_cons]
    refine ih (fun h hh => ?_) fun y hy => hz y (List.mem_cons_of_mem _ hy)
    rcases List.mem_or_eq_of_mem_set hh with e | e
    · exact hf h e
    · rw [e]; exact hz z List.mem_cons_self
/-- the places of the wish of a number -/
def plcs (wds : List WD) (k : Int) : List Int := (wds.getD k.toNat ([], [])).1
/-- where the mending of the first broken wish may lead; nowhere where none is broken -/
def mendsL (hues : Nat) (wds : List WD) (f : List Int) : List (List Int) := match broL f wds wds.length with
  | [] => []
  | k :: _ => (fillL hues (plcs wds k).length).map (anewL f (plcs wds k))
theorem mendsL_nil {hues : Nat} {wds : List WD} {f : List Int} (h : broL f wds wds.length = []) : mendsL hues wds f = [] := by
  unfold mendsL
  rw [h]
theorem mendsL_cons {hues : Nat} {wds : List WD} {f : List Int} {k : Int} {r : List Int} (h : broL f wds wds.length = k :: r) : mendsL hues wds f = (fillL hues (plcs wds k).length).map (anewL f (plcs wds k)) := by
  unfold mendsL
  rw [h]
/-- where it stands one mending later -/
def thL (hues : Nat) (wds : List WD) (f : List Int) : List (List Int) := if mendsL hues wds f = [] then [f] else mendsL hues wds f
structure WdsOk (many hues : Int) (wds : List WD) : Prop where
  good : GoodR many hues wds
  nd : ∀ wd ∈ wds, wd.1.Nodup
section
variable {many hues : Int} {wds : List WD}
theorem plcs_ok (g : WdsOk many hues wds) {f : List Int} {k : Int} {r : List Int} (h : broL f wds wds.length = k :: r) : ∃ wd, wds[k.toNat]? = some wd ∧ wd ∈ wds ∧ plcs wds k = wd.1 ∧ 0 ≤ k ∧ k < wds.length := by
  obtain ⟨k0, k1⟩ := broL_mem (show k ∈ broL f wds wds.length by rw [h]; exact List.mem_cons_self)
  have kl : k.toNat < wds.length := by omega
  refine ⟨wds[k.toNat], List.getElem?_eq_getElem kl, List.getElem_mem kl, ?_, k0, k1⟩
  unfold plcs
  rw [List.getD_eq_getElem?_getD, List.getElem?_eq_getElem kl]
  rfl
/-- at most as many places as there are -/
theorem nodup_le {l : List Int} {n : Int} (hn : 0 ≤ n) (nd : l.Nodup) (h : ∀ p ∈ l, 0 ≤ p ∧ p < n) : (l.length : Int) ≤ n := by
  have sub : l ⊆ (List.range n.toNat).map fun (k : Nat) => (k : Int) := fun p hp => by
    obtain ⟨a, b⟩ := h p hp
    exact List.mem_map.mpr ⟨p.toNat, List.mem_range.mpr (by omega), by omega⟩
  have z := List.Nodup.length_le_of_subset nd sub
  rw [List.length_map, List.length_range] at z
  omega
theorem mends_mem (g : WdsOk many hues wds) {f a : List Int} (hf : f ∈ fillL hues.toNat many.toNat) (ha : a ∈ mendsL hues.toNat wds f) : a ∈ fillL hues.toNat many.toNat := by
  obtain ⟨fl, fh⟩ := fill_good hf
  have h2 := g.good.h2
  cases hb : broL f wds wds.length with
  | nil => rw [mendsL_nil hb] at ha; exact nomatch ha
  | cons k r =>
    rw [mendsL_cons hb] at ha
    obtain ⟨row, hrow, rfl⟩ := List.mem_map.mp ha
    obtain ⟨_, rh⟩ := fill_good hrow
    exact fill_allC _ _ (by rw [anewL_len, fl]) (anewL_mem (P := fun h => 0 ≤ h ∧ h < (hues.toNat : Int)) fh rh)
theorem th_mem (g : WdsOk many hues wds) {f a : List Int} (hf : f ∈ fillL hues.toNat many.toNat) (ha : a ∈ thL hues.toNat wds f) : a ∈ fillL hues.toNat many.toNat := by
  unfold thL at ha
  split at ha
  · rw [List.mem_singleton.mp ha]; exact hf
  · exact mends_mem g hf ha
/-- how many ways there are: a power of the number of hues -/
theorem th_len (g : WdsOk many hues wds) {f : List Int} : ∃ s : Nat, s ≤ 3 ∧ s ≤ many.toNat ∧ (thL hues.toNat wds f).length = hues.toNat ^ s ∧ (s = 0 → thL hues.toNat wds f = [f]) := by
  unfold thL
  split
  · exact ⟨0, by omega, by omega, rfl, fun _ => rfl⟩
  · rename_i hm
    cases hb : broL f wds wds.length with
    | nil => exact (hm (mendsL_nil hb)).elim
    | cons k r =>
      obtain ⟨wd, _, hw, ep, _⟩ := plcs_ok g hb
      have gd := g.good.each wd hw
      have m1 := g.good.m1
      refine ⟨wd.1.length, gd.three, ?_, ?_, fun z => ?_⟩
      · have := nodup_le (n := many) (by omega) (g.nd wd hw) gd.pl
        omega
      · rw [mendsL_cons hb, List.length_map, fill_len, ep]
      · have := gd.one
        omega
end
/-- what comes to g from all that stands at es, where c tells what each of so many ways gets -/
def stpC (th : List Int → List (List Int)) (c : Nat → Int) (es : List (List Int × Int)) (g : List Int) : Int := (es.map fun e => e.2 * c (th e.1).length * ((th e.1).count g : Int)).sum
def valL (es : List (List Int × Int)) (g : List Int) : Int := ((es.find? fun e => decide (e.1 = g)).map (·.2)).getD 0
theorem valL_cons {e : List Int × Int} {es : List (List Int × Int)} {g : List Int} : valL (e :: es) g = if e.1 = g then e.2 else valL es g := by
  unfold valL
  rw [List.find?_cons]
  by_cases h : e.1 = g
  · rw [if_pos h, decide_eq_true h]; rfl
  · rw [if_neg h, decide_eq_false h]
theorem valL_not {es : List (List Int × Int)} {g : List Int} (h : g ∉ es.map (·.1)) : valL es g = 0 := by
  induction es with
  | nil => rfl
  | cons e es ih =>
    rw [List.map_cons, List.mem_cons, not_or] at h
    rw [valL_cons, if_neg (fun z => h.1 z.symm)]
    exact ih h.2
/-- a sum over what stands somewhere is a sum over all -/
theorem sum_all {φ : List Int → Int} : ∀ {es : List (List Int × Int)} {Fs : List (List Int)}, (es.map (·.1)).Nodup → Fs.Nodup → (∀ e ∈ es, e.1 ∈ Fs) → (es.map fun e => e.2 * φ e.1).sum = (Fs.map fun f => valL es f * φ f).sum
  | [], Fs, _, _, _ => by
    have : (Fs.map fun f => valL [] f * φ f) = Fs.map fun _ => (0 : Int) := List.map_congr_left fun f _ => by
      show 0 * φ f = 0
      rw [Int.zero_mul]
    rw [this]
    have z : ∀ l : List (List Int), (l.map fun _ => (0 : Int)).sum = 0 := fun l => by
      induction l with
      | nil => rfl
      | cons f r ih => rw [List.map_cons, List.sum_cons, ih]; rfl
    exact (z Fs).symm
  | e :: es, Fs, nd, nf, sub => by
    rw [List.map_cons, List.nodup_cons] at nd
    have ih := sum_all (φ := φ) (es := es) nd.2 nf fun x hx => sub x (List.mem_cons_of_mem _ hx)
    rw [List.map_cons, List.sum_cons, ih]
    have key : ∀ {l : List (List Int)}, l.Nodup → e.1 ∈ l → (l.map fun f => valL (e :: es) f * φ f).sum = e.2 * φ e.1 + (l.map fun f => valL es f * φ f).sum := by
      intro l nl hm
      induction l with
      | nil => exact nomatch hm
      | cons f r ihl =>
        rw [List.nodup_cons] at nl
        rw [List.map_cons, List.sum_cons, List.map_cons, List.sum_cons]
        by_cases h : e.1 = f
        · subst h
          have same : (r.map fun f => valL (e :: es) f * φ f) = r.map fun f => valL es f * φ f := List.map_congr_left fun g hg => by
            rw [valL_cons, if_neg (fun z : e.1 = g => nl.1 (by rw [z]; exact hg))]
          rw [same, valL_cons, if_pos rfl, valL_not nd.1]
          rw [Int.zero_mul]
          omega
        · rcases List.mem_cons.mp hm with z | z
          · exact (h z).elim
          · rw [ihl nl.2 z, valL_cons, if_neg h]
            omega
    exact (key nf (sub e List.mem_cons_self)).symm
theorem stpC_snoc {th : List Int → List (List Int)} {c : Nat → Int} {es : List (List Int × Int)} {e : List Int × Int} {g : List Int} : stpC th c (es ++ [e]) g = stpC th c es g + e.2 * c (th e.1).length * ((th e.1).count g : Int) := by
  unfold stpC
  rw [List.map_append, List.sum_append]
  simp
/-- the same by a list of values -/
theorem stpC_all {th : List Int → List (List Int)} {c : Nat → Int} {es : List (List Int × Int)} {Fs : List (List Int)} {g : List Int} (nd : (es.map (·.1)).Nodup) (nf : Fs.Nodup) (sub : ∀ e ∈ es, e.1 ∈ Fs) : stpC th c es g = (Fs.map fun f => valL es f * (c (th f).length * ((th f).count g : Int))).sum := by
  rw [← sum_all nd nf sub]
  unfold stpC
  congr 1
  exact List.map_congr_left fun e _ => Int.mul_assoc _ _ _
def withP (Fs : List (List Int)) (p : List Int → Int) : List (List Int × Int) := Fs.map fun f => (f, p f)
theorem stpC_with {th : List Int → List (List Int)} {c : Nat → Int} {Fs : List (List Int)} {p : List Int → Int} {g : List Int} : stpC th c (withP Fs p) g = (Fs.map fun f => p f * (c (th f).length * ((th f).count g : Int))).sum := by
  unfold stpC withP
  rw [List.map_map]
  congr 1
  exact List.map_congr_left fun f _ => Int.mul_assoc _ _ _
theorem sum_mul {α : Type} (φ : α → Int) (k : Int) : ∀ l : List α, (l.map φ).sum * k = (l.map fun x => φ x * k).sum
  | [] => Int.zero_mul _
  | x :: r => by rw [List.map_cons, List.sum_cons, Int.add_mul, sum_mul φ k r, List.map_cons, List.sum_cons]
/-- two ways to reckon one measure: finer by N, finer by F -/
theorem step_same {th : List Int → List (List Int)} {cN cF : Nat → Int} {N F A B : Int} {Fs : List (List Int)} {es : List (List Int × Int)} {p : List Int → Int} (nd : (es.map (·.1)).Nodup) (nf : Fs.Nodup) (sub : ∀ e ∈ es, e.1 ∈ Fs) (h : ∀ f ∈ Fs, p f * A = valL es f * B) (hc : ∀ f ∈ Fs, cN (th f).length * F = cF (th f).length * N) (g : List Int) :
    stpC th cN (withP Fs p) g * (A * F) = stpC th cF es g * (B * N) := by
  rw [stpC_with, stpC_all nd nf sub, sum_mul, sum_mul]
  congr 1
  refine List.map_congr_left fun f hf => ?_
  have h1 := h f hf
  have h2 := hc f hf
  generalize ((th f).count g : Int) = z
  generalize valL es f = v at h1
  generalize cF (th f).length = x at h2
  generalize cN (th f).length = y at h2
  calc p f * (y * z) * (A * F) = (p f * A) * (y * F) * z := by simp only [Int.mul_assoc, Int.mul_comm, Int.mul_left_comm]
    _ = (v * B) * (x * N) * z := by rw [h1, h2]
    _ = v * (x * z) * (B * N) := by simp only [Int.mul_assoc, Int.mul_comm, Int.mul_left_comm]
/-- what the program has behind k mendings -/
def pN (hues : Nat) (n : Nat) (wds : List WD) : Nat → List Int → Int
  | 0, _ => 1
  | k + 1, g => stpC (thL hues wds) (fun l => ((fillL hues n).length : Int) / (l : Int)) (withP (fillL hues n) (pN hues n wds k)) g
end Rd

set_option Elab.async false
set_option linter.all false
set_option maxRecDepth 100000
set_option maxHeartbeats 4000000
/-! a dict walked, told for the first time or held already; dicts by tuples put -/
namespace Rd
open PySem PySem.Spec PyProof.Rows L2 Dt
def tFrzE (te : TE) : TE := fun σ H Q => te σ H fun v H1 => ∃ (d : Addr) (u : HO), v = .ref d ∧ H1 d = some u ∧ ((Mut (some u) ∧ ∀ od, Q v (upd H1 d (.frz od u))) ∨ Q v H1)
theorem pe_frzE {X : Cx} {e : Expr} {te : TE} (he : PE X e te) : PE X e (tFrzE te) := by
  refine ⟨fun pins s σ H Q I h => ?_⟩
  refine thn (he.run pins s σ H _ I h) fun v s1 ⟨x, H1, I1, r1, d, u, ex, hd, q⟩ => ?_
  rcases q with ⟨mu, q⟩ | q
  · obtain ⟨od, I2⟩ := I1.lock hd mu
    exact ⟨x, _, I2, r1, q od⟩
  · exact ⟨x, _, I1, r1, q⟩
theorem pi_keysE {X : Cx} {tg e : Expr} {td : TE} (he : PE X e td) : PI X tg e (iKeys (tFrzE td)) := pi_keys (pe_frzE he)
theorem hu8_of {k : Nat} {A : Around} (r : Room k A) : A.units + 8 < cLine := by have := r.un; omega
theorem mergeT_new : ∀ {more kvs : List (List Key × V)}, ((kvs ++ more).map (·.1)).Nodup → mergeT kvs more = kvs ++ more
  | [], kvs, _ => by rw [List.append_nil]; rfl
  | kv :: r, kvs, h => by
    have h1 : valV kvs kv.1 = none := by
      cases e : valV kvs kv.1 with
      | none => rfl
      | some v =>
        have m := valV_in e
        rw [List.map_append, List.map_cons] at h
        exact ((List.nodup_append.mp h).2.2 _ m _ List.mem_cons_self rfl).elim
    show mergeT (putK kvs kv.1 kv.2) r = kvs ++ kv :: r
    rw [putK_new _ h1]
    have e : kvs ++ [(kv.1, kv.2)] ++ r = kvs ++ kv :: r := by rw [List.append_assoc]; rfl
    rw [mergeT_new (by rw [e]; exact h), e]
/-- one put into a list of values by fillings -/
def putE (es : List (List Int × Int)) (a : List Int) (x : Int) : List (List Int × Int) := if es.any (fun e => decide (e.1 = a)) = true then es.map (fun e => if e.1 = a then (e.1, x) else e) else es ++ [(a, x)]
theorem valL_put {es : List (List Int × Int)} {a g : List Int} {x : Int} : valL (putE es a x) g = if g = a then x else valL es g := by
  unfold putE
  by_cases c : es.any (fun e => decide (e.1 = a)) = true
  · rw [if_pos c]
    by_cases h : g = a
    · subst h
      rw [if_pos rfl]
      induction es with
      | nil => cases c
      | cons e r ih =>
        rw [List.map_cons]
        by_cases z : e.1 = g
        · rw [if_pos z, valL_cons, if_pos z]
        · rw [if_neg z, valL_cons, if_neg z]
          refine ih ?_
          rw [List.any_cons, decide_eq_false z, Bool.false_or] at c
          exact c
    · rw [if_neg h]
      clear c
      induction es with
      | nil => rfl
      | cons e r ih =>
        rw [List.map_cons]
        by_cases z : e.1 = a
        · rw [if_pos z, valL_cons, valL_cons, ih]
          have : ¬ e.1 = g := fun q => h (q.symm.trans z)
          rw [if_neg this, if_neg this]
        · rw [if_neg z, valL_cons, valL_cons, ih]
  · rw [if_neg c]
    have n : a ∉ es.map (·.1) := fun m => by
      obtain ⟨e, he, ea⟩ := List.mem_map.mp m
      exact c (List.any_eq_true.mpr ⟨e, he, decide_eq_true ea⟩)
    clear c
    induction es with
    | nil =>
      show valL [(a, x)] g = _
      rw [valL_cons]
      by_cases h : g = a
      · rw [if_pos h.symm, if_pos h]
      · rw [if_neg (fun z => h z.symm), if_neg h]
    | cons e r ih =>
      rw [List.map_cons, List.mem_cons, not_or] at n
      rw [List.cons_append, valL_cons, valL_cons, ih n.2]
      by_cases z : e.1 = g
      · rw [if_pos z, if_pos z, if_neg (fun q => n.1 (by rw [z, q]))]
      · rw [if_neg z, if_neg z]
theorem putE_keys {es : List (List Int × Int)} {a : List Int} {x : Int} : (putE es a x).map (·.1) = if a ∈ es.map (·.1) then es.map (·.1) else es.map (·.1) ++ [a] := by
  unfold putE
  have c : es.any (fun e => decide (e.1 = a)) = true ↔ a ∈ es.map (·.1) := by
    rw [List.any_eq_true, List.mem_map]
    exact ⟨fun ⟨e, he, q⟩ => ⟨e, he, of_decide_eq_true q⟩, fun ⟨e, he, q⟩ => ⟨e, he, decide_eq_true q⟩⟩
  by_cases m : a ∈ es.map (·.1)
  · rw [if_pos (c.mpr m), if_pos m, List.map_map]
    refine List.map_congr_left fun e _ => ?_
    show (if e.1 = a then (e.1, x) else e).1 = e.1
    split <;> rfl
  · rw [if_neg (fun z => m (c.mp z)), if_neg m, List.map_append]
    rfl
theorem putE_nodup {es : List (List Int × Int)} {a : List Int} {x : Int} (nd : (es.map (·.1)).Nodup) : ((putE es a x).map (·.1)).Nodup := by
  rw [putE_keys]
  split
  · exact nd
  · rename_i h
    refine List.nodup_append.mpr ⟨nd, List.nodup_cons.mpr ⟨List.not_mem_nil, List.nodup_nil⟩, fun b hb c hc => ?_⟩
    rw [List.mem_singleton.mp hc]
    exact fun z => h (z ▸ hb)
theorem putE_sub {es : List (List Int × Int)} {a : List Int} {x : Int} {Fs : List (List Int)} (h : ∀ e ∈ es, e.1 ∈ Fs) (ha : a ∈ Fs) : ∀ e ∈ putE es a x, e.1 ∈ Fs := by
  have k : ∀ g ∈ (putE es a x).map (·.1), g ∈ Fs := fun g hg => by
    rw [putE_keys] at hg
    split at hg
    · obtain ⟨e, he, rfl⟩ := List.mem_map.mp hg
      exact h e he
    · rcases List.mem_append.mp hg with z | z
      · obtain ⟨e, he, rfl⟩ := List.mem_map.mp z
        exact h e he
      · rw [List.mem_singleton.mp z]; exact ha
  exact fun e he => k _ (List.mem_map.mpr ⟨e, he, rfl⟩)
/-- at most as many as there are fillings -/
theorem keys_le {es : List (List Int × Int)} {Fs : List (List Int)} (nd : (es.map (·.1)).Nodup) (h : ∀ e ∈ es, e.1 ∈ Fs) : es.length ≤ Fs.length := by
  have z := List.Nodup.length_le_of_subset nd (l₂ := Fs) fun g hg => by
    obtain ⟨e, he, rfl⟩ := List.mem_map.mp hg
    exact h e he
  rwa [List.length_map] at z
end Rd

set_option Elab.async false
set_option linter.all false
set_option maxRecDepth 100000
set_option maxHeartbeats 4000000
/-! one refusal's class; a def that may let it out -/
namespace Rd
open PySem PySem.Spec PyProof.Rows L2 Dt
structure Cls1 (K : PySem.W.Frag) (D : Addr) : Prop where
  x : PySem.W.excIn K D [.type "ValueError", .type "Exception", .type "BaseException", .type "object"] "ValueError.__new__" = true
  k : PySem.W.keepIn K (.ref D) = true
  b : PySem.W.subIn K (.ref D) (.type "BaseException") = some true
  t : PySem.W.typeIn K (.ref D) = some (.type "type")
  e : PySem.W.exmOne K (.ref D) (.ref D) = some true
def okC1 (K : PySem.W.Frag) (D : Addr) : Bool :=
  PySem.W.excIn K D [.type "ValueError", .type "Exception", .type "BaseException", .type "object"] "ValueError.__new__" && PySem.W.keepIn K (.ref D) &&
  (PySem.W.subIn K (.ref D) (.type "BaseException") == some true) && (PySem.W.typeIn K (.ref D) == some (.type "type")) && (PySem.W.exmOne K (.ref D) (.ref D) == some true)
theorem cls1_of {K : PySem.W.Frag} {D : Addr} (h : okC1 K D = true) : Cls1 K D := by
  unfold okC1 at h
  simp only [Bool.and_eq_true, beq_iff_eq] at h
  obtain ⟨⟨⟨⟨h1, h2⟩, h3⟩, h4⟩, h5⟩ := h
  exact ⟨h1, h2, h3, h4, h5⟩
theorem FunC.okX {P : Program} {w : World} {K : PySem.W.Frag} {mg : Str → Option Value} {base : Heap} {x qual : Str} {st : Stmt} {f : Addr} {fd : FuncData} {cdv : Value} {N ps : List Str} {k : Nat} {sp : Sp} (F : FunC K x qual st f fd cdv) (S : FnScope N ps (defScope st)) (len : ∀ vs H Q E, sp vs H Q E → vs.length = ps.length)
    (body : ∀ (A : Around) (outer : List Env) (s : Shared) (H : Hp) (vs : List V) (Q : VK) (E : XK), Room k (A.deeper (envOfC qual (defScope st) s.heap.objs.size f cdv)) → sp vs H Q E →
      ∃ t, PSs (cxOf (L2.CX P w) P w K mg base N qual (defScope st) f cdv A outer s H E) (defBody st) t ∧ t { nx := fun _ H' => Q .non H', rt := Q } (start N vs) H) : FnOk P w K mg base (L2.CX P w) (k + 1) f fd ps sp := by
  obtain ⟨oc, od, kV, doc, pm, an, ct, osl, rfl, lk, hcd⟩ := F.ex
  exact fn_of lk hcd S len fun A outer s H vs Q E hr hsp => body A outer s H vs Q E hr hsp
end Rd

set_option Elab.async false
set_option linter.all false
set_option maxRecDepth 100000
set_option maxHeartbeats 4000000
/-! sum of a tuple of whole numbers -/
namespace L2
open PySem PySem.Spec PyProof.Rows PySem.W
def rSumT (K : PySem.W.Frag) : List V → Hp → VK → Prop := fun vs H Q => ∃ (a : Addr) (ns : List Int), vs = [V.ref a] ∧ SqT K H a (ns.map V.int) ∧ Q (.int ns.sum) H
theorem cr_sumT {X : Cx} (hc : X.calm = true) : CallR X (.builtin "sum") (rSumT X.K) := by
  intro pins s σ H vs us Q I r h
  obtain ⟨a, ns, rfl, hs, q⟩ := h
  obtain ⟨its, rv, ht, _⟩ := I.tuple hs
  rw [Vals.ref1 r]
  have hi := rv.ints
  obtain ⟨xs, e⟩ := hi.allInts.items
  have hn : numsOf (intItems xs).toList = ns := by rw [← e]; exact hi.numsOf
  rw [nums_intItems] at hn
  have ht : IsTup s.heap a (intItems xs) := by rw [← e]; exact ht
  refine PySem.W.ktm_sumG (I.ok.hd hc) ht fun h' tk t' hk => ⟨.int _, H, I.kept hk, ⟨t', ?_⟩, q⟩
  rw [preSum_eq, List.take_of_length_le (by simp), hn]
end L2

set_option Elab.async false
set_option linter.all false
set_option maxRecDepth 100000
set_option maxHeartbeats 4000000
/-! sorted(d), sorted(d, key=sum) of a dict by tuples of whole numbers -/
namespace Rd
open PySem PySem.Spec PyProof.Rows L2 Dt
section
variable {prog : Program} {w : World} {A : Around} {E : Value → Shared → Prop} {s : Shared} {a kS : Addr} {vs : List Value} {kz : List Int} {keys : Array Value} {e e1 : Nat} {P : PySem.Fin → Shared → Prop}
/-- all that was there stays -/
def Kpt (g h : Heap) : Prop := ∀ b o, g.get? b = some o → h.get? b = some o
theorem Kpt.but {g h h' : Heap} {a : Addr} (k : Kpt g h) (n : g.get? a = none) (z : Heap.SameBut a h h') : Kpt g h' := fun b o q => (z.2 b (fun y => by rw [y, n] at q; cases q)).trans (k b o q)
def SkP (g : Heap) (a : Addr) (kz : List Int) (vs : List Value) (P : PySem.Fin → Shared → Prop) (s : Shared) : Prop := ∀ h' tk out c, Kpt g h' → h'.get? a = some (seqObj "list" out c) → KskOut false kz vs out.toList → P (.done (.ret .none)) { s with heap := h', toks := tk }
theorem sk_tail {g : Heap} {st : SortSt} (k : Kpt g s.heap) (hK : s.heap.get? kS = some (seqObj "list" keys e)) (hA : s.heap.get? a = some (seqObj "list" #[] e1)) (ne : kS ≠ a) (n1 : g.get? kS = none) (n2 : g.get? a = none)
    (hk : IntsAre keys.toList kz) (hl : kz.length = vs.length) (hz : vs.length ≤ sizeLine) (hp : (arrOf st).Perm (keys.zip vs.toArray)) (hs : SortedTo (arrOf st) (arrOf st).size) (hf : failedOf st = none) (h : SkP g a kz vs P s) : wpAny (model prog w) A (ksk_tail a false e1 (.ref kS) st) P E s := by
  have hz2 := hz
  rw [sizeLine_eq] at hz2
  have z1 : keys.size = vs.length := by
    have y := hk.length
    rw [Array.length_toList] at y
    omega
  have z2 : (arrOf st).size = vs.length := by rw [hp.size_eq, Array.size_zip, z1, List.size_toArray, Nat.min_self]
  have s1 := Heap.SameBut.update s.heap kS (Obj.mapSeq fun _ => (#[] : Array Value))
  have hA1 := (s1.2 a ne.symm).trans hA
  have s2 := Heap.SameBut.update (s.heap.update kS (Obj.mapSeq fun _ => (#[] : Array Value))) a (Obj.mapSeq fun _ => (arrOf st).map (·.2))
  obtain ⟨c2, hc2⟩ : ∃ c2, ((s.heap.update kS (Obj.mapSeq fun _ => (#[] : Array Value))).update a (Obj.mapSeq fun _ => (arrOf st).map (·.2))).get? a = some (seqObj "list" ((arrOf st).map (·.2)) c2) := ⟨_, get?_update_seq hA1 fun _ => (arrOf st).map (·.2)⟩
  unfold ksk_tail
  dsimp only
  refine wpAny_bind (listUpdate_at hK rfl ?_ (by rw [z1]; exact hz) (Nat.zero_le _))
  refine wpAny_bind (wpAny_letGo (wpAny_bind (seqEpoch_at hA1 rfl ?_)))
  refine wpAny_bind (listUpdate_at hA1 rfl ?_ (Nat.zero_le _) (by
    refine Nat.le_trans (show ((arrOf st).map (·.2)).size ≤ sizeLine from ?_) (by omega)
    rw [Array.size_map, z2]
    exact hz))
  rw [hf]
  simp only [bne_self_eq_false, Bool.false_eq_true, if_false]
  exact wpAny_pure (h _ _ _ c2 ((k.but n1 s1).but n2 s2) hc2 (ksk_out (b := false) hk hp hs))
theorem sk_end {g : Heap} (k : Kpt g s.heap) (hK : s.heap.get? kS = some (seqObj "list" keys e)) (hA : s.heap.get? a = some (seqObj "list" #[] e1)) (ne : kS ≠ a) (n1 : g.get? kS = none) (n2 : g.get? a = none)
    (hk : IntsAre keys.toList kz) (hl : kz.length = vs.length) (hz : vs.length ≤ sizeLine) (h : SkP g a kz vs P s) : wpAny (model prog w) A (ksk_end a false vs.toArray e1 (.ref kS) keys) P E s := by
  have hz2 := hz
  rw [sizeLine_eq] at hz2
  have z1 : keys.size = vs.length := by
    have y := hk.length
    rw [Array.length_toList] at y
    omega
  have z3 : (keys.zip vs.toArray).size = vs.length := by rw [Array.size_zip, z1, List.size_toArray, Nat.min_self]
  unfold ksk_end
  dsimp only
  simp only [Bool.false_eq_true, if_false]
  by_cases c : vs.toArray.size < 2
  · rw [if_pos c, if_pos c]
    refine wpAny_bind (wpAny_pure ?_)
    rw [StateT.run_pure]
    refine wpAny_bind (wpAny_pure ?_)
    refine sk_tail (st := SortSt.mk' general' (keys.zip vs.toArray) #[] 7 none) k hK hA ne n1 n2 hk hl hz (Array.Perm.refl _) (fun i j ij hj => ?_) rfl h
    have hj : j < (keys.zip vs.toArray).size := hj
    rw [z3] at hj
    rw [List.size_toArray] at c
    obtain rfl : i = j := by omega
    exact Int.le_refl _
  · rw [if_neg c, if_neg c]
    rw [List.size_toArray] at c
    rw [ksk_kind hk (by rw [z1]; omega)]
    refine wpAny_bind (wpAny_pure (wpAny_bind (wpAny_mono (wpS_sortRunsAny (κ := intKind) (a₀ := keys.zip vs.toArray) (st := SortSt.mk' oneType' (keys.zip vs.toArray) #[] 7 none)
      (Q := fun _ st' => (arrOf st').Perm (keys.zip vs.toArray) ∧ failedOf st' = none ∧ SortedTo (arrOf st') (keys.zip vs.toArray).size)
      intKind_oneLt (ksk_keysOfInt (ksk_intKeys hk)) ⟨Array.Perm.refl _, rfl, rfl⟩ rfl (by rw [z3]; omega) fun st' y1 y2 y3 => ⟨y1, y2, sortedTo_of_int y3⟩) ?_ fun _ _ y => y)))
    rintro ⟨⟨⟩, st'⟩ s' ⟨rfl, hp, hf, hs⟩
    exact sk_tail k hK hA ne n1 n2 hk hl hz hp (by rw [hp.size_eq]; exact hs) hf h
/-- what the key's call gives -/
def KeyG (g : Heap) (a kS : Addr) (prog : Program) (w : World) (A : Around) (f : Value) (v : Value) (n : Int) : Prop := ∀ (s : Shared) (Q : Value → Shared → Prop), Kpt g s.heap → (∀ h' tk t', (∀ b o, s.heap.get? b = some o → h'.get? b = some o) → Q (.int n t') { s with heap := h', toks := tk }) → wpAny (model prog w) A (call f [v]) Q (fun _ _ => False) s
theorem sk_rest {g : Heap} {f : Value} (k : Kpt g s.heap) (hK : s.heap.get? kS = some (seqObj "list" #[] 0)) (hA : s.heap.get? a = some (seqObj "list" #[] e1)) (ne : kS ≠ a) (n1 : g.get? kS = none) (n2 : g.get? a = none)
    (hl : kz.length = vs.length) (hz : vs.length ≤ sizeLine) (turn : ∀ (i : Nat) (v : Value) (n : Int), vs[i]? = some v → kz[i]? = some n → KeyG g a kS prog w A f v n) (h : SkP g a kz vs P s) : wpAny (model prog w) A (ksk_rest a f false vs.toArray e1 (.ref kS)) P E s := by
  have hz2 := hz
  rw [sizeLine_eq] at hz2
  unfold ksk_rest
  refine wpAny_bind (wpAny_rule ?_)
  rw [← Array.forIn_toList]
  simp only [List.toList_toArray]
  refine wpAny_bind (ksk_fold (fun i s' => ∃ h' tk kA c, s' = { s with heap := h', toks := tk } ∧ Kpt g h' ∧ h'.get? kS = some (seqObj "list" kA c) ∧ h'.get? a = some (seqObj "list" #[] e1) ∧ IntsAre kA.toList (kz.take i)) vs 0 s ⟨s.heap, s.toks, #[], 0, rfl, k, hK, hA, by simpa using IntsAre.nil⟩ ?_ ?_)
  · rintro j x s' hx ⟨h', tk, kA, c, rfl, k', hK', hA', hk⟩
    simp only [Nat.zero_add] at hk ⊢
    have hj : j < vs.length := (List.getElem?_eq_some_iff.mp hx).1
    obtain ⟨n, hn⟩ : ∃ n, kz[j]? = some n := ⟨_, List.getElem?_eq_getElem (by omega)⟩
    have z : kA.size ≤ j := by
      have y := hk.length
      rw [Array.length_toList, List.length_take] at y
      omega
    refine wpAny_bind (wpAny_attempt (wpAny_mono (turn j x n hx hn { s with heap := h', toks := tk } (fun v s2 => ∃ (h2 : Heap) (tk2 : Nat) (t2 : Tok), (∀ b o, h'.get? b = some o → h2.get? b = some o) ∧ v = Value.int n t2 ∧ s2 = { s with heap := h2, toks := tk2 }) k' fun h2 tk2 t2 kk => ⟨h2, tk2, t2, kk, rfl, rfl⟩) (fun v s2 y => ?_) fun _ _ y => y.elim))
    obtain ⟨h2, tk2, t2, kk, rfl, rfl⟩ := y
    dsimp only
    have hK2 := kk _ _ hK'
    have hA2 := kk _ _ hA'
    have s1 := Heap.SameBut.update h2 kS (Obj.mapSeq (·.push (.int n t2)))
    obtain ⟨c2, hc2⟩ : ∃ c2, (h2.update kS (Obj.mapSeq (·.push (.int n t2)))).get? kS = some (seqObj "list" (kA.push (.int n t2)) c2) := ⟨_, get?_update_seq hK2 (·.push (.int n t2))⟩
    have ek : kz.take (j + 1) = kz.take j ++ [n] := by rw [List.take_add_one, hn]; simp
    have ea : (kA.push (Value.int n t2)).toList = kA.toList ++ [Value.int n t2] := by simp
    refine wpAny_bind (listUpdate_at hK2 rfl ?_ (by omega) (Nat.le_trans (Nat.le_of_eq (Array.size_push ..)) (by omega)))
    have kf : Kpt g h2 := fun b o q => kk b o (k' b o q)
    exact wpAny_pure ⟨rfl, _, _, kA.push (.int n t2), c2, rfl, kf.but n1 s1, hc2, (s1.2 a ne.symm).trans hA2, by rw [ea, ek]; exact ksk_snoc hk⟩
  · rintro s' ⟨h', tk, kA, c, rfl, k', hK', hA', hk⟩
    rw [List.take_of_length_le (by omega)] at hk
    refine wpAny_bind (listItems_at hK' rfl ?_)
    exact sk_end (s := { s with heap := h', toks := tk }) k' hK' hA' ne n1 n2 hk hl hz fun h2 tk2 out c2 q1 q2 q3 => h h2 tk2 out c2 q1 q2 q3
theorem sk_sort {g : Heap} {f : Value} {n : Nat} (k : Kpt g s.heap) (hA : s.heap.get? a = some (seqObj "list" vs.toArray n)) (n2 : g.get? a = none) (le : g.objs.size ≤ s.heap.objs.size) (hl : kz.length = vs.length) (hz : vs.length ≤ sizeLine)
    (turn : ∀ (kS : Addr) (i : Nat) (v : Value) (n : Int), vs[i]? = some v → kz[i]? = some n → KeyG g a kS prog w A f v n) (h : SkP g a kz vs P s) : wpAny (model prog w) A (ksk_tree a f false) P E s := by
  have la : a < s.heap.objs.size := Heap.lt_size hA
  have s1 := Heap.SameBut.update s.heap a (Obj.mapSeq fun _ => (#[] : Array Value))
  obtain ⟨e1, hA1⟩ : ∃ e1, (s.heap.update a (Obj.mapSeq fun _ => (#[] : Array Value))).get? a = some (seqObj "list" #[] e1) := ⟨_, get?_update_seq hA fun _ => #[]⟩
  have k1 := k.but n2 s1
  have sz : ((s.heap.update a (Obj.mapSeq fun _ => (#[] : Array Value))).push (seqObj "tuple" vs.toArray 0)).objs.size = s.heap.objs.size + 1 := by rw [size_push', Heap.size_update]
  unfold ksk_tree
  refine wpAny_bind (listItems_at hA rfl ?_)
  refine wpAny_bind (listUpdate_at hA rfl ?_ (by rw [List.size_toArray]; exact hz) (Nat.zero_le _))
  refine wpAny_bind (seqEpoch_at hA1 rfl ?_)
  refine wpAny_bind (wpAny_newTuple ?_ (show vs.length ≤ _ by omega))
  refine wpAny_bind (wpAny_newList ?_ (Nat.zero_le _))
  refine wpAny_holding ?_
  refine sk_rest (s := { s with heap := ((s.heap.update a (Obj.mapSeq fun _ => (#[] : Array Value))).push (seqObj "tuple" vs.toArray 0)).push (seqObj "list" #[] 0) }) (kS := ((s.heap.update a (Obj.mapSeq fun _ => (#[] : Array Value))).push (seqObj "tuple" vs.toArray 0)).objs.size)
    (fun b o q => Heap.get?_push_of_some _ (Heap.get?_push_of_some _ (k1 b o q))) (Heap.get?_push_size _ rfl) (Heap.get?_push_of_some _ (Heap.get?_push_of_some _ hA1)) (by rw [sz]; exact Nat.ne_of_gt (Nat.lt_succ_of_lt la)) (Heap.get?_none_of_le (by rw [sz]; omega)) n2 hl hz (turn _) h
end
theorem perm_unmap {α β : Type} {f : α → β} {m l : List β} (h : m.Perm l) : ∀ T : List α, l = T.map f → ∃ T' : List α, T'.Perm T ∧ m = T'.map f := by
  induction h with
  | nil => exact fun T e => ⟨T, .refl _, e⟩
  | @cons x m l _ ih =>
    intro T e
    cases T with
    | nil => cases e
    | cons t r =>
      rw [List.map_cons] at e
      obtain ⟨rfl, e2⟩ := List.cons.inj e
      obtain ⟨T', p, rfl⟩ := ih r e2
      exact ⟨t :: T', p.cons t, rfl⟩
  | swap x y l =>
    intro T e
    match T, e with
    | t :: u :: r, e =>
      rw [List.map_cons, List.map_cons] at e
      obtain ⟨rfl, e2⟩ := List.cons.inj e
      obtain ⟨rfl, rfl⟩ := List.cons.inj e2
      exact ⟨u :: t :: r, .swap t u r, rfl⟩
  | trans _ _ ih1 ih2 =>
    intro T e
    obtain ⟨T1, p1, e1⟩ := ih2 T e
    obtain ⟨T2, p2, e2⟩ := ih1 T1 e1
    exact ⟨T2, p2.trans p1, e2⟩
theorem paired_zip {α β : Type} {R : α → β → Prop} : ∀ {xs : List α} {ys : List β}, Paired R xs ys → ∀ z ∈ xs.zip ys, R z.1 z.2
  | _, _, .nil => fun z h => nomatch h
  | _, _, .cons r t => fun z h => by
    rcases List.mem_cons.mp h with rfl | h
    · exact r
    · exact paired_zip t z h
theorem paired_unzip {α β : Type} {R : α → β → Prop} : ∀ {T : List (α × β)}, (∀ z ∈ T, R z.1 z.2) → Paired R (T.map (·.1)) (T.map (·.2))
  | [], _ => .nil
  | t :: r, h => .cons (h t List.mem_cons_self) (paired_unzip fun z hz => h z (List.mem_cons_of_mem _ hz))
section
variable {X : Cx}
/-- the keys in a row -/
theorem keysT_refs {H : Hp} {h : Heap} : ∀ {kvs : List (List Key × V)} {xs : List (List Key × Addr × Value)}, KT H kvs xs → Paired (fun (q : Addr) (kv : List Key × V) => H q = some (.tup (kv.1.map kV))) (xs.map fun x => x.2.1) kvs
  | _, _, .nil => .nil
  | _, _, .cons r t => .cons r.2.1 (keysT_refs (h := h) t)
theorem srt_pre {pins : List (Addr × Obj)} {σ : L2.St} {H : Hp} {s : Shared} {a : Addr} {kvs : List (List Key × V)} {kw : List (Str × Value)} {E Q : Value → Shared → Prop} (hcalm : X.calm = true) (I : Inv X pins σ H s) (hd : Rd H a (.dT kvs)) (ha : argsOk "sorted" ⟨[.ref a], kw⟩)
    (body : ∀ (h' : Heap) (tk : Nat) (qs : List Addr), Kpt s.heap h' → Paired (fun (q : Addr) (kv : List Key × V) => H q = some (.tup (kv.1.map kV))) qs kvs → kvs.length ≤ sizeLine →
      wpAny (model X.prog X.w) X.A.in1 (call (.builtin "list.sort") [.ref h'.objs.size] kw) (fun _ s' => Q (.ref h'.objs.size) s') E { s with heap := h'.push (seqObj "list" (qs.map Value.ref).toArray 0), toks := tk }) :
    wpAny (model X.prog X.w) X.A (call (.builtin "sorted") [.ref a] kw) Q E s := by
  obtain ⟨z, lo, xs, rel, dd⟩ := dt_rd I.hok hd
  obtain ⟨o, es, ep, ho, hc, hdat, he, his, hn⟩ := id dd
  have el : es.size = kvs.length := by
    have y := congrArg List.length he
    rw [List.length_map, Array.length_toList] at y
    rw [y, ← Paired.length rel]
  refine call_function_entry_kw kind_sorted plain_sorted entry_sorted ha ?_
  unfold Builtin.«sorted»
  refine wpAny_bind (m := checkCount "sorted" 1 1 _) (wpAny_pure ?_)
  refine wpAny_bind (PySem.W.kdu_collect (A := X.A.in1) (KdlSrc.rawDict (es := es) (ep := ep) lo) (I.ok.hd hcalm) ⟨o, ho, hc, hdat⟩ (by rw [el]; exact z) fun h' tk acc hk hacc => ?_)
  have ea : acc.toList = (xs.map fun x => x.2.1).map Value.ref := by
    refine List.ext_getElem? fun i => ?_
    rw [Array.getElem?_toList, List.getElem?_map, List.getElem?_map]
    cases hx : xs[i]? with
    | none =>
      have : xs.length ≤ i := List.getElem?_eq_none_iff.mp hx
      have lx : xs.length = kvs.length := (Paired.length rel).symm
      refine Array.getElem?_eq_none_iff.mpr ?_
      have := hacc.1
      omega
    | some x =>
      have lt : i < xs.length := (List.getElem?_eq_some_iff.mp hx).1
      have lx : xs.length = kvs.length := (Paired.length rel).symm
      have la : i < acc.size := by have := hacc.1; omega
      obtain ⟨hi, ev⟩ := hacc.2 i acc[i] (Array.getElem?_eq_getElem la)
      rw [Array.getElem?_eq_getElem la, ev]
      have e1 : es.toList[i]? = some (entryOfKey (tupleKind (mixKind X.prog X.w)) x) := by rw [he, List.getElem?_map, hx]; rfl
      have e2 : es[i] = entryOfKey (tupleKind (mixKind X.prog X.w)) x := by
        rw [Array.getElem?_toList, Array.getElem?_eq_getElem hi] at e1
        exact Option.some.inj e1
      rw [e2]
      rfl
  rw [ea]
  refine wpAny_bind (wpAny_newList ?_ (by rw [List.length_map, List.length_map, ← Paired.length rel]; exact z))
  exact wpAny_bind (wpAny_holding (wpAny_mono (body h' tk (xs.map fun x => x.2.1) hk (keysT_refs (h := h') rel) z) (fun _ s' y => wpAny_pure ⟨_, rfl, y⟩) fun _ _ y => y))
/-- whole numbers of a key -/
def keyZ (k : List Int) : List Key := k.map Sum.inl
theorem keyZ_kV (k : List Int) : (keyZ k).map kV = k.map V.int := by
  unfold keyZ
  rw [List.map_map]
  rfl
def rSortSumT (t : TA) : TE := fun σ H Q => t σ H fun vs H1 => ∃ (a : Addr) (kvs : List (List Key × V)) (ks : List (List Int)), vs = [.ref a] ∧ Rd H1 a (.dT kvs) ∧ kvs.map (·.1) = ks.map keyZ ∧
  ∀ (qs : List Addr) (gs : List (List Int)) (p : Addr), Paired (fun q g => H1 q = some (.tup (g.map V.int))) qs gs → gs.Perm ks → gs.Pairwise (fun x y => x.sum ≤ y.sum) → H1 p = none → Q (.ref p) (upd H1 p (.lst (qs.map V.ref)))
theorem pairedZ {H : Hp} : ∀ {qs : List Addr} {kvs : List (List Key × V)} {ks : List (List Int)}, Paired (fun (q : Addr) (kv : List Key × V) => H q = some (.tup (kv.1.map kV))) qs kvs → kvs.map (·.1) = ks.map keyZ → Paired (fun q g => H q = some (.tup (g.map V.int))) qs ks
  | _, _, [], .nil, _ => .nil
  | _, _, _ :: _, .nil, e => by cases e
  | _, _, [], .cons _ _, e => by cases e
  | _, _, k :: ks, .cons r t, e => by
    rw [List.map_cons, List.map_cons] at e
    obtain ⟨e1, e2⟩ := List.cons.inj e
    refine .cons ?_ (pairedZ t e2)
    rw [r, e1, keyZ_kV]
theorem sorted_sum {pins : List (Addr × Obj)} {σ : L2.St} {H : Hp} {s : Shared} {a : Addr} {kvs : List (List Key × V)} {ks : List (List Int)} {Q : VK} (hcalm : X.calm = true) (I : Inv X pins σ H s) (hd : Rd H a (.dT kvs)) (hks : kvs.map (·.1) = ks.map keyZ)
    (q : ∀ (qs : List Addr) (gs : List (List Int)) (p : Addr), Paired (fun q g => H q = some (.tup (g.map V.int))) qs gs → gs.Perm ks → gs.Pairwise (fun x y => x.sum ≤ y.sum) → H p = none → Q (.ref p) (upd H p (.lst (qs.map V.ref)))) :
    wpAny (model X.prog X.w) X.A (call (.builtin "sorted") [.ref a] [(Str.ofString "key", .builtin "sum")]) (EP X pins σ Q) X.xe s := by
  refine srt_pre hcalm I hd (ksk_s1 _ _) fun h' tk qs hk pq hz => ?_
  have pz := pairedZ pq hks
  have I1 : Inv X pins σ H { s with heap := h', toks := tk } := I.kept hk
  have ql := Paired.length pq
  have kl : kvs.length = ks.length := by
    have y := congrArg List.length hks
    rwa [List.length_map, List.length_map] at y
  have hoL : (h'.push (seqObj "list" (qs.map Value.ref).toArray 0)).get? h'.objs.size = some (seqObj "list" (qs.map Value.ref).toArray 0) := Heap.get?_push_size _ rfl
  refine wpAny_call_entry_kw slot_list_sort ⟨_, hoL, rfl⟩ entry_list_sort ?_ (ksk_l1 _ _)
  rw [ksk_t4]
  have fr := I1.hok.fresh (Nat.le_refl h'.objs.size)
  refine sk_sort (g := h') (kz := ks.map List.sum) (s := { s with heap := h'.push (seqObj "list" (qs.map Value.ref).toArray 0), toks := tk }) (fun b o y => Heap.get?_push_of_some _ y) hoL (Heap.get?_none_of_le (Nat.le_refl _)) (by rw [size_push']; omega) (by rw [List.length_map, List.length_map]; omega) (by rw [List.length_map]; omega) (fun kS i v n ev en s2 Q2 k2 q2 => ?_) fun h2 tk2 out c k2 hc ko => ?_
  · rw [List.getElem?_map] at ev en
    obtain ⟨b, eb, rfl⟩ := Option.map_eq_some_iff.mp ev
    obtain ⟨g, eg, rfl⟩ := Option.map_eq_some_iff.mp en
    obtain ⟨g', eg', hb⟩ := pairedGetL pz eb
    rw [eg] at eg'
    cases eg'
    have hb : H b = some (.tup (g.map V.int)) := hb
    obtain ⟨_, its, rv, o, hg, hc, m, hdat⟩ := I1.hok b _ hb
    obtain ⟨xs, ex⟩ := rv.ints.allInts.items
    have hn : numsOf (intItems xs).toList = g := by rw [← ex]; exact rv.ints.numsOf
    rw [nums_intItems] at hn
    refine PySem.W.ktm_sumG (xs := xs) (I.ok.hd hcalm) ⟨o, k2 _ _ hg, hc, m, by rw [← ex]; exact hdat⟩ fun h3 tk3 t3 k3 => ?_
    rw [preSum_eq, List.take_of_length_le (by simp), hn]
    exact q2 h3 tk3 t3 k3
  · obtain ⟨ps, pp, eo, so⟩ := ko
    have zl : qs.length = ks.length := by omega
    have e0 : (ks.map List.sum).zip (qs.map Value.ref) = (qs.zip ks).map fun z => (z.2.sum, Value.ref z.1) := by
      clear pp eo so ps hc k2 h2 c tk2 fr hoL ql kl I1 q pq hks hd
      revert ks
      induction qs with
      | nil => intro ks _ e; cases ks with
        | nil => rfl
        | cons k r => cases e
      | cons b r ih =>
        intro ks pz e
        cases ks with
        | nil => cases e
        | cons k m =>
          cases pz with
          | cons r1 t1 =>
            show (k.sum, Value.ref b) :: (m.map List.sum).zip (r.map Value.ref) = _
            rw [ih t1 (by rw [List.length_cons, List.length_cons] at e; omega)]
            rfl
    obtain ⟨T, pT, rfl⟩ := perm_unmap pp _ e0
    have pr := paired_unzip (R := fun (q : Addr) (g : List Int) => H q = some (.tup (g.map V.int))) fun z hz => paired_zip pz z (pT.mem_iff.mp hz)
    have p2 : (T.map (·.2)).Perm ks := by
      have y := pT.map (·.2)
      rwa [List.map_snd_zip (by omega)] at y
    have eo2 : out.toList = (T.map (·.1)).map Value.ref := by rw [eo, List.map_map, List.map_map]; rfl
    refine ⟨.none, rfl, .ref h'.objs.size, upd H h'.objs.size (.lst ((T.map (·.1)).map V.ref)), ?_, rfl, q _ _ _ pr p2 ?_ fr⟩
    · have I2 := I1.laid (a := h'.objs.size) (o := .lst ((T.map (·.1)).map V.ref)) (h' := h2) (t' := tk2) k2 (Nat.le_refl _) ⟨?_, (T.map (·.1)).map Value.ref, c, Tt.refs_vals _, by rw [← eo2, Array.toArray_toList]; exact hc⟩
      · exact I2
      · have y := pT.length_eq
        rw [List.length_zip] at y
        rw [List.length_map, List.length_map]
        omega
    · rw [List.pairwise_map]
      rw [List.pairwise_map] at so
      exact so
theorem boot_sorted : bootBuiltins (Str.ofString "sorted") = some (.builtin "sorted") := by kernel_rfl
theorem boot_sum : bootBuiltins (Str.ofString "sum") = some (.builtin "sum") := by kernel_rfl
theorem pe_sortedSum {p pos kpos p2 : Pos} {e : Expr} {ta : TA} (hc : X.calm = true) (hg : Gl X "sorted") (hm : X.mg "sorted" = none) (hgs : Gl X "sum") (hms : X.mg "sum" = none) (ha : PA X [e] ta)
    (he : backTo pos (starEach [e] X.env) = (false, eval e X.env) :: backTo pos (starEach [] X.env) := by rfl) (hpl : (backTo pos (starEach [e] X.env)).any (·.1) = false := by rfl)
    (hall : (backToKw pos (keywordEach [⟨some (Str.ofString "key"), .Name "sum" p2, kpos⟩] X.env)).all (·.1.isSome) = true := by rfl) (hnone : (backToKw pos (keywordEach [⟨some (Str.ofString "key"), .Name "sum" p2, kpos⟩] X.env)).any (·.1.isNone) = false := by rfl) (hks : (backToKw pos (keywordEach [⟨some (Str.ofString "key"), .Name "sum" p2, kpos⟩] X.env)).filterMap (·.1) = [Str.ofString "key"] := by rfl) :
    PE X (.Call (.Name "sorted" p) [e] [⟨some (Str.ofString "key"), .Name "sum" p2, kpos⟩] pos) (rSortSumT ta) := by
  refine ⟨fun pins s σ H Q I h => ?_⟩
  refine wpAny_Call_Name_kw (ld_blt I hg hm boot_sorted ?_)
  refine PyProof.Rows.callWith_kw (thn (ha.run pos pins s σ H _ I h) fun us s1 ⟨vs, H1, I1, r1, q1⟩ => ?_) he hpl hall hnone
  obtain ⟨a, kvs, ks, rfl, hd, hks2, q⟩ := q1
  obtain rfl := Vals.ref1 r1
  rw [hks]
  show wpAny _ _ (evalAll [do let v ← eval (.Name "sum" p2) X.env; standAt pos; pure v]) _ _ s1
  refine wpAny_evalAll_cons (wpAny_bind (ld_blt I1 hgs hms boot_sum (wpAny_bind (wpAny_standAt (wpAny_pure (wpAny_evalAll_nil ?_))))))
  exact sorted_sum hc I1 hd hks2 q
end
end Rd

set_option Elab.async false
set_option linter.all false
set_option maxRecDepth 100000
set_option maxHeartbeats 4000000
/-! of dicts by tuples: d.pop(k), sorted(d), d or e -/
namespace PySem
open PyProof.Rows
section
variable {prog : Program} {w : World} {K : Type} [DecidableEq K] {knd : HeapKind prog w K} {A : Around} {E : Value → Shared → Prop} {s : Shared}
theorem truthy_dH {d : Addr} {xs : List (K × Addr × Value)} {Q : Bool → Shared → Prop} (hd : (d == sysModules) = false) (hm : s.heap.DictOfH knd d xs) (hz : (xs.length : Int) < 2 ^ 63) (h : Q (!xs.isEmpty) { s with toks := s.toks + 1 + 1 }) : wpAny (model prog w) A (truthy (.ref d)) Q E s := by
  have ne : ((xs.length : Int) != 0) = !xs.isEmpty := by cases xs <;> simp <;> omega
  have key : wpAny (model prog w) A (runValue (.builtin "len" ⟨[.ref d], []⟩)) (fun r s' => r = .int xs.length (s.toks + 1) ∧ Q (!xs.isEmpty) s') E s := by
    refine wpAny_runValue (codeAny_builtin entry_len ?_)
    rw [Around.under_plainId plain_len _]
    exact wpAny_mono (wpAny_len_body_dictH (Q := fun r s' => r = .int xs.length (s.toks + 1) ∧ Q (!xs.isEmpty) s') hd hm hz ⟨rfl, h⟩) (fun fin s' y => by obtain ⟨r, rfl, q⟩ := y; exact q) fun _ _ y => y
  unfold truthy
  first
    | refine wpAny_bind (wpAny_callSpecial?_none (name := Str.ofString "__bool__") hm.typeIs noBool_dict ?_)
    | refine wpAny_bind (wpAny_pure (wpAny_bind (wpAny_callSpecial?_none (name := Str.ofString "__bool__") hm.typeIs noBool_dict ?_)))
  first
    | refine wpAny_bind (wpAny_specialOf (name := Str.ofString "__len__") hm.typeIs F.slot_dict_len.lookup ?_)
    | refine wpAny_bind (wpAny_pure (wpAny_bind (wpAny_specialOf (name := Str.ofString "__len__") hm.typeIs F.slot_dict_len.lookup ?_)))
  first
    | exact wpAny_bind (wpAny_mono key (fun r s' y => by obtain ⟨rfl, q⟩ := y; exact wpAny_pure (ne ▸ q)) fun _ _ y => y)
    | exact wpAny_bind (wpAny_pure (wpAny_bind (wpAny_mono key (fun r s' y => by obtain ⟨rfl, q⟩ := y; exact wpAny_pure (ne ▸ q)) fun _ _ y => y)))
end
end PySem
namespace Rd
open PySem PySem.Spec PyProof.Rows L2 Dt
section
variable {X : Cx}
def rPop1T : V → List V → Hp → VK → Prop := fun x xs H Q => ∃ (a : Addr) (kvs : List (List Key × V)) (k : List Key) (b : Addr) (v : V), x = .ref a ∧ xs = [.ref b] ∧ H a = some (.dT kvs) ∧ H b = some (.tup (k.map kV)) ∧ valV kvs k = some v ∧ Q v (upd H a (.dT (dropK kvs k)))
theorem mt_pop1T (hu : X.A.units + 1 < cLine) : MtR X "dict.pop" rPop1T := by
  intro pins s σ H x xs v us Q I rx rxs h
  obtain ⟨a, kvs, k, b, v0, rfl, rfl, ha, hb, ev, q⟩ := h
  cases rx
  obtain ⟨u1, rfl, r1⟩ := vals1 rxs
  cases r1
  obtain ⟨z, hd, xs', rel, dd⟩ := dt_of I.hok ha
  have hz : xs'.length ≤ sizeLine := by rw [← Paired.length rel]; exact z
  have r := rel.val k
  obtain ⟨p, ep⟩ : ∃ p, atKey xs' k = some p := by
    cases e : atKey xs' k with
    | none => rw [ev, e] at r; exact (show False from r).elim
    | some p => exact ⟨p, rfl⟩
  rw [ev, ep] at r
  have rv : RelV v0 p.2 := r
  refine call_pop_heap (knd := tupleKind (mixKind X.prog X.w)) (more := []) (.inl rfl) (PySem.F.args_dict_pop_2 _ _) (tupleKind_room_in1 hu) (key_of I.hok hb) hd dd ep (fun h' dd' hs => ?_) hz
  obtain ⟨o, es, ep2, hq, h2, h3, h4, _, h5⟩ := dd'
  have I2 : Inv X pins σ (upd H a (.dT (dropK kvs k))) { s with heap := h', toks := s.toks + (tupleKind (mixKind X.prog X.w)).draws k } :=
    d_write I (by rw [ha]; exact True.intro) hs ⟨o, hq⟩ ⟨Nat.le_trans (dropK_le kvs k) z, hd, _, (L2.DX.KT_drop k rel).keeps (fun c ys ec => (by rw [upd_ne (ne_of ec ha (fun z => nomatch z))]; exact ec)), o, es, ep2, hq, h2, h3, h4, h5⟩
  exact ⟨v0, _, I2, rv, q⟩
/-- sorted(d), the keys lists of whole numbers -/
def rSortedTI : List V → Hp → VK → Prop := fun vs H Q => ∃ (a : Addr) (kvs : List (List Key × V)) (ks : List (List Int)), vs = [.ref a] ∧ Rd H a (.dT kvs) ∧ kvs.map (·.1) = ks.map keyZ ∧ (∀ k ∈ ks, k ≠ []) ∧
  ∀ (qs : List Addr) (gs : List (List Int)) (p : Addr), Paired (fun q g => H q = some (.tup (g.map V.int))) qs gs → gs.Perm ks → H p = none → Q (.ref p) (upd H p (.lst (qs.map V.ref)))
theorem cr_sortedTI (hcalm : X.calm = true) (hu : X.A.units + 66 < cLine) : CallR X (.builtin "sorted") rSortedTI := by
  intro pins s σ H vs us Q I r h
  obtain ⟨a, kvs, ks, rfl, hd, hks, nk, q⟩ := h
  obtain rfl := Vals.ref1 r
  refine srt_pre hcalm I hd (PyProof.Rows.args_sorted1 _) fun h' tk qs hk pq hz => ?_
  have pz := pairedZ pq hks
  have I1 : Inv X pins σ H { s with heap := h', toks := tk } := I.kept hk
  have ql := Paired.length pq
  have kl : kvs.length = ks.length := by
    have y := congrArg List.length hks
    rwa [List.length_map, List.length_map] at y
  have zl : qs.length = ks.length := by omega
  have fr := I1.hok.fresh (Nat.le_refl h'.objs.size)
  have hoL : (h'.push (seqObj "list" (qs.map Value.ref).toArray 0)).get? h'.objs.size = some (seqObj "list" (qs.map Value.ref).toArray 0) := Heap.get?_push_size _ rfl
  have e1 : PySem.W.EachIs (fun (v : Value) (b : Addr × List Int) => v = Value.ref b.1) (qs.map Value.ref) (qs.zip ks) := by
    clear hoL fr I1 ql kl hz pq hk pz q nk hks hd
    revert ks
    induction qs with
    | nil => intro ks _; exact .nil
    | cons b r ih =>
      intro ks e
      cases ks with
      | nil => cases e
      | cons k m => exact .cons rfl (ih m (by rw [List.length_cons, List.length_cons] at e; omega))
  have e2 : PySem.W.EachIs (fun (v : Value) (b : Addr × List Int) => ∃ as, Reads (h'.push (seqObj "list" (qs.map Value.ref).toArray 0)) v (PyData.tuple (b.2.map .int)) as ∧ h'.objs.size ∉ as) (qs.map Value.ref) (qs.zip ks) := by
    have g : ∀ T : List (Addr × List Int), (∀ z ∈ T, z ∈ qs.zip ks) → PySem.W.EachIs (fun (v : Value) (b : Addr × List Int) => ∃ as, Reads (h'.push (seqObj "list" (qs.map Value.ref).toArray 0)) v (PyData.tuple (b.2.map .int)) as ∧ h'.objs.size ∉ as) (T.map fun z => Value.ref z.1) T := fun T => by
      induction T with
      | nil => exact fun _ => .nil
      | cons z T ih =>
        intro hz
        have hb : H z.1 = some (.tup (z.2.map V.int)) := paired_zip pz z (hz z List.mem_cons_self)
        obtain ⟨_, its, rv, o, hg, hc, m, hdat⟩ := I1.hok z.1 _ hb
        exact .cons ⟨[], .tuple (Heap.get?_push_of_some _ hg) hc hdat (rv.ints.reads _), fun y => nomatch y⟩ (ih fun y hy => hz y (List.mem_cons_of_mem _ hy))
    have ez : (qs.zip ks).map (fun z => Value.ref z.1) = qs.map Value.ref := by
      have y := List.map_fst_zip (l₁ := qs) (l₂ := ks) (by omega)
      calc (qs.zip ks).map (fun z => Value.ref z.1) = ((qs.zip ks).map (·.1)).map Value.ref := by rw [List.map_map]; rfl
        _ = _ := by rw [y]
    have y := g _ fun _ y => y
    rw [ez] at y
    exact y
  refine PySem.W.list_sort_data (s := { s with heap := h'.push (seqObj "list" (qs.map Value.ref).toArray 0), toks := tk }) (R := fun (v : Value) (b : Addr × List Int) => v = Value.ref b.1) (enc := fun b => PyData.tuple (b.2.map .int)) (bs := qs.zip ks) hoL e1 e2 ?_ ?_ (by rw [List.length_zip]; omega) (fun b hb => ?_) fun out ol eo => ?_
  · exact PySem.W.AllAlike.of fun b b' => PySem.W.alike_ints _ _
  · refine .inl fun d hd => ?_
    obtain ⟨b, hb, rfl⟩ := List.mem_map.mp hd
    have nb := nk b.2 (List.of_mem_zip hb).2
    cases eb : b.2 with
    | nil => exact absurd eb nb
    | cons k m => exact ⟨.int k, m.map .int, rfl⟩
  · show X.A.units + 1 + 1 + PyData.depth (.tuple (b.2.map .int)) < cLine
    have : PyData.depth (.tuple (b.2.map .int)) ≤ 1 := by
      show PyData.depthAll (b.2.map .int) + 1 ≤ 1
      rw [PySem.W.depth_ints]
      exact Nat.le_refl _
    omega
  · have pt := List.mergeSort_perm (qs.zip ks) (PySem.W.dataLe false fun (b : Addr × List Int) => PyData.tuple (b.2.map .int))
    generalize (qs.zip ks).mergeSort (PySem.W.dataLe false fun (b : Addr × List Int) => PyData.tuple (b.2.map .int)) = T at pt eo
    have eo2 : out = (T.map (·.1)).map Value.ref := by
      clear pt ol
      induction eo with
      | nil => rfl
      | cons h _ ih => rw [h, ih]; rfl
    subst eo2
    have pr := paired_unzip (R := fun (q : Addr) (g : List Int) => H q = some (.tup (g.map V.int))) fun z hz => paired_zip pz z (pt.mem_iff.mp hz)
    have p2 : (T.map (·.2)).Perm ks := by
      have y := pt.map (·.2)
      rwa [List.map_snd_zip (by omega)] at y
    obtain ⟨c, hc⟩ := PyProof.Rows.sortedHeap_at (vs := qs.map Value.ref) (out := List.toArray ((T.map (·.1)).map Value.ref)) hoL
    refine ⟨.ref h'.objs.size, upd H h'.objs.size (.lst ((T.map (·.1)).map V.ref)), ?_, rfl, q _ _ _ pr p2 fr⟩
    refine I1.laid (a := h'.objs.size) (o := .lst ((T.map (·.1)).map V.ref)) (t' := tk) (fun b u e => ?_) (Nat.le_refl _) ⟨?_, (T.map (·.1)).map Value.ref, c, Tt.refs_vals _, hc⟩
    · have lt := Heap.lt_size e
      rw [PyProof.Rows.sortedHeap_old (Nat.ne_of_lt lt) (by rw [size_push']; exact Nat.lt_succ_of_lt lt)]
      exact Heap.get?_push_of_some _ e
    · have y := pt.length_eq
      rw [List.length_zip] at y
      rw [List.length_map, List.length_map]
      omega
/-- d or e, d a dict by tuples -/
def tOrD (ta tb : TE) : TE := fun σ H Q => ta σ H fun x H1 => ∃ (a : Addr) (kvs : List (List Key × V)), x = .ref a ∧ Rd H1 a (.dT kvs) ∧ if kvs.isEmpty = true then tb σ H1 Q else Q (.ref a) H1
theorem pe_orD {a b : Expr} {rest : List Expr} {pos : Pos} {ta tb : TE} (ha : PE X a ta) (hb : PE X (.BoolOp .Or (b :: rest) pos) tb) : PE X (.BoolOp .Or (a :: b :: rest) pos) (tOrD ta tb) := by
  refine ⟨fun pins s σ H Q I h => ?_⟩
  refine BoolOp_or (thn (ha.run pins s σ H _ I h) fun v s1 ⟨x, H1, I1, r1, q1⟩ => ?_)
  obtain ⟨d, kvs, rfl, hd, q1⟩ := q1
  cases r1
  obtain ⟨z, lo, xs, rel, dd⟩ := dt_rd I1.hok hd
  have e := Paired.length rel
  refine truthy_dH lo dd (by have := line63; omega) ?_
  have ee : xs.isEmpty = kvs.isEmpty := by cases rel <;> rfl
  rw [ee]
  cases c : kvs.isEmpty with
  | true =>
    rw [c, if_pos rfl] at q1
    exact hb.run pins _ σ H1 Q (I1.tok _) q1
  | false =>
    rw [c, if_neg (by decide)] at q1
    exact ⟨.ref d, H1, I1.tok _, rfl, q1⟩
end
end Rd

set_option Elab.async false
set_option linter.all false
set_option maxRecDepth 100000
set_option maxHeartbeats 4000000
/-! dict(d) of a dict by tuples whose hashes are apart -/
namespace Rd
open PySem PySem.Spec PyProof.Rows L2 Dt
theorem call_dictDT {X : Cx} (hu : X.A.units + 8 < cLine) : CallR X (.type "dict") (fun xs H Q => ∃ (a : Addr) (kvs : List (List Key × V)), xs = [.ref a] ∧ Rd H a (.dT kvs) ∧ (kvs.map fun kv => tupleKeyHash (mixKind X.prog X.w) kv.1).Nodup ∧ ∀ p, H p = none → Q (.ref p) (upd H p (.dT kvs))) := by
  intro pins s σ H xs us Q I r q
  obtain ⟨a, kvs, ex, hd, hap, q⟩ := q
  subst ex
  obtain ⟨u, eu, rx⟩ := vals1 r
  subst eu
  cases rx
  obtain ⟨z, hS, prs, rel, dd⟩ := dt_rd I.hok hd
  have la : a < s.heap.objs.size := by
    obtain ⟨o, _, _, ho, _⟩ := id dd
    exact Heap.lt_size ho
  have all : ∀ {l : List (List Key × V)} {m : List (List Key × Addr × Value)}, KT H l m → ∀ x ∈ m, H x.2.1 = some (.tup (x.1.map kV)) := by
    intro l m t
    induction t with
    | nil => intro x hx; exact nomatch hx
    | @cons p q ps qs hq t ih =>
      intro x hx
      rcases List.mem_cons.mp hx with e | hx
      · subst e
        rw [← hq.1]; exact hq.2.1
      · exact ih x hx
  have keys : ∀ {l : List (List Key × V)} {m : List (List Key × Addr × Value)}, KT H l m → l.map (·.1) = m.map (·.1) := by
    intro l m t
    induction t with
    | nil => rfl
    | @cons p q ps qs hq t ih => rw [List.map_cons, List.map_cons, ih, hq.1]
  have dd1 : (s.heap.push { cls := .type "dict", data := .dict #[] }).DictOfH (tupleKind (mixKind X.prog X.w)) a prs := by
    obtain ⟨o, es, ep, ho, hc, hdat, he, _, hn⟩ := id dd
    refine ⟨o, es, ep, Heap.get?_push_of_some _ ho, hc, hdat, he, fun x hx => ?_, hn⟩
    obtain ⟨oo, items, nn, h1, h2, h3, h4⟩ := key_of I.hok (all rel x hx)
    exact ⟨oo, items, nn, Heap.get?_push_of_some _ h1, h2, h3, h4⟩
  refine callType_codes (Q₁ := fun obj s₁ => obj = .ref s.heap.objs.size ∧ s₁ = { s with heap := s.heap.push { cls := .type "dict", data := .dict #[] } }) F.kt_called_dict (F.kt_typeCall_dict_1 _) F.entry_dict_init (kt_code_dict_new _ ⟨rfl, rfl⟩) ?_
  rintro obj s₁ ⟨rfl, rfl⟩
  have hT : Shared.TypeIs { s with heap := s.heap.push { cls := .type "dict", data := .dict #[] } } (.ref s.heap.objs.size) "dict" := ⟨_, Heap.get?_push_size _ rfl, rfl⟩
  refine ⟨hT, F.args_dict_init_2 _ _, ?_⟩
  unfold Builtin.«dict.__init__»
  refine wpAny_bind ?_
  unfold Builtin.Dict.selfAndRest
  refine wpAny_bind (wpAny_notOrdered_dict hT ?_)
  show wpAny _ _ (pure (s.heap.objs.size, [Value.ref a])) _ _ _
  refine wpAny_pure ?_
  refine updateFrom_dictH (knd := tupleKind (mixKind X.prog X.w)) (kvs := []) .none ?_ (Nat.ne_of_gt la) hS (Heap.DictOfH.new s.heap) dd1 (.inr ⟨?_, ?_⟩) ?_ fun h' d' o' hs => ⟨rfl, ?_⟩
  · exact Nat.lt_of_le_of_lt (by show X.A.units + 1 + 1 ≤ X.A.units + 8; omega) hu
  · intro x hx
    obtain ⟨oo, items, nn, h1, h2, h3, h4⟩ := key_of I.hok (all rel x hx)
    exact ⟨oo, Heap.get?_push_of_some _ h1, h2⟩
  · have e : (prs.map fun x => (tupleKind (mixKind X.prog X.w)).hash x.1) = kvs.map fun kv => tupleKeyHash (mixKind X.prog X.w) kv.1 := by
      have k := congrArg (List.map (tupleKeyHash (mixKind X.prog X.w))) (keys rel)
      rw [List.map_map, List.map_map] at k
      exact k.symm
    rw [e]
    exact hap
  · rw [← Paired.length rel]
    show 0 + kvs.length ≤ sizeLine
    omega
  · have hn : (prs.map (·.1)).Nodup := Heap.DictOfH.nodup dd
    rw [storedAllH_nil_of_nodup _ hn] at d'
    have hm : (s.heap.objs.size == sysModules) = false := beq_eq_false_iff_ne.mpr (Nat.ne_of_gt I.big)
    have kk : ∀ b o, s.heap.get? b = some o → h'.get? b = some o := fun b o e => (hs.2 b (Nat.ne_of_lt (Heap.lt_size e))).trans (Heap.get?_push_of_some _ e)
    obtain ⟨q9, es, ep, hq9, h2, h3, h4, _, h5⟩ := d'
    have fr := I.hok.fresh (Nat.le_refl s.heap.objs.size)
    exact ⟨.ref s.heap.objs.size, upd H s.heap.objs.size (.dT kvs), I.laid (t' := s.toks) kk (Nat.le_refl _) (show ObjOk X.prog X.w _ _ _ (.dT kvs) from ⟨z, hm, prs, rel.keeps fun b ys e => (by
      rw [upd_ne (ne_of_none e fr)]
      exact e), q9, es, ep, hq9, h2, h3, h4, h5⟩), rfl, q _ fr⟩
end Rd

set_option Elab.async false
set_option linter.all false
set_option maxRecDepth 100000
set_option maxHeartbeats 4000000
/-! {(..): v, (..): u}: a dict of two pairs, their keys tuples -/
namespace Rd
open PySem PySem.Spec PyProof.Rows L2 Dt
def tDisp2T (tk tv tk2 tv2 : TE) : TE := fun σ H Q => ∀ p, H p = none → tk σ (upd H p (.dT [])) fun x H1 => tv σ H1 fun v H2 => tk2 σ H2 fun y H3 => tv2 σ H3 fun u H4 => ∃ (b c : Addr) (k j : List Key), x = .ref b ∧ y = .ref c ∧ H4 p = some (.dT []) ∧ H4 b = some (.tup (k.map kV)) ∧ H4 c = some (.tup (j.map kV)) ∧ Q (.ref p) (upd H4 p (.dT (mergeT [] [(k, v), (j, u)])))
theorem pe_disp2T {X : Cx} {pos : Pos} {ke ve ke2 ve2 : Expr} {tk tv tk2 tv2 : TE} (hu : X.A.units + 1 < cLine) (hk : PE X ke tk) (hv : PE X ve tv) (hk2 : PE X ke2 tk2) (hv2 : PE X ve2 tv2) : PE X (.Dict [some ke, some ke2] [ve, ve2] pos) (tDisp2T tk tv tk2 tv2) := by
  refine ⟨fun pins s σ H Q I q => ?_⟩
  have hn := I.hok.fresh (Nat.le_refl s.heap.objs.size)
  have I1 := I.laid (a := s.heap.objs.size) (o := .dT []) (h' := s.heap.push { cls := .type "dict", data := .dict #[] }) (t' := s.toks) (fun _ _ q => Heap.get?_push_of_some _ q) (Nat.le_refl _) (dt_empty s.heap I.big)
  have room : (tupleKind (mixKind X.prog X.w)).room X.A := Nat.lt_of_succ_lt hu
  rw [arm_eval_Dict, zip_pairTrees [some ke, some ke2] [ve, ve2] X.env pos rfl rfl, dictDisplay_pairs (pairTrees [some ke, some ke2] [ve, ve2] X.env pos) (fun z => by cases z) (by show 2 < 17; decide)]
  refine wpAny_bind (wpAny_standAt (wpAny_bind (wpAny_subDictH (knd := tupleKind (mixKind X.prog X.w)) room (by show 2 ≤ 15; decide) ?_)))
  refine pairTrees_cons_walk (thn (hk.run pins _ σ _ _ I1 (q _ hn)) fun x1 s1 ⟨x, H1, J1, rx, q1⟩ => thn (hv.run pins s1 σ H1 _ J1 q1) fun v1 s2 ⟨v, H2, J2, rv, q2⟩ => ?_)
  refine pairTrees_cons_walk (thn (hk2.run pins _ σ _ _ J2 q2) fun y1 s3 ⟨y, H3, J3, ry, q3⟩ => thn (hv2.run pins s3 σ H3 _ J3 q3) fun u1 s4 ⟨u, H4, J4, ru, b, c, k, j, ex, ey, e, eb, ec, q4⟩ => pairTrees_nil_walk ?_)
  subst ex
  subst ey
  obtain rfl : x1 = Value.ref b := rx
  obtain rfl : y1 = Value.ref c := ry
  obtain ⟨z, hd, xs, rel, dd⟩ := dt_of J4.hok e
  cases rel
  refine ⟨[(k, b, v1), (j, c, u1)], ⟨rfl, rfl, key_of J4.hok eb, rfl, rfl, key_of J4.hok ec, trivial⟩, dd, fun h' tk' dk hs => wpAny_pure ⟨.ref s.heap.objs.size, _, ?_, rfl, q4⟩⟩
  have kt : KT H4 (mergeT [] [(k, v), (j, u)]) (storedAllH [] [(k, b, v1), (j, c, u1)]) := KT.merge (.cons ⟨rfl, eb, rv⟩ (.cons ⟨rfl, ec, ru⟩ .nil)) .nil
  obtain ⟨o, es, ep, hq, g2, g3, g4, _, g5⟩ := dk
  refine d_write J4 (by rw [e]; exact True.intro) hs ⟨o, hq⟩ ⟨Nat.le_trans (length_mergeT _ _) (by show 0 + 2 ≤ sizeLine; decide), hd, _, kt.keeps (fun a ys ea => by rw [upd_ne (ne_of ea e (fun z => nomatch z))]; exact ea), o, es, ep, hq, g2, g3, g4, g5⟩
end Rd

set_option Elab.async false
set_option linter.all false
set_option maxRecDepth 100000
set_option maxHeartbeats 4000000
/-! [d, t] != [e, u] of dicts by tuples with the same entries, whole numbers, and nested lists that are alike -/
namespace PySem.SeqAt
open AutoSeq1 (wpAny_loadPart')
open MeetsSeq MeetsSeq2 MeetsSeq3
section
variable {prog : Program} {w : World}
theorem eqt_loop (l b : Addr) (xs ys : Array Value) (n n2 : Nat) (dd dd2 : Option Addr) (sl sl2 : Array (Option Value)) (hsz : xs.size = ys.size) (k : Nat) :
    ∀ i : Nat, xs.size - i = k → MeetsIn prog w (Builtin.«list.__eq__.loop» ⟨[.ref l, .ref b, rawInt i, rawInt 3], []⟩)
      (fun A R s => s.heap.get? l = some { cls := .type "list", dict := dd, data := .seq xs n, slots := sl } ∧ s.heap.get? b = some { cls := .type "list", dict := dd2, data := .seq ys n2, slots := sl2 } ∧
        (∀ j (h1 : j < xs.size) (h2 : j < ys.size), EqP prog w A.in1 s xs[j] ys[j] true) ∧ R (.ok (.ret (.bool false))) s) := by
  induction k with
  | zero =>
    intro i hk A R s h
    obtain ⟨hp, g, d, tk, os⟩ := s; obtain ⟨hl, hb, he, h⟩ := h
    wp_walk using wpAny_loadPart' hl, wpAny_loadPart' hb
    have y1 : xs[((i : Nat) : Int).toNat]? = none := by simp; omega
    have y2 : ys[((i : Nat) : Int).toNat]? = none := by simp; omega
    rw [y1, y2]
    wp_walk using wpAny_loadPart' hl, wpAny_loadPart' hb
    show R (.ok (.ret (.bool (xs.size != ys.size)))) _
    rw [hsz]
    simpa using h
  | succ k ih =>
    intro i hk A R s h
    obtain ⟨hp, g, d, tk, os⟩ := s; obtain ⟨hl, hb, he, h⟩ := h
    wp_walk using wpAny_loadPart' hl, wpAny_loadPart' hb
    have z1 : i < xs.size := by omega
    have z2 : i < ys.size := by omega
    have y1 : xs[((i : Nat) : Int).toNat]? = some xs[i] := by simp [z1]
    have y2 : ys[((i : Nat) : Int).toNat]? = some ys[i] := by simp [z2]
    have hc : ((i : Int) + 1) = ((i + 1 : Nat) : Int) := by push_cast; rfl
    rw [y1, y2]
    refine wpAny_bind (he i z1 z2 _ _ ?_)
    wp_walk
    rw [hc]
    exact ⟨plainId_quiet plain_eq_loop _, codeAny_builtin entry_eq_loop (by
      rw [Around.under_plainId plain_eq_loop _]
      exact ih (i + 1) (by omega) A R _ ⟨hl, hb, he, h⟩)⟩
theorem net_lists (l b : Addr) (xs ys : Array Value) (n n2 : Nat) (dd dd2 : Option Addr) (sl sl2 : Array (Option Value)) (hsz : xs.size = ys.size) :
    MeetsIn prog w (Builtin.«list.__ne__» ⟨[.ref l, .ref b], []⟩)
      (fun A R s => s.heap.get? l = some { cls := .type "list", dict := dd, data := .seq xs n, slots := sl } ∧ s.heap.get? b = some { cls := .type "list", dict := dd2, data := .seq ys n2, slots := sl2 } ∧
        (∀ j (h1 : j < xs.size) (h2 : j < ys.size), EqP prog w A.in1 s xs[j] ys[j] true) ∧ R (.ok (.ret (.bool false))) s) := by
  intro A R s h
  obtain ⟨hp, g, d, tk, os⟩ := s; obtain ⟨hl, hb, he, h⟩ := h
  have f3 := AutoSeq1.sub_list_list
  have hne : ¬ (xs.size != ys.size) = true := by simp [hsz]
  wp_walk using wpAny_loadPart' hl, wpAny_loadPart' hb
  exact ⟨plainId_quiet plain_eq_loop _, codeAny_builtin entry_eq_loop (by
    rw [Around.under_plainId plain_eq_loop _]
    exact eqt_loop l b xs ys n n2 dd dd2 sl sl2 hsz _ 0 rfl A R _ ⟨hl, hb, he, h⟩)⟩
theorem netr_lists {A : Around} {s : Shared} {E Q : Value → Shared → Prop} {l b : Addr} {xs ys : Array Value} (hl : s.heap.IsList l xs) (hb : s.heap.IsList b ys) (hsz : xs.size = ys.size) (hu : A.units < cLine)
    (he : ∀ j (h1 : j < xs.size) (h2 : j < ys.size), EqP prog w A.in1 s xs[j] ys[j] true) (h : Q (.bool false) s) : wpAny (model prog w) A (richCompare .NotEq (.ref l) (.ref b)) Q E s := by
  obtain ⟨⟨c1, d1, v1, s1⟩, ho, hc, n, hd⟩ := id hl
  obtain ⟨⟨c2, d2, v2, s2⟩, ho2, hc2, n2, hd2⟩ := id hb
  simp only at hc hd hc2 hd2
  subst hc hd hc2 hd2
  exact wpAny_richCompare_same_room (T := "list") (op := .NotEq) ⟨_, ho, rfl⟩ ⟨_, ho2, rfl⟩ F.slot_list_ne (call_meetsIn F.slot_list_ne ⟨_, ho, rfl⟩ F.entry_list_ne (F.args_list_ne_2 _ _) (net_lists l b xs ys n n2 d1 d2 s1 s2 hsz)
    ⟨ho, ho2, he, show Value.bool false ≠ Value.notImplemented ∧ Q (.bool false) s from ⟨(fun x => nomatch x), h⟩⟩) hu
end
end PySem.SeqAt
namespace PySem.W
open PySem PySem.Calls PyProof.Rows PyProof.V PySem.Spec
section
variable {prog : Program} {w : World} {K : Type} [DecidableEq K] {knd : HeapKind prog w K} {A : Around} {E : Value → Shared → Prop} {s : Shared}
theorem pairsT {nm : String} {a b : Addr} {xa xb : List (K × Addr × Value)} {Q : Bool → Shared → Prop} (ha : (a == sysModules) = false) (hb : (b == sysModules) = false) (da : s.heap.DictOfH knd a xa) (db : s.heap.DictOfH knd b xb) (hu : knd.room A) (hl : xa.length = xb.length)
    (hit : ∀ (i : Nat) (k : K) (p : Addr × Value), xa[i]? = some (k, p) → ∃ (j : Nat) (q : Addr × Value), xb[j]? = some (k, q) ∧ SeqAt.EqP prog w A s p.2 q.2 true) (h : Q true s) :
    wpAny (model prog w) A (Builtin.Dict.samePairs nm a b) Q E s := by
  obtain ⟨oa, es, ep, hoa, _, hda, hka, isa, nda⟩ := da
  obtain ⟨ob, es', ep', hob, _, hdb, hkb, isb, ndb⟩ := db
  have za : es.size = xa.length := size_of_entries hka
  have zb : es'.size = xb.length := size_of_entries hkb
  unfold Builtin.Dict.samePairs Builtin.Dict.showsAll
  rw [if_neg (show ¬ (a == sysModules) = true by rw [ha]; exact Bool.false_ne_true), if_neg (show ¬ (b == sysModules) = true by rw [hb]; exact Bool.false_ne_true)]
  refine wpAny_bind (wpAny_pure (wpAny_bind (wpAny_pure (wpAny_bind (wpAny_dictEntries hoa hda ?_)))))
  dsimp only
  refine wpAny_bind (wpAny_dictEntries hob hdb ?_)
  have hsz : es.size = es'.size := by omega
  rw [if_neg (by rw [hsz]; simp)]
  refine wpAny_bind (wpAny_dictEpoch hoa hda (wpAny_bind ?_))
  rw [Std.Legacy.Range.forIn_eq_forIn_range']
  simp only [Std.Legacy.Range.size, Nat.sub_zero, Nat.add_sub_cancel, Nat.div_one]
  refine wpAny_forIn_list _ (fun rest q s' => s' = s ∧ q = (none, ()) ∧ ∃ i, rest = List.range' i (es.size - i) ∧ i ≤ es.size) _ ?_ ?_ _ _ ⟨rfl, rfl, 0, by simp, Nat.zero_le _⟩
  · rintro x rest q s' ⟨rfl, rfl, i, hr, hi⟩
    have hlt : i < es.size := by
      rcases Nat.lt_or_ge i es.size with c | c
      · exact c
      · rw [Nat.sub_eq_zero_of_le c] at hr; simp at hr
    obtain ⟨rfl, hrest⟩ : x = i ∧ rest = List.range' (i + 1) (es.size - (i + 1)) := by
      have e : es.size - i = (es.size - (i + 1)) + 1 := by omega
      rw [e, List.range'_succ] at hr
      injection hr with h1 h2
      exact ⟨h1, h2⟩
    refine wpAny_bind (wpAny_dictEntries hoa hda ?_)
    rw [Array.getElem?_eq_getElem hlt]
    have xlt : x < xa.length := by omega
    obtain ⟨k, p, hkp⟩ : ∃ k p, xa[x] = (k, p) := ⟨_, _, rfl⟩
    have gx : xa[x]? = some (k, p) := by rw [List.getElem?_eq_getElem xlt, hkp]
    have ee : es[x] = entryOfKey knd (k, p) := by
      have y := entry_at hka x
      rw [gx, Array.getElem?_eq_getElem hlt] at y
      exact Option.some.inj y
    rw [ee]
    obtain ⟨j, q, gj, eq⟩ := hit x k p gx
    refine wpAny_bind (wpAny_holding (wpAny_bind ?_))
    refine wpAny_dictFind_heap hu (isa _ (List.mem_of_getElem? gx)) hob hdb hkb isb ndb (fun no => absurd gj (no j q)) fun j2 q2 gj2 => ?_
    have ej : es'[j2]? = some (entryOfKey knd (k, q2)) := by rw [entry_at hkb j2, gj2]; rfl
    refine wpAny_bind (wpAny_dictEntries hob hdb ?_)
    rw [ej]
    have eqq : q2 = q := by
      have e1 := List.mem_of_getElem? gj
      have e2 := List.mem_of_getElem? gj2
      have i1 := (List.getElem?_eq_some_iff.mp gj).1
      have i2 := (List.getElem?_eq_some_iff.mp gj2).1
      have n1 : (xb.map (·.1))[j]? = some k := by rw [List.getElem?_map, gj]; rfl
      have n2 : (xb.map (·.1))[j2]? = some k := by rw [List.getElem?_map, gj2]; rfl
      have : j = j2 := (List.getElem?_inj (by rw [List.length_map]; exact i1) ndb).mp (n1.trans n2.symm)
      subst this
      rw [gj] at gj2
      cases gj2
      rfl
    subst eqq
    refine wpAny_holding (eq _ _ ?_)
    show wpAny _ _ (if (!true) = true then _ else _) _ _ _
    rw [if_neg (by decide)]
    refine wpAny_bind (wpAny_dictEpoch hoa hda ?_)
    rw [if_neg (by simp)]
    exact wpAny_pure ⟨rfl, rfl, x + 1, hrest, hlt⟩
  · rintro q s' ⟨rfl, rfl, i, hr, hi⟩
    exact wpAny_pure h
theorem rcT {a b : Addr} {xa xb : List (K × Addr × Value)} (ha : (a == sysModules) = false) (hb : (b == sysModules) = false) (da : s.heap.DictOfH knd a xa) (db : s.heap.DictOfH knd b xb) (hr : knd.room A.in1) (hu : A.units < cLine) (hl : xa.length = xb.length)
    (hit : ∀ (i : Nat) (k : K) (p : Addr × Value), xa[i]? = some (k, p) → ∃ (j : Nat) (q : Addr × Value), xb[j]? = some (k, q) ∧ SeqAt.EqP prog w A.in1 s p.2 q.2 true) (E Q : Value → Shared → Prop) (h : Q (.bool true) s) : wpAny (model prog w) A (richCompare .Eq (.ref a) (.ref b)) Q E s := by
  refine wpAny_richCompare_same_room (op := .Eq) da.typeIs db.typeIs PySem.F.slot_dict_eq (wpAny_call_entry PySem.F.slot_dict_eq da.typeIs PySem.F.entry_dict_eq ?_ (PySem.F.args_dict_eq_2 _ _)) hu
  show wpAny _ _ (Builtin.Dict.dictSlotArgs "__eq__" ⟨[.ref a, .ref b], []⟩ >>= _) _ _ s
  refine wpAny_bind ?_
  unfold Builtin.Dict.dictSlotArgs
  refine wpAny_bind (wpAny_notOrdered_dict da.typeIs ?_)
  show wpAny _ _ (pure (Value.ref a, Value.ref b)) _ _ s
  refine wpAny_pure (wpAny_bind (wpAny_isInstance (T := "dict") db.typeIs PySem.F.sub_dict_dict ?_))
  simp only [Bool.not_true, Bool.false_eq_true, if_false]
  refine wpAny_bind (wpAny_pure (wpAny_bind (wpAny_pure (wpAny_bind (pairsT ha hb da db hr hl hit ?_)))))
  refine wpAny_pure ⟨_, rfl, ?_, ?_⟩
  · exact fun x => nomatch x
  · exact h
end
end PySem.W
namespace Rd
open PySem PySem.Spec PyProof.Rows L2 Dt
theorem KT.both {H : Hp} : ∀ {kvs : List (List Key × V)} {xa xb : List (List Key × Addr × Value)}, KT H kvs xa → KT H kvs xb → ∀ (i : Nat) (k : List Key) (p : Addr × Value), xa[i]? = some (k, p) → ∃ (q : Addr × Value) (v : V), xb[i]? = some (k, q) ∧ (k, v) ∈ kvs ∧ RelV v p.2 ∧ RelV v q.2
  | _, _, _, .nil, _, i, k, p, e => by cases i <;> cases e
  | _, _, _, .cons (a := kv) (b := x) r1 t1, .cons (b := y) r2 t2, i, k, p, e => by
    cases i with
    | zero =>
      obtain ⟨y1, y2⟩ := y
      have e : x = (k, p) := Option.some.inj e
      subst e
      obtain ⟨kv1, kv2⟩ := kv
      have h1 : kv1 = k := r1.1
      have h2 : kv1 = y1 := r2.1
      subst h1
      subst h2
      exact ⟨y2, kv2, rfl, List.mem_cons_self, r1.2.2, r2.2.2⟩
    | succ i =>
      obtain ⟨q, v, h1, h2, h3, h4⟩ := KT.both t1 t2 i k p e
      exact ⟨q, v, h1, List.mem_cons_of_mem _ h2, h3, h4⟩
def rNeDT (K : PySem.W.Frag) : R2 := fun x y H Q => ∃ (l m d1 d2 t1 t2 : Addr) (kvs : List (List Key × V)) (e : PyData), x = .ref l ∧ y = .ref m ∧ SqL K H l [.ref d1, .ref t1] ∧ SqL K H m [.ref d2, .ref t2] ∧ Rd H d1 (.dT kvs) ∧ Rd H d2 (.dT kvs) ∧ (∀ k v, (k, v) ∈ kvs → ∃ i, v = .int i) ∧
  Dp K H (.ref t1) e ∧ Dp K H (.ref t2) e ∧ SeqAt.shaped e = true ∧ PyData.eqv e e = true ∧ Q (.bl false) H
theorem op_neDT {X : Cx} (hu : X.A.units + 70 < cLine) : OpR X (compareOp .NotEq) (rNeDT X.K) := by
  intro pins s σ H x y v u Q I rx ry h
  obtain ⟨l, m, d1, d2, t1, t2, kvs, e, rfl, rfl, hl, hm, h1, h2, hi, g1, g2, sh, ee, q⟩ := h
  cases rx
  cases ry
  obtain ⟨its, rv, il, _⟩ := I.list hl
  obtain ⟨its2, rv2, il2, _⟩ := I.list hm
  obtain ⟨u1, u2, rfl, r1, r2⟩ := vals2 rv
  obtain ⟨u3, u4, rfl, r3, r4⟩ := vals2 rv2
  cases (show u1 = Value.ref d1 from r1)
  cases (show u2 = Value.ref t1 from r2)
  cases (show u3 = Value.ref d2 from r3)
  cases (show u4 = Value.ref t2 from r4)
  obtain ⟨z1, lo1, xa, k1, dd1⟩ := dt_rd I.hok h1
  obtain ⟨z2, lo2, xb, k2, dd2⟩ := dt_rd I.hok h2
  obtain ⟨as1, w1⟩ := Dp.reads I e _ _ g1 rfl
  obtain ⟨as2, w2⟩ := Dp.reads I e _ _ g2 rfl
  refine PySem.SeqAt.netr_lists il.isList il2.isList rfl (by omega) (fun j j1 j2 => ?_) ⟨.bl _, H, I, rfl, q⟩
  match j, j1 with
  | 0, _ =>
    show PySem.SeqAt.EqP X.prog X.w X.A.in1 s (.ref d1) (.ref d2) true
    by_cases c : d1 = d2
    · subst c
      exact (PySem.SeqAt.EqAt.same _).eqP
    · refine PySem.SeqAt.eqP_refs c fun E Q h => PySem.W.rcT lo1 lo2 dd1 dd2 ?_ ?_ ?_ (fun i k p ei => ?_) E Q h
      · show X.A.units + 1 + 1 < cLine
        omega
      · show X.A.units + 1 < cLine
        omega
      · rw [← Paired.length k1, ← Paired.length k2]
      · obtain ⟨p2, v, e1, mv, q1, q2⟩ := KT.both k1 k2 i k p ei
        obtain ⟨n, rfl⟩ := hi k v mv
        obtain ⟨ta, ea⟩ := q1
        obtain ⟨tb, eb⟩ := q2
        refine ⟨i, p2, e1, ?_⟩
        rw [ea, eb]
        have z := PySem.SeqAt.EqAt.int_int (A := X.A.in1.in1) (s := s) n ta n tb
        rw [beq_self_eq_true] at z
        exact z.eqP
  | 1, _ =>
    show PySem.SeqAt.EqP X.prog X.w X.A.in1 s (.ref t1) (.ref t2) true
    have z := PySem.W.keq_at (A := X.A) w1 w2 sh sh (by show X.A.units + 1 + 64 < cLine; omega)
    rw [ee] at z
    exact z.eqP
end Rd

set_option autoImplicit false
set_option Elab.async false
set_option linter.all false
set_option maxRecDepth 100000
set_option maxHeartbeats 4000000
/-! tables: their data, copies of them -/
namespace Rd
open PySem PySem.Spec PyProof.Rows L2 Dt
theorem layI : ∀ ns : List Int, PyData.canLayAll0 (ns.map PyData.int) = true
  | [] => rfl
  | _ :: r => by
    rw [List.map_cons]
    show (true && PyData.canLayAll0 (r.map PyData.int)) = true
    rw [layI r]
    rfl
theorem layL (ns : List Int) : PyData.canLay0 (.list (ns.map PyData.int)) = true := by
  simp only [PyData.canLay0]
  exact layI ns
theorem depI : ∀ ns : List Int, PyData.depthAll (ns.map PyData.int) ≤ 1
  | [] => by simp [PyData.depthAll]
  | _ :: r => by
    have := depI r
    rw [List.map_cons]
    simp only [PyData.depthAll, PyData.depth]
    omega
theorem shpI (ns : List Int) : SeqAt.shaped (.list (ns.map PyData.int)) = true := by
  have a := depI ns
  have d : PyData.depth (.list (ns.map PyData.int)) ≤ 64 := by
    simp only [PyData.depth]
    omega
  show (PyData.canLay0 (.list (ns.map PyData.int)) && decide (PyData.depth (.list (ns.map PyData.int)) ≤ 64)) = true
  rw [layL, decide_eq_true d]
  rfl
theorem eqvI (ns : List Int) : PyData.eqv (.list (ns.map PyData.int)) (.list (ns.map PyData.int)) = true := PySem.SeqAt.eqv_refl _ (layL ns)
/-- a table's data -/
theorem layLs : ∀ ls : List (List Int), PyData.canLayAll0 (ls.map fun l => .list (l.map PyData.int)) = true
  | [] => rfl
  | l :: r => by
    rw [List.map_cons]
    show (PyData.canLay0 (.list (l.map PyData.int)) && PyData.canLayAll0 (r.map fun l => .list (l.map PyData.int))) = true
    rw [layL, layLs r]
    rfl
theorem depLs : ∀ ls : List (List Int), PyData.depthAll (ls.map fun l => .list (l.map PyData.int)) ≤ 3
  | [] => by simp [PyData.depthAll]
  | l :: r => by
    have := depLs r
    have := depI l
    rw [List.map_cons]
    simp only [PyData.depthAll, PyData.depth]
    omega
theorem shpLs (ls : List (List Int)) : SeqAt.shaped (listsD ls) = true := by
  have a := depLs ls
  have c : PyData.canLay0 (listsD ls) = true := by
    unfold listsD
    simp only [PyData.canLay0]
    exact layLs ls
  have d : PyData.depth (listsD ls) ≤ 64 := by
    unfold listsD
    simp only [PyData.depth]
    omega
  show (PyData.canLay0 (listsD ls) && decide (PyData.depth (listsD ls) ≤ 64)) = true
  rw [c, decide_eq_true d]
  rfl
theorem eqvLs (ls : List (List Int)) : PyData.eqv (listsD ls) (listsD ls) = true := PySem.SeqAt.eqv_refl _ (SeqAt.canLay_of_shaped (shpLs ls))
theorem pairedMapM {α β : Type} {F G : α → β → Prop} : ∀ {l : List α} {m : List β}, (∀ a ∈ l, ∀ b, F a b → G a b) → Paired F l m → Paired G l m
  | _, _, _, .nil => .nil
  | _, _, f, .cons h t => .cons (f _ List.mem_cons_self _ h) (pairedMapM (fun a ha => f a (List.mem_cons_of_mem _ ha)) t)
/-- a table copied, list by list -/
theorem copy_tab {K : PySem.W.Frag} {H1 : Hp} {tL C : Addr} {das : List Addr} {tb : List (List Int)} {g : TG} {te : TE} {vs : List Nat} {σ : L2.St} {Q : Hp → Prop} (ht : H1 tL = some (.lst (das.map V.ref))) (pt : Paired (IsInts H1) das tb) (nC : H1 C = none) (hl : tb.length ≤ 999)
    (hs : ∀ (d : Addr) (ds : List Int) (H2 : Hp) (R : V → Hp → Prop), H2 d = some (.lst (ds.map V.int)) → (∀ l, H2 l = none → R (.ref l) (upd H2 l (.lst (ds.map V.int)))) → g (.ref d) (wipe σ vs) H2 fun σ2 H3 => wipe σ2 vs = wipe σ vs ∧ te σ2 H3 R)
    (q : ∀ H2 cs, Same H1 H2 → H2 C = some (.lst (cs.map V.ref)) → Paired (IsInts H2) cs tb → Q H2) :
    ∃ W : Nat → Nat → Hp → Prop, (∃ m, W 0 m (upd H1 C (.lst []))) ∧ ∀ i m H, W i m H →
      ((Itl K tL).stop i H ∧ Q H) ∨ ((Itl K tL).go i H ∧ ∃ Nx : Hp → Prop, (∀ H', Nx H' → ∃ m', m' < m ∧ W (i + 1) m' H') ∧ ∀ x H', (Itl K tL).yld i H x H' → g x (wipe σ vs) H' fun σ2 H2 => wipe σ2 vs = wipe σ vs ∧ tYes σ2 H2 fun b H3 =>
        if b = true then te σ2 H3 fun y H4 => ∃ acc, H4 C = some (.lst acc) ∧ acc.length < sizeLine ∧ Nx (upd H4 C (.lst (acc ++ [y]))) else Nx H3) := by
  have dl := pairedLen pt
  refine lc_list (K := K) (a := tL) (xs := das.map V.ref) (fun i H2 => Same H1 H2 ∧ ∃ cs : List Addr, H2 C = some (.lst (cs.map V.ref)) ∧ cs.length = i ∧ Paired (IsInts H2) cs (tb.take i) ∧ ∀ c ∈ cs, c ≠ C) ⟨same_upd nC, [], upd_same, rfl, .nil, fun _ z => nomatch z⟩ (fun i H2 _ p => .inl (.inl (p.1 _ _ ht))) (fun i x H2 hx p => ?_) (fun H2 p => ?_)
  · obtain ⟨s2, cs, hC, cl, pc, nc⟩ := p
    obtain ⟨d, ed, rfl⟩ := map_get hx
    obtain ⟨ds, eds, hd⟩ := pairedGetL pt ed
    have il := (List.getElem?_eq_some_iff.mp eds).1
    have z := hs d ds H2 (fun y H4 => ∃ acc, H4 C = some (.lst acc) ∧ acc.length < sizeLine ∧ (Same H1 (upd H4 C (.lst (acc ++ [y]))) ∧ ∃ cs : List Addr, upd H4 C (.lst (acc ++ [y])) C = some (.lst (cs.map V.ref)) ∧ cs.length = i + 1 ∧ Paired (IsInts (upd H4 C (.lst (acc ++ [y])))) cs (tb.take (i + 1)) ∧ ∀ c ∈ cs, c ≠ C)) (s2 _ _ hd) (fun l nl => ?_)
    · exact z
    · have sl := same_upd (o := .lst (ds.map V.int)) nl
      have nlC : l ≠ C := fun z => by rw [z, hC] at nl; cases nl
      refine ⟨cs.map V.ref, sl _ _ hC, by rw [List.length_map]; exact small1000 (by omega), same_put (s2.trans sl) nC, cs ++ [l], by rw [upd_same, List.map_append]; rfl, by rw [List.length_append, cl]; rfl, ?_, fun c hc => ?_⟩
      · rw [take_snoc eds]
        refine pairedSnoc (pairedMapM (fun c hc b e => ?_) pc) ?_
        · show upd _ C _ c = _
          rw [upd_ne (nc c hc)]
          exact sl _ _ e
        · show upd _ C _ l = _
          rw [upd_ne nlC]
          exact upd_same
      · rcases List.mem_append.mp hc with z | z
        · exact nc c z
        · rw [List.mem_singleton.mp z]
          exact nlC
  · obtain ⟨s2, cs, hC, cl, pc, nc⟩ := p
    rw [List.length_map, dl, List.take_length] at pc
    exact q H2 cs s2 hC pc
theorem prod_powB {m : Nat} : ∀ {l : List Nat}, (∀ n ∈ l, n ≤ m) → l.foldr (· * ·) 1 ≤ m ^ l.length
  | [], _ => Nat.le_refl 1
  | n :: r, h => by
    show n * r.foldr (· * ·) 1 ≤ m ^ (r.length + 1)
    rw [Nat.pow_succ, Nat.mul_comm]
    exact Nat.mul_le_mul (prod_powB fun x hx => h x (List.mem_cons_of_mem _ hx)) (h n List.mem_cons_self)
end Rd

set_option Elab.async false
set_option linter.all false
set_option maxRecDepth 100000
set_option maxHeartbeats 4000000
/-! tuples of small numbers have hashes of their own -/
namespace Rd
open PySem PySem.Spec PyProof.Rows L2 Dt
/-- apart, by one bit after the other -/
def apartN : Nat → List Nat → Bool
  | _, [] => true
  | _, [_] => true
  | 0, _ => false
  | n + 1, xs => apartN n (xs.filter fun x => x.testBit n) && apartN n (xs.filter fun x => !x.testBit n)
theorem nodup_split {α : Type} (p : α → Bool) : ∀ {xs : List α}, (xs.filter p).Nodup → (xs.filter fun x => !p x).Nodup → xs.Nodup
  | [], _, _ => List.nodup_nil
  | x :: r, h1, h2 => by
    rw [List.filter_cons] at h1 h2
    cases c : p x with
    | true =>
      rw [c] at h1 h2
      have h1 : (x :: r.filter p).Nodup := h1
      have h2 : (r.filter fun x => !p x).Nodup := h2
      rw [List.nodup_cons] at h1
      exact List.nodup_cons.mpr ⟨fun m => h1.1 (List.mem_filter.mpr ⟨m, c⟩), nodup_split p h1.2 h2⟩
    | false =>
      rw [c] at h1 h2
      have h1 : (r.filter p).Nodup := h1
      have h2 : (x :: r.filter fun x => !p x).Nodup := h2
      rw [List.nodup_cons] at h2
      exact List.nodup_cons.mpr ⟨fun m => h2.1 (List.mem_filter.mpr ⟨m, by rw [c]; rfl⟩), nodup_split p h1 h2.2⟩
theorem apartN_ok : ∀ (n : Nat) (xs : List Nat), apartN n xs = true → xs.Nodup
  | n, [], _ => List.nodup_nil
  | n, [x], _ => List.nodup_cons.mpr ⟨List.not_mem_nil, List.nodup_nil⟩
  | 0, x :: y :: r, h => by
    unfold apartN at h
    cases h
  | n + 1, x :: y :: r, h => by
    unfold apartN at h
    rw [Bool.and_eq_true] at h
    exact nodup_split (fun x => x.testBit n) (apartN_ok n _ h.1) (apartN_ok n _ h.2)
/-- a tuple's hash, by a number -/
def hashN (t : List Int) : Nat := ((reduceHash (Builtin.Tuple.tupleHashOf (t.map hashInt))) % (2 ^ 64 : Int)).toNat
theorem inj_of_nodup {α β : Type} {f : α → β} : ∀ {xs : List α}, (xs.map f).Nodup → ∀ x ∈ xs, ∀ y ∈ xs, f x = f y → x = y
  | a :: r, h, x, hx, y, hy, e => by
    rw [List.map_cons, List.nodup_cons] at h
    rcases List.mem_cons.mp hx with p | p
    · rcases List.mem_cons.mp hy with q | q
      · rw [p, q]
      · exact (h.1 (by rw [← p, e]; exact List.mem_map.mpr ⟨y, q, rfl⟩)).elim
    · rcases List.mem_cons.mp hy with q | q
      · exact (h.1 (by rw [← q, ← e]; exact List.mem_map.mpr ⟨x, p, rfl⟩)).elim
      · exact inj_of_nodup h.2 x p y q e
/-- so are those of keys within a box that is checked -/
theorem hash_apart {P : Program} {w : World} {l : List Nat} (hb : apartN 64 ((boxL l).map hashN) = true) {ts : List (List Int)} (nd : ts.Nodup) (h : ∀ t ∈ ts, t ∈ boxL l) : (ts.map fun t => tupleKeyHash (mixKind P w) (keyB t)).Nodup := by
  have inj := inj_of_nodup (apartN_ok 64 _ hb)
  have e : ∀ t : List Int, tupleKeyHash (mixKind P w) (keyB t) = reduceHash (Builtin.Tuple.tupleHashOf (t.map hashInt)) := fun t => by
    unfold tupleKeyHash keyB
    rw [List.map_map]
    rfl
  clear hb
  induction ts with
  | nil => exact List.nodup_nil
  | cons t r ih =>
    rw [List.nodup_cons] at nd
    rw [List.map_cons, List.nodup_cons]
    refine ⟨fun m => ?_, ih nd.2 fun u hu => h u (List.mem_cons_of_mem _ hu)⟩
    obtain ⟨u, hu, eu⟩ := List.mem_map.mp m
    have eu : tupleKeyHash (mixKind P w) (keyB u) = tupleKeyHash (mixKind P w) (keyB t) := eu
    rw [e, e] at eu
    have : u = t := inj u (h u (List.mem_cons_of_mem _ hu)) t (h t List.mem_cons_self) (by unfold hashN; rw [eu])
    exact nd.1 (this ▸ hu)
end Rd

set_option autoImplicit false
set_option Elab.async false
set_option linter.all false
set_option maxRecDepth 100000
set_option maxHeartbeats 4000000
namespace Rd
open PySem PySem.Spec PyProof.Rows L2 Dt
theorem boxV1 : apartN 64 ((boxL [3]).map hashN) = true := by decide +kernel
theorem boxV2 : apartN 64 ((boxL [3, 3]).map hashN) = true := by decide +kernel
theorem boxV3 : apartN 64 ((boxL [3, 3, 3]).map hashN) = true := by decide +kernel
theorem boxV4 : apartN 64 ((boxL [3, 3, 3, 3]).map hashN) = true := by decide +kernel
theorem boxV5 : apartN 64 ((boxL [2, 2, 2, 2, 2]).map hashN) = true := by decide +kernel
theorem boxV6 : apartN 64 ((boxL [2, 2, 2, 2, 2, 2]).map hashN) = true := by decide +kernel
theorem boxVw : apartN 64 ((boxL [60, 10, 10]).map hashN) = true := by decide +kernel
end Rd

set_option Elab.async false
set_option linter.all false
set_option maxRecDepth 100000
set_option maxHeartbeats 4000000
namespace Rd
open PySem PySem.Spec PyProof.Rows L2 Dt
def topS (i : Nat) : Stmt := PySem.Challenge.pw_redraw_k51_floors_looked_at.main.body.getD i (.Pass ⟨0, 0, 0, 0⟩)
abbrev sTap : Stmt := topS 15
abbrev nTap : List Str := ["script", "start", "cell"]
theorem scTap : FnScope nTap ["script", "start"] (defScope sTap) := ⟨rfl, rfl, rfl, by decide +kernel, rfl, by decide +kernel, by decide +kernel⟩
abbrev sDig : Stmt := topS 16
abbrev nDig : List Str := ["tape", "many", "found", "more"]
theorem scDig : FnScope nDig ["tape", "many"] (defScope sDig) := ⟨rfl, rfl, rfl, by decide +kernel, rfl, by decide +kernel, by decide +kernel⟩
def spTap (K : PySem.W.Frag) : Sp := fun vs H Q _ => ∃ (a : Addr) (ns : List Int) (st : Int), vs = [.ref a, .int st] ∧ SqL K H a (ns.map V.int) ∧ ns.length ≤ 63 ∧ 0 ≤ st ∧ st ≤ 100 ∧
  ∀ H' tp, Same H H' → H tp = none → Tape H' tp → Q (.ref tp) H'
def spDig : Sp := fun vs H Q _ => ∃ (tp : Addr) (m : Int), vs = [.ref tp, .int m] ∧ Tape H tp ∧ 1 ≤ m ∧ m.natAbs.log2 < 9000 ∧
  ∀ H' d, Taped tp H H' → 0 ≤ d → d < m → Q (.int d) H'
structure TxtT (mg : Str → Option Value) : Prop where
  m_len : mg "len" = none
  m_abs : mg "abs" = none
theorem abs_nn (z : Int) : 0 ≤ (if z < 0 then -z else z) := by split <;> omega
section
variable {P : Program} {w : World} {K : PySem.W.Frag} {mg : Str → Option Value} {base : Heap}
theorem ok_tap {f : Addr} {fd : FuncData} {k : Nat} (F : Fun K "_law_tape" "_law_tape" sTap f fd) (T : TxtT mg) : FnOk P w K mg base CX0 (k + 1) f fd ["script", "start"] (spTap K) := by
  refine F.ok scTap (fun vs H Q E h => ?_) (fun cdv A outer s H vs Q E hr h => ?_)
  · obtain ⟨a, ns, st, rfl, _⟩ := h
    rfl
  · obtain ⟨a, ns, st, rfl, hS, hl, s0, s1, q⟩ := h
    refine ⟨_, (pss_cons (ps_set (i := 2) scTap.nd rfl (Or.inl rfl) pe_int)
  (C8.pss_cut (ps_if (pt_cmpR op_lt (pv 1) (pe_callB call_len_seq (by rfl) T.m_len (by decide +kernel) (pa_cons (pv 0) pa_nil)) (nomark _))
  (pss_one (ps_set (i := 2) scTap.nd rfl (Or.inl rfl) (pe_callB call_abs (by rfl) T.m_abs (by decide +kernel) (pa_cons (pe_ix ix_list (pv 0) (pv 1) (fun _ _ => rfl)) pa_nil)))) (pss_one (ps_if (pt_cmpR op_gt (pe_callB call_len_seq (by rfl) T.m_len (by decide +kernel) (pa_cons (pv 0) pa_nil)) pe_int (nomark _))
  (pss_one (ps_set (i := 2) scTap.nd rfl (Or.inl rfl) (pe_op op_add (pe_op op_mod (pe_callB call_abs (by rfl) T.m_abs (by decide +kernel) (pa_cons (pe_ix ix_list (pv 0) (pe_op op_mod (pv 1) (pe_callB call_len_seq (by rfl) T.m_len (by decide +kernel) (pa_cons (pv 0) pa_nil))) (fun _ _ => rfl)) pa_nil)) (pe_op op_pow pe_int pe_int)) (pe_op op_mul (pv 1) pe_int)))) pss_nil)))
  (pss_one (ps_ret (pe_lst (pa_cons (pv 2) (pa_cons (pe_op op_add (pe_op op_mod (pe_op op_add (pe_op op_mul (pv 1) pe_int) (pv 2)) pe_int) pe_int) pa_nil))))))), ?_⟩
    refine ⟨fun σ H' => H' = H ∧ ∃ c : Int, 0 ≤ c ∧ σ = [some (.ref a), some (.int st), some (.int c)], ?_, ?_⟩
    · refine ⟨.int st, rfl, .ref a, rfl, a, _, rfl, .inl hS, _, _, rfl, rfl, _, rfl, ite2 (fun e => ?_) (fun e => ?_)⟩
      · rw [List.length_map] at e
        have e1 : st < (ns.length : Int) := of_decide_eq_true e
        have hi : st.toNat < ns.length := by omega
        refine ⟨.ref a, rfl, .int st, rfl, a, _, st, _, rfl, rfl, hS, atI_of s0 (List.getElem?_eq_getElem hi), _, rfl, rfl, _, abs_nn _, rfl⟩
      · refine ⟨.ref a, rfl, a, _, rfl, .inl hS, _, _, rfl, rfl, _, rfl, ite2 (fun e2 => ?_) (fun e2 => ?_)⟩
        · rw [List.length_map] at e2
          have e3 : 0 < (ns.length : Int) := of_decide_eq_true e2
          have n0 := Int.emod_nonneg st (show (ns.length : Int) ≠ 0 by omega)
          have n1 := Int.emod_lt_of_pos st e3
          have hi : (st % (ns.length : Int)).toNat < ns.length := by omega
          refine ⟨.ref a, rfl, .int st, rfl, .ref a, rfl, a, _, rfl, .inl hS, _, _, rfl, rfl, (by rw [List.length_map]; exact e3), ?_⟩
          rw [List.length_map]
          refine ⟨a, _, _, _, rfl, rfl, hS, atI_of n0 (List.getElem?_eq_getElem hi), _, rfl, 10, 9, rfl, rfl, ⟨by decide, by decide, by decide⟩, _, _, rfl, rfl, (by show (0 : Int) < 10 ^ 9; decide), .int st, rfl, st, 1000003, rfl, rfl, .inl ⟨by omega, by omega⟩, _, _, rfl, rfl, rfl, _, ?_, rfl⟩
          have := Int.emod_nonneg (if ns[(st % (ns.length : Int)).toNat] < 0 then -ns[(st % (ns.length : Int)).toNat] else ns[(st % (ns.length : Int)).toNat]) (show (10 ^ (9 : Int).toNat : Int) ≠ 0 by decide)
          omega
        · exact ⟨rfl, 0, by decide, rfl⟩
    · rintro σ H1 ⟨rfl, c, c0, rfl⟩
      refine ⟨.int c, rfl, .int st, rfl, st, 7919, rfl, rfl, .inl ⟨by omega, by omega⟩, .int c, rfl, _, _, rfl, rfl, _, _, rfl, rfl, (by show (0 : Int) < 998244353; decide), _, _, rfl, rfl, (by show 2 ≤ sizeLine; decide), fun tp nt => ?_⟩
      have g1 := Int.emod_nonneg (st * 7919 + c) (by decide : (998244353 : Int) ≠ 0)
      have g2 := Int.emod_lt_of_pos (st * 7919 + c) (by decide : (0 : Int) < 998244353)
      exact q _ tp (same_upd nt) nt ⟨c, _, upd_same, c0, by omega, by omega⟩
theorem ok_dig {f : Addr} {fd : FuncData} {k : Nat} (F : Fun K "_law_digit" "_law_digit" sDig f fd) : FnOk P w K mg base CX0 (k + 1) f fd ["tape", "many"] spDig := by
  refine F.ok scDig (fun vs H Q E h => ?_) (fun cdv A outer s H vs Q E hr h => ?_)
  · obtain ⟨tp, m, rfl, _⟩ := h
    rfl
  · obtain ⟨tp, m, rfl, hT, m1, hlog, q⟩ := h
    obtain ⟨b, c, h1, b0, c0, c1⟩ := id hT
    refine ⟨_, (pss_cons (ps_if (pt_cmpR op_gt (pe_ix ix_list (pv 0) pe_int (fun _ _ => rfl)) pe_int (nomark _))
  (pss_cons (ps_set (i := 2) scDig.nd rfl (Or.inl rfl) (pe_op op_mod (pe_ix ix_list (pv 0) pe_int (fun _ _ => rfl)) (pv 1)))
  (pss_cons (ps_asg (pe_op op_fdivW (pe_ix ix_list (pv 0) pe_int (fun _ _ => rfl)) (pv 1)) (pg_sub (pv 0) pe_int set_list))
  (pss_one (ps_ret (pv 2))))) pss_nil)
  (pss_cons (ps_asg (pe_op op_mod (pe_op op_add (pe_op op_mul (pe_ix ix_list (pv 0) pe_int (fun _ _ => rfl)) pe_int) pe_int) pe_int) (pg_sub (pv 0) pe_int set_list))
  (pss_cons (ps_set (i := 3) scDig.nd rfl (Or.inl rfl) (pe_op op_mod (pe_op op_mul (pe_ix ix_list (pv 0) pe_int (fun _ _ => rfl)) pe_int) pe_int))
  (pss_one (ps_ret (pe_op op_mod (pe_op op_add (pe_op op_mul (pe_op op_mod (pe_op op_mul (pe_ix ix_list (pv 0) pe_int (fun _ _ => rfl)) (pe_ix ix_list (pv 0) pe_int (fun _ _ => rfl))) pe_int) pe_int) (pv 3)) (pv 1))))))), ?_⟩
    have q2 : ∀ (b' c' d : Int), 0 ≤ b' → 0 ≤ c' → c' ≤ 2147483647 → 0 ≤ d → d < m → Q (.int d) (upd H tp (.lst [.int b', .int c'])) := fun b' c' d x1 x2 x3 x4 x5 =>
      q _ _ ⟨fun a o n e => by rw [upd_ne n]; exact e, b', c', upd_same, x1, x2, x3⟩ x4 x5
    refine ⟨.ref tp, rfl, tp, _, 0, _, rfl, rfl, .inl (.inl h1), rfl, b, 0, rfl, rfl, _, rfl, ite2 (fun e => ?_) (fun e => ?_)⟩
    · refine ⟨.ref tp, rfl, tp, _, 0, _, rfl, rfl, .inl (.inl h1), rfl, .int m, rfl, b, m, rfl, rfl, (by show 0 < m; omega), ?_⟩
      refine ⟨.ref tp, rfl, tp, _, 0, _, rfl, rfl, .inl (.inl h1), rfl, .int m, rfl, b, m, rfl, rfl, ⟨by omega, hlog⟩, .ref tp, rfl, tp, _, 0, 0, rfl, rfl, h1, rfl, ?_⟩
      exact ⟨.int (b % m), rfl, q2 (b / m) c _ (Int.ediv_nonneg b0 (by omega)) c0 c1 (Int.emod_nonneg _ (by omega)) (Int.emod_lt_of_pos _ (by omega))⟩
    · refine ⟨.ref tp, rfl, tp, _, 1, _, rfl, rfl, .inl (.inl h1), rfl, c, 48271, rfl, rfl, .inl ⟨by omega, by omega⟩, _, _, rfl, rfl, _, _, rfl, rfl, (by show (0 : Int) < 2147483647; decide), .ref tp, rfl, tp, _, 1, 1, rfl, rfl, h1, rfl, ?_⟩
      have n1 := Int.emod_nonneg (c * 48271 + 11) (by decide : (2147483647 : Int) ≠ 0)
      have n2 := Int.emod_lt_of_pos (c * 48271 + 11) (by decide : (0 : Int) < 2147483647)
      generalize ec : (c * 48271 + 11) % 2147483647 = c' at n1 n2
      refine ⟨.ref tp, rfl, tp, _, 1, _, rfl, rfl, .inl (.inl upd_same), rfl, c', 40692, by rw [← ec], rfl, .inl ⟨by omega, by omega⟩, _, _, rfl, rfl, (by show (0 : Int) < 2147483399; decide), ?_⟩
      have k1 := Int.emod_nonneg (c' * c') (by decide : (2147483629 : Int) ≠ 0)
      have k2 := Int.emod_lt_of_pos (c' * c') (by decide : (0 : Int) < 2147483629)
      refine ⟨.ref tp, rfl, tp, _, 1, _, rfl, rfl, .inl (.inl upd_same), rfl, .ref tp, rfl, tp, _, 1, _, rfl, rfl, .inl (.inl upd_same), rfl, c', c', by rw [← ec], by rw [← ec], .inl ⟨by omega, by omega⟩, _, _, rfl, rfl, (by show (0 : Int) < 2147483629; decide), _, 2147483399, rfl, rfl, .inl ⟨by omega, by omega⟩, _, rfl, _, _, rfl, rfl, .int m, rfl, _, m, rfl, rfl, (by show 0 < m; omega), ?_⟩
      have z := q2 b c' ((c' * c' % 2147483629 * 2147483399 + c' * 40692 % 2147483399) % m) b0 n1 (by omega) (Int.emod_nonneg _ (by omega)) (Int.emod_lt_of_pos _ (by omega))
      rw [← ec] at z ⊢
      exact z
end
end Rd

set_option Elab.async false
set_option linter.all false
set_option maxRecDepth 100000
set_option maxHeartbeats 4000000
namespace Rd
open PySem PySem.Spec PyProof.Rows L2 Dt
abbrev sWis : Stmt := topS 17
abbrev nWis : List Str := ["tape", "many", "hues", "most", "size", "left", "places", "every", "place", "longer", "row", "count", "rows", "k", "hue"]
theorem scWis : FnScope nWis ["tape", "many", "hues", "most"] (defScope sWis) := ⟨rfl, rfl, rfl, by decide +kernel, rfl, by decide +kernel, by decide +kernel⟩
def spWis : Sp := fun vs H Q _ => ∃ (tp : Addr) (many hues most : Int), vs = [.ref tp, .int many, .int hues, .int most] ∧ Tape H tp ∧ 1 ≤ many ∧ many ≤ 6 ∧ 2 ≤ hues ∧ hues ≤ 4 ∧ 1 ≤ most ∧ most ≤ 100 ∧
  ∀ H' wa wd, Taped tp H H' → IsWish H' wa wd → Good many hues wd → Neat wd → Q (.ref wa) H'
structure TxtW (P : Program) (w : World) (K : PySem.W.Frag) (mg : Str → Option Value) (base : Heap) : Prop where
  m_range : mg "range" = none
  m_list : mg "list" = none
  m_min : mg "min" = none
  m_len : mg "len" = none
  m_sorted : mg "sorted" = none
  m_tuple : mg "tuple" = none
  c__law_digit : Cal P w K mg base 1 "_law_digit" ["tape", "many"] spDig
theorem pow64 {h s : Nat} (h4 : h ≤ 4) (s3 : s ≤ 3) : h ^ s ≤ 64 := Nat.le_trans (Nat.pow_le_pow_left h4 s) (Nat.le_trans (Nat.pow_le_pow_right (by decide) s3) (by decide))
section
variable {P : Program} {w : World} {K : PySem.W.Frag} {mg : Str → Option Value} {base : Heap}
set_option maxHeartbeats 16000000 in
theorem ok_wis {f : Addr} {fd : FuncData} {k : Nat} (F : Fun K "_law_wish" "_law_wish" sWis f fd) (T : TxtW P w K mg base) : FnOk P w K mg base CX0 (k + 2) f fd ["tape", "many", "hues", "most"] spWis := by
  refine F.ok scWis (fun vs H Q E h => ?_) (fun cdv A outer s H vs Q E hr h => ?_)
  · obtain ⟨tp, many, hues, most, rfl, _⟩ := h
    rfl
  · obtain ⟨tp, many, hues, most, rfl, hT, m1, m6, h2, h4, o1, o100, q⟩ := h
    refine ⟨_, (pss_cons (ps_set (i := 4) scWis.nd rfl (Or.inl rfl) (pe_callB (call_min2 rfl) (by rfl) T.m_min (by decide +kernel) (pa_cons (pv 1) (pa_cons (pe_op op_add pe_int (pe_cal T.c__law_digit (hr.mono (by omega)) (by rfl) (pa_cons (pv 0) (pa_cons pe_int pa_nil)))) pa_nil))))
  (pss_cons (ps_set (i := 5) scWis.nd rfl (Or.inr rfl) (pe_listRg rfl (by rfl) T.m_list (prg_1 (by rfl) T.m_range (pv 1))))
  (pss_cons (ps_set (i := 6) scWis.nd rfl (Or.inl rfl) (pe_callB cr_sorted (by rfl) T.m_sorted (by decide +kernel) (pa_cons (pe_lc (te := tBM K "list" rPopAt (tVar 5) (tCons (tCall spDig [] E0 (tCons (tVar 0) (tCons (tCB (rLen K) (tCons (tVar 5) tNil)) tNil))) tNil)) (own := [("k", 13)]) rfl scWis.nd  (pi_range1 (by rfl) T.m_range (pa_cons (pv 4) pa_nil)) (blkOk_by (own := [("k", 13)]) (N := nWis) (sc := defScope sWis) (by decide +kernel))
   (fun _ _ _ _ _ => (pg_name (i := 13) scWis.nd rfl (Or.inl rfl))) (fun _ _ _ _ _ => pts_nil) (fun _ _ _ _ _ => (pe_bm PySem.F.plainAttrs_list PySem.F.slot_list_pop PySem.F.type_list_pop mt_popAt (pv 5) (pa_cons (pe_cal T.c__law_digit (hr.mono (by omega)) (by rfl) (pa_cons (pv 0) (pa_cons (pe_callB call_len_seq (by rfl) T.m_len (by decide +kernel) (pa_cons (pv 5) pa_nil)) pa_nil))) pa_nil)))) pa_nil)))
  (pss_cons (ps_set (i := 7) scWis.nd rfl (Or.inr rfl) (pe_lst (pa_cons (pe_tup pa_nil) pa_nil)))
  (pss_cons (ps_for PassesOwn.never rfl (pi_list (pv 6)) (pg_name (i := 8) scWis.nd rfl (Or.inl rfl))
  (pss_cons (ps_set (i := 9) scWis.nd rfl (Or.inl rfl) (pe_lst pa_nil))
  (pss_cons (ps_for PassesOwn.never rfl (pi_list (pv 7)) (pg_name (i := 10) scWis.nd rfl (Or.inr rfl))
  (pss_one (ps_expr (pe_bm PySem.F.plainAttrs_list PySem.F.slot_list_extend PySem.F.type_list_extend mt_extend (pv 9) (pa_cons (pe_lc (te := tOp (rCatA K) (tVar 10) (tTup (tCons (tVar 14) tNil))) (own := [("hue", 14)]) rfl scWis.nd  (pi_range1 (by rfl) T.m_range (pa_cons (pv 2) pa_nil)) (blkOk_by (own := [("hue", 14)]) (N := nWis) (sc := defScope sWis) (by decide +kernel))
   (fun _ _ _ _ _ => (pg_name (i := 14) scWis.nd rfl (Or.inl rfl))) (fun _ _ _ _ _ => pts_nil) (fun _ _ _ _ _ => (pe_op op_catA (pv 10) (pe_tup (pa_cons (pv 14) pa_nil))))) pa_nil)))))
  (pss_one (ps_set (i := 7) scWis.nd rfl (Or.inr rfl) (pv 9))))))
  (pss_cons (ps_set (i := 11) scWis.nd rfl (Or.inl rfl) (pe_callB (call_min2 rfl) (by rfl) T.m_min (by decide +kernel) (pa_cons (pe_callB call_len_seq (by rfl) T.m_len (by decide +kernel) (pa_cons (pv 7) pa_nil)) (pa_cons (pe_op op_add pe_int (pe_cal T.c__law_digit (hr.mono (by omega)) (by rfl) (pa_cons (pv 0) (pa_cons (pv 3) pa_nil)))) pa_nil))))
  (C8.pss_cut (ps_if (pt_cmpR op_eq (pe_cal T.c__law_digit (hr.mono (by omega)) (by rfl) (pa_cons (pv 0) (pa_cons pe_int pa_nil))) pe_int (nomark _))
  (pss_one (ps_set (i := 11) scWis.nd rfl (Or.inl rfl) (pe_op op_add pe_int (pe_cal T.c__law_digit (hr.mono (by omega)) (by rfl) (pa_cons (pv 0) (pa_cons (pe_callB call_len_seq (by rfl) T.m_len (by decide +kernel) (pa_cons (pv 7) pa_nil)) pa_nil)))))) pss_nil)
  (pss_cons (ps_setLc (i := 12) (te := tBM K "list" rPopAt (tVar 7) (tCons (tCall spDig [] E0 (tCons (tVar 0) (tCons (tCB (rLen K) (tCons (tVar 7) tNil)) tNil))) tNil)) (own := [("k", 13)]) rfl scWis.nd rfl rfl (sw_true rfl rfl rfl (by decide +kernel)) (pi_range1 (by rfl) T.m_range (pa_cons (pv 11) pa_nil)) (blkOk_by (own := [("k", 13)]) (N := nWis) (sc := defScope sWis) (by decide +kernel))
   (fun _ _ _ _ _ => (pg_name (i := 13) scWis.nd rfl (Or.inl rfl))) (fun _ _ _ _ _ => pts_nil) (fun _ _ _ _ _ => (pe_bm PySem.F.plainAttrs_list PySem.F.slot_list_pop PySem.F.type_list_pop mt_popAt (pv 7) (pa_cons (pe_cal T.c__law_digit (hr.mono (by omega)) (by rfl) (pa_cons (pv 0) (pa_cons (pe_callB call_len_seq (by rfl) T.m_len (by decide +kernel) (pa_cons (pv 7) pa_nil)) pa_nil))) pa_nil))))
  (pss_one (ps_ret (pe_tup (pa_cons (pe_callTy call_tuple_of (by rfl) T.m_tuple (by decide +kernel) (pa_cons (pv 6) pa_nil)) (pa_cons (pe_callTy call_tuple_of (by rfl) T.m_tuple (by decide +kernel) (pa_cons (pe_callB Tt.cr_sortedT (by rfl) T.m_sorted (by decide +kernel) (pa_cons (pv 12) pa_nil)) pa_nil)) pa_nil))))))))))))), ?_⟩
    -- size
    refine ⟨.int many, rfl, .ref tp, rfl, tp, 3, rfl, hT, by decide, by decide, fun H1 sz D1 z0 z1 => ⟨1, sz, rfl, rfl, many, 1 + sz, rfl, ?_⟩⟩
    obtain ⟨u1, u3, um⟩ : 1 ≤ (if 1 + sz < many then 1 + sz else many) ∧ (if 1 + sz < many then 1 + sz else many) ≤ 3 ∧ (if 1 + sz < many then 1 + sz else many) ≤ many := by split <;> omega
    generalize (if 1 + sz < many then 1 + sz else many) = size at u1 u3 um
    -- left
    refine ⟨.int many, rfl, many, rfl, ⟨by omega, by omega, by omega, by omega, by omega⟩, fun l nl => ?_⟩
    have nlt := D1.2.new nl
    have nl0 : H l = none := D1.free nl
    have E3 := D1.put (o := .lst (rgV 0 many)) nl0 nlt
    have hl3 : upd H1 l (.lst (rgV 0 many)) l = some (.lst (rgV 0 many)) := upd_same
    generalize upd H1 l (.lst (rgV 0 many)) = H3 at E3 hl3
    -- places
    refine ⟨.int size, rfl, size, rfl, by omega, by omega, fun D nD => ?_⟩
    have nDt := E3.2.new nD
    have nD0 : H D = none := E3.free nD
    have nlD : l ≠ D := ne_of_none hl3 nD
    refine lc_range (lo := 0) (n := size.toNat) (fun i H5 => ∃ acc ls, Pops V.int tp H l D (rngI many) i H5 acc ls) ⟨[], rngI many, E3.put nD0 nDt, ?_, upd_same, rfl, by simp, List.Perm.refl _⟩ (fun i H5 hi p => ?_) (fun H5 p => ?_)
    · rw [upd_ne nlD, hl3, rgV_eq]
    · obtain ⟨acc, ls, p⟩ := p
      have ll := p.ll
      have rl := rngI_len many
      refine ⟨rfl, yes_if ?_⟩
      refine ⟨.ref l, rfl, .inl ⟨rfl, _, .inl (.inl p.hL)⟩, .ref tp, rfl, .ref l, rfl, l, _, rfl, .inl (.inl (.inl p.hL)), tp, _, rfl, p.fr.2, by rw [List.length_map]; omega, by rw [List.length_map]; exact log_small (by omega) (by omega), fun H6 d D6 d0 d1 => ?_⟩
      rw [List.length_map] at d1
      obtain ⟨y, y1, y2, y3, acc', y4, y5, acc2, ls2, y6⟩ := pop_step nl0 nlt nD0 nDt nlD (by omega) p D6 d0 d1
      exact ⟨l, ls.map V.int, d, d.toNat, y, rfl, rfl, y2, by omega, by omega, y3, y1, acc', y4, y5, acc2, ls2, y6⟩
    · obtain ⟨acc, ls, ⟨E5, hL, hD, la, ll, pm⟩⟩ := p
      refine ⟨D, acc, rfl, .inl (.inl hD), by omega, fun ps lp perm rising nlp => ?_⟩
      have anod : acc.Nodup := (List.nodup_append.mp (pm.nodup_iff.mpr (rngI_nodup many))).1
      have psn : ps.Nodup := perm.nodup_iff.mpr anod
      have accb : ∀ z ∈ acc, 0 ≤ z ∧ z < many := fun z hz => rngI_mem (pm.mem_iff.mp (List.mem_append_left _ hz))
      have psb : ∀ z ∈ ps, 0 ≤ z ∧ z < many := fun z hz => accb z (perm.mem_iff.mp hz)
      have psl : ps.length = size.toNat := by rw [perm.length_eq, la]
      have prise := rise_of rising psn
      have nlpt := E5.2.new nlp
      have nlp0 : H lp = none := E5.free nlp
      have E6 := E5.put (o := .lst (ps.map V.int)) nlp0 nlpt
      have hp6 : upd H5 lp (.lst (ps.map V.int)) lp = some (.lst (ps.map V.int)) := upd_same
      generalize upd H5 lp (.lst (ps.map V.int)) = H6 at E6 hp6
      clear hL hD la ll pm accb perm nD nDt nD0 nlD hl3
      -- every
      refine ⟨(by show 0 ≤ sizeLine; decide), fun t nt => ⟨(by show 1 ≤ sizeLine; decide), fun l1 nl1 => ?_⟩⟩
      have st := same_upd (o := .tup []) nt
      have sl := same_upd (o := .lst [.ref t]) nl1
      have hn6 : ∀ b, H6 b = none → H b = none := fun b e => E6.free e
      refine ⟨.ref lp, rfl, lp, rfl, ⟨_, .inl (.inl ((st.trans sl) _ _ hp6))⟩, for_list (K := K) (a := lp) (xs := ps.map V.int) (fun i σ H3 => Same H6 H3 ∧ ∃ l0, H6 l0 = none ∧ IsFills H3 l0 (fillL hues.toNat i) ∧ ∃ y8 y9 y10, σ = [some (.ref tp), some (.int many), some (.int hues), some (.int most), some (.int size), some (.ref l), some (.ref lp), some (.ref l0), y8, y9, y10, none, none, none, none]) ⟨st.trans sl, l1, st.free nl1, ⟨[t], upd_same, .cons (sl _ _ upd_same) .nil⟩, none, none, none, rfl⟩ (fun i σ H3 _ p => .inl (.inl (p.1 _ _ hp6))) (fun i x σ H3 hx p => ?_) (fun σ H3 p => ?_)⟩
      · obtain ⟨sm, l0, nl0', ⟨as, hl, pr⟩, y8, y9, y10, rfl⟩ := p
        have hi : i < ps.length := by
          have := (List.getElem?_eq_some_iff.mp hx).1
          rw [List.length_map] at this
          exact this
        have flen := fill_len hues.toNat i
        have p4 : hues.toNat ^ i ≤ 4096 := pow_le_4096 (by omega) (by omega)
        have alen := pairedLen pr
        refine ⟨(by show 0 ≤ sizeLine; decide), fun L nL => ?_⟩
        have nLH : H6 L = none := sm.free nL
        refine ⟨.ref l0, rfl, l0, rfl, ⟨_, .inl (.inl (same_upd nL _ _ hl))⟩, for_list (K := K) (a := l0) (xs := as.map V.ref) (fun i2 σ H5 => Same H3 H5 ∧ IsFills H5 L (((fillL hues.toNat i).take i2).flatMap (longer hues.toNat)) ∧ ∃ y8 y10, σ = [some (.ref tp), some (.int many), some (.int hues), some (.int most), some (.int size), some (.ref l), some (.ref lp), some (.ref l0), y8, some (.ref L), y10, none, none, none, none]) ⟨same_upd nL, ⟨[], upd_same, .nil⟩, _, _, rfl⟩ (fun i2 σ H5 _ pp => .inl (.inl (pp.1 _ _ hl))) (fun i2 x σ H5 hx pp => ?_) (fun σ H5 pp => ?_)⟩
        · obtain ⟨a, ea, rfl⟩ := map_get hx
          obtain ⟨fl, hfl, isr⟩ := pairedGetL pr ea
          obtain ⟨s5, ⟨bs, hL, pb⟩, z2, z4, rfl⟩ := pp
          have blen := pairedLen pb
          refine ⟨.ref L, rfl, .inl ⟨rfl, _, .inl (.inl hL)⟩, .int hues, rfl, hues, rfl, by omega, by omega, fun D nD => lc_range (lo := 0) (n := hues.toNat) (fun j H6 => Same H5 H6 ∧ IsFills H6 D ((longer hues.toNat fl).take j)) ⟨same_upd nD, [], upd_same, .nil⟩ (fun j H6 hj pp => ?_) (fun H6 pp => ?_)⟩
          · obtain ⟨s6, cs, hb, pc⟩ := pp
            have clen := pairedLen pc
            have fin : ∀ (H7 : Hp) (r : Addr), Same H6 H7 → H7 r = some (.tup ((fl ++ [(j : Int)]).map V.int)) → ∃ acc, H7 D = some (.lst acc) ∧ acc.length < sizeLine ∧ (Same H5 (upd H7 D (.lst (acc ++ [.ref r]))) ∧ IsFills (upd H7 D (.lst (acc ++ [.ref r]))) D ((longer hues.toNat fl).take (j + 1))) := fun H7 r s7 hr7 => by
              have hD7 := s7 _ _ hb
              have tu : Tups H7 (upd H7 D (.lst (cs.map V.ref ++ [.ref r]))) := tups_upd fun xs z => by rw [hD7] at z; cases z
              refine ⟨_, hD7, ?_, fun b o e => ?_, cs ++ [r], ?_, ?_⟩
              · rw [List.length_map, clen, List.length_take, longer_len]
                exact small1000 (by omega)
              · rw [upd_ne (ne_of_none e nD)]
                exact s7 _ _ (s6 b o e)
              · rw [upd_same, List.map_append]
                rfl
              · rw [take_snoc (longer_at fl hj)]
                exact pairedSnoc (pairedMap (fun _ _ e => tu _ _ (s7 _ _ e)) pc) (tu _ _ hr7)
            refine ⟨rfl, yes_if ?_⟩
            refine ⟨.ref a, rfl, .int (0 + (j : Int)), rfl, (by show 1 ≤ sizeLine; decide), fun t nt => ?_⟩
            have sT := same_upd (o := .tup [.int (0 + (j : Int))]) nt
            have ha : upd H6 t (.tup [.int (0 + (j : Int))]) a = some (.tup (fl.map V.int)) := sT _ _ (s6 _ _ (s5 _ _ isr))
            have e0 : (0 : Int) + (j : Int) = j := Int.zero_add _
            have flen2 := (fill_good (List.mem_of_getElem? hfl)).1
            refine ⟨a, t, _, _, rfl, rfl, .inl (.inl ha), .inl (.inl upd_same), ?_, fun z => ?_, (fun _ z => nomatch z), fun z _ p np => ?_⟩
            · rw [List.length_map, flen2]
              exact Nat.le_of_lt (small1000 (by show i + 1 ≤ 1000; omega))
            · have z2 : fl = [] := List.map_eq_nil_iff.mp z
              refine fin _ t sT ?_
              rw [upd_same, z2, e0]
              rfl
            · have sp := same_upd (o := .tup (fl.map V.int ++ [.int (0 + (j : Int))])) np
              refine fin _ p (sT.trans sp) ?_
              rw [upd_same, e0, List.map_append]
              rfl
          · obtain ⟨s6, cs, hb, pc⟩ := pp
            rw [List.take_of_length_le (by rw [longer_len]; exact Nat.le_refl _)] at pc
            have hL6 := s6 _ _ hL
            have clen := pairedLen pc
            have tu : Tups H6 (upd H6 L (.lst (bs.map V.ref ++ cs.map V.ref))) := tups_upd fun xs z => by rw [hL6] at z; cases z
            refine ⟨L, D, _, _, rfl, rfl, hL6, hb, ?_, fun b o e => ?_, ⟨bs ++ cs, ?_, ?_⟩, _, _, rfl⟩
            · rw [List.length_map, List.length_map, blen, clen, flat_len, List.length_take, longer_len, flen]
              have : min i2 (hues.toNat ^ i) * hues.toNat ≤ 4096 * 4 := Nat.mul_le_mul (by omega) (by omega)
              exact Nat.le_trans (show _ ≤ 20000 by omega) (by decide)
            · rw [upd_ne (ne_of_none e nL)]
              exact s6 _ _ (s5 b o e)
            · rw [upd_same, List.map_append]
            · rw [take_snoc hfl, List.flatMap_append]
              refine pairedApp (pairedMap (fun _ _ e => tu _ _ (s6 _ _ e)) pb) ?_
              have e : [fl].flatMap (longer hues.toNat) = longer hues.toNat fl := by simp
              rw [e]
              exact pairedMap (fun _ _ e => tu _ _ e) pc
        · obtain ⟨s5, fs5, z2, z4, rfl⟩ := pp
          refine ⟨.ref L, rfl, sm.trans s5, L, nLH, ?_, _, _, _, rfl⟩
          rw [List.length_map, alen, List.take_length] at fs5
          exact fs5
      · obtain ⟨sm, le, nle6, ⟨as, hle, pr⟩, y8, y9, y10, rfl⟩ := p
        rw [List.length_map, psl] at pr
        have E7 := E6.same sm
        have hp7 := sm _ _ hp6
        have nle0 := hn6 _ nle6
        have nlet : le ≠ tp := E6.2.new nle6
        have nlpe : lp ≠ le := ne_of_none hp6 nle6
        obtain ⟨zs0, ez1, ez2, hzs⟩ := pairedZip pr
        have zlen : zs0.length = hues.toNat ^ size.toNat := by
          have := congrArg List.length ez2
          rw [List.length_map, fill_len] at this
          exact this
        have z64 : zs0.length ≤ 64 := by rw [zlen]; exact pow64 (by omega) (by omega)
        have z1p : 1 ≤ zs0.length := by rw [zlen]; exact Nat.pow_pos (by omega)
        have asl : as.length = zs0.length := by rw [← ez1, List.length_map]
        -- count
        refine ⟨.ref le, rfl, le, _, rfl, .inl (.inl (.inl hle)), .ref tp, rfl, .int most, rfl, tp, most, rfl, E7.2, o1, log_small (by omega) (by omega), fun H8 ct D8 c0 c1 => ⟨1, ct, rfl, rfl, _, 1 + ct, rfl, ?_⟩⟩
        rw [List.length_map, asl]
        obtain ⟨v1, v2⟩ : 1 ≤ (if 1 + ct < (zs0.length : Int) then 1 + ct else (zs0.length : Int)) ∧ (if 1 + ct < (zs0.length : Int) then 1 + ct else (zs0.length : Int)) ≤ zs0.length := by split <;> omega
        generalize (if 1 + ct < (zs0.length : Int) then 1 + ct else (zs0.length : Int)) = cnt0 at v1 v2
        have E8 := E7.trans D8
        have hle8 := D8.1 le _ nlet hle
        have hp8 := D8.1 lp _ nlpt hp7
        have tu8 : Tups H3 H8 := D8.tups E7.2
        refine ⟨fun σ Hc => Taped tp H Hc ∧ Hc le = some (.lst (as.map V.ref)) ∧ Hc lp = some (.lst (ps.map V.int)) ∧ Tups H3 Hc ∧ ∃ cnt, 1 ≤ cnt ∧ cnt ≤ (zs0.length : Int) ∧ ∃ y8 y9 y10, σ = [some (.ref tp), some (.int many), some (.int hues), some (.int most), some (.int size), some (.ref l), some (.ref lp), some (.ref le), y8, y9, y10, some (.int cnt), none, none, none], ?_, ?_⟩
        · refine ⟨.ref tp, rfl, tp, 12, rfl, E8.2, by decide, by decide, fun H9 d D9 d0 d1 => ⟨rfl, _, rfl, ite2 (fun _ => ?_) (fun _ => ?_)⟩⟩
          · have E9 := E8.trans D9
            have hle9 := D9.1 le _ nlet hle8
            refine ⟨.ref tp, rfl, .ref le, rfl, le, _, rfl, .inl (.inl (.inl hle9)), tp, _, rfl, E9.2, by rw [List.length_map]; omega, by rw [List.length_map]; exact log_small (by omega) (by omega), fun H10 d2 D10 e0 e1 => ⟨1, d2, rfl, rfl, ?_⟩⟩
            rw [List.length_map] at e1
            exact ⟨E9.trans D10, D10.1 le _ nlet hle9, D10.1 lp _ nlpt (D9.1 lp _ nlpt hp8), tu8.trans ((D9.tups E8.2).trans (D10.tups E9.2)), 1 + d2, by omega, by omega, _, _, _, rfl⟩
          · exact ⟨E8.trans D9, D9.1 le _ nlet hle8, D9.1 lp _ nlpt hp8, tu8.trans (D9.tups E8.2), cnt0, v1, v2, _, _, _, rfl⟩
        · rintro σ Hc ⟨Ec, hlec, hpc, tuc, cnt, n1, n2, w8, w9, w10, rfl⟩
          -- rows
          refine ⟨.int cnt, rfl, cnt, rfl, by omega, by omega, fun D nD => ?_⟩
          have nDt := Ec.2.new nD
          have nD0 : H D = none := Ec.free nD
          have nlD : le ≠ D := ne_of_none hlec nD
          refine lc_range (lo := 0) (n := cnt.toNat) (fun i H5 => (∃ acc ls, Pops (fun z : Addr × List Int => V.ref z.1) tp H le D zs0 i H5 acc ls) ∧ Tups H3 H5 ∧ H5 lp = some (.lst (ps.map V.int))) ⟨⟨[], zs0, Ec.put nD0 nDt, ?_, upd_same, rfl, by simp, List.Perm.refl _⟩, tuc.trans (tups_same (same_upd nD)), same_upd nD _ _ hpc⟩ (fun i H5 hi p => ?_) (fun H5 p => ?_)
          · rw [upd_ne nlD, hlec, ← ez1, List.map_map]
            rfl
          · obtain ⟨⟨acc, ls, p⟩, tu5, hp5⟩ := p
            have ll := p.ll
            refine ⟨rfl, yes_if ?_⟩
            refine ⟨.ref le, rfl, .inl ⟨rfl, _, .inl (.inl p.hL)⟩, .ref tp, rfl, .ref le, rfl, le, _, rfl, .inl (.inl (.inl p.hL)), tp, _, rfl, p.fr.2, by rw [List.length_map]; omega, by rw [List.length_map]; exact log_small (by omega) (by omega), fun H6' d D6 d0 d1 => ?_⟩
            rw [List.length_map] at d1
            obtain ⟨y, y1, y2, y3, acc', y4, y5, acc2, ls2, y6⟩ := pop_step nle0 nlet nD0 nDt nlD (by omega) p D6 d0 d1
            have nlpD : lp ≠ D := ne_of_none hpc nD
            have hD6 := y4
            refine ⟨le, ls.map _, d, d.toNat, y, rfl, rfl, y2, by omega, by omega, y3, y1, acc', y4, y5, ⟨acc2, ls2, y6⟩, ?_, ?_⟩
            · refine tu5.trans ((D6.tups p.fr.2).trans ((tups_upd fun xs z => by rw [y2] at z; cases z).trans (tups_upd fun xs z => by rw [y4] at z; cases z)))
            · rw [upd_ne nlpD, upd_ne nlpe]
              exact D6.1 lp _ nlpt hp5
          · obtain ⟨⟨acc, ls, p⟩, tu5, hp5⟩ := p
            have rowsAt : ∀ z ∈ acc, IsRow H5 z.1 z.2 := fun z hz => tu5 _ _ (hzs z (p.pm.mem_iff.mp (List.mem_append_left _ hz)))
            have accIn : ∀ z ∈ acc, z.2 ∈ fillL hues.toNat size.toNat := fun z hz => by
              rw [← ez2]
              exact List.mem_map.mpr ⟨z, p.pm.mem_iff.mp (List.mem_append_left _ hz), rfl⟩
            have accNd : (acc.map (·.2)).Nodup := by
              have a1 : ((acc ++ ls).map (·.2)).Perm (zs0.map (·.2)) := p.pm.map _
              rw [ez2, List.map_append] at a1
              exact (List.nodup_append.mp (a1.nodup_iff.mpr (fill_nodup _ _))).1
            -- the wish
            refine ⟨.ref lp, rfl, lp, _, rfl, .inl ⟨.inl (.inl hp5), fun t1 nt1 => ?_⟩⟩
            have q1 := same_upd (o := .tup (ps.map V.int)) nt1
            generalize hH6 : upd H5 t1 (.tup (ps.map V.int)) = H7 at q1
            have ht1 : H7 t1 = some (.tup (ps.map V.int)) := by rw [← hH6]; exact upd_same
            have hD7 := q1 _ _ p.hD
            have rows7 : ∀ z ∈ acc, IsRow H7 z.1 z.2 := fun z hz => q1 _ _ (rowsAt z hz)
            have eqr : acc.map (fun z => rowAt H7 z.1) = acc.map (·.2) := List.map_congr_left fun z hz => rowAt_of (rows7 z hz)
            refine ⟨.ref D, rfl, D, acc.map (·.1), rowAt H7, ps.length, hues, rfl, .inl (.inl (by rw [hD7, List.map_map]; rfl)), by omega, fun t ht => ?_, fun ts' so pm pw nso => ?_⟩
            · obtain ⟨z, hz, rfl⟩ := List.mem_map.mp ht
              have fg := fill_good (accIn z hz)
              rw [rowAt_of (rows7 z hz)]
              exact ⟨rows7 z hz, by omega, fun h hh => by have := fg.2 h hh; omega⟩
            have q2 := same_upd (o := .lst (ts'.map V.ref)) nso
            refine ⟨so, _, rfl, .inl ⟨.inl (.inl upd_same), fun t2 nt2 => ?_⟩⟩
            have q3 := q2.trans (same_upd (o := .tup (ts'.map V.ref)) nt2)
            refine ⟨(by show 2 ≤ sizeLine; decide), fun wa nwa => ?_⟩
            have q4 := same_upd (o := .tup [.ref t1, .ref t2]) nwa
            have q5 := q3.trans q4
            have permR : (ts'.map (rowAt H7)).Perm (acc.map (·.2)) := by
              have := pm.map (rowAt H7)
              rw [List.map_map] at this
              rw [← eqr]
              exact this
            have hts : ∀ t ∈ ts', IsRow H7 t (rowAt H7 t) := fun t ht => by
              obtain ⟨z, hz, rfl⟩ := List.mem_map.mp (pm.mem_iff.mp ht)
              rw [rowAt_of (rows7 z hz)]
              exact rows7 z hz
            have la := p.la
            have lr : (ts'.map (rowAt H7)).length = cnt.toNat := by rw [permR.length_eq, List.length_map, la]
            refine q _ wa (ps, ts'.map (rowAt H7)) ((p.fr.same q1).same q5) ⟨t1, t2, ts', upd_same, q5 _ _ ht1, q4 _ _ upd_same, pairedMap (fun _ _ e => q5 _ _ e) (pairedOf hts)⟩ ⟨?_, ?_, psb, ?_, ?_, fun r hr => ?_⟩ ⟨prise, permR.nodup_iff.mpr accNd⟩
            · show 1 ≤ ps.length
              omega
            · show ps.length ≤ 3
              omega
            · show 1 ≤ (ts'.map (rowAt H7)).length
              omega
            · show (ts'.map (rowAt H7)).length ≤ 64
              omega
            · obtain ⟨z, hz, rfl⟩ := List.mem_map.mp (permR.mem_iff.mp hr)
              have fg := fill_good (accIn z hz)
              refine ⟨?_, fun h hh => ?_⟩
              · show z.2.length = ps.length
                omega
              · have := fg.2 h hh
                omega
end
end Rd

set_option Elab.async false
set_option linter.all false
set_option maxRecDepth 100000
set_option maxHeartbeats 4000000
namespace Rd
open PySem PySem.Spec PyProof.Rows L2 Dt
abbrev sSzs : Stmt := topS 18
abbrev nSzs : List Str := ["tape", "small", "some"]
theorem scSzs : FnScope nSzs ["tape", "small"] (defScope sSzs) := ⟨rfl, rfl, rfl, by decide +kernel, rfl, by decide +kernel, by decide +kernel⟩
abbrev sRid : Stmt := topS 19
abbrev nRid : List Str := ["tape", "small", "many", "hues", "wishes", "k"]
theorem scRid : FnScope nRid ["tape", "small"] (defScope sRid) := ⟨rfl, rfl, rfl, by decide +kernel, rfl, by decide +kernel, by decide +kernel⟩
abbrev sTab : Stmt := topS 20
abbrev nTab : List Str := ["tape", "riddle", "most", "found", "place", "k"]
theorem scTab : FnScope nTab ["tape", "riddle", "most"] (defScope sTab) := ⟨rfl, rfl, rfl, by decide +kernel, rfl, by decide +kernel, by decide +kernel⟩
abbrev sOrd : Stmt := topS 21
abbrev nOrd : List Str := ["tape", "many", "left", "k"]
theorem scOrd : FnScope nOrd ["tape", "many"] (defScope sOrd) := ⟨rfl, rfl, rfl, by decide +kernel, rfl, by decide +kernel, by decide +kernel⟩
def szOk (p : Int × Int) : Prop := 1 ≤ p.1 ∧ p.1 ≤ 6 ∧ 2 ≤ p.2 ∧ p.2 ≤ 4 ∧ p.2.toNat ^ p.1.toNat ≤ 256
def szA : List (Int × Int) := [(3, 2), (2, 3), (4, 2), (3, 3), (5, 2), (2, 2), (2, 4), (1, 3), (1, 2), (1, 4), (2, 3), (3, 2)]
def szB : List (Int × Int) := [(6, 2), (4, 3), (3, 4), (5, 3), (4, 4), (5, 2), (3, 3), (4, 2), (2, 4), (6, 2), (1, 2), (5, 2)]
theorem szA_ok : ∀ p ∈ szA, szOk p := by unfold szOk szA; decide
theorem szB_ok : ∀ p ∈ szB, szOk p := by unfold szOk szB; decide
def spSzs : Sp := fun vs H Q _ => ∃ (tp : Addr) (sm : Bool), vs = [.ref tp, .bl sm] ∧ Tape H tp ∧ ∀ H' t many hues, Taped tp H H' → H' t = some (.tup [.int many, .int hues]) → szOk (many, hues) → Q (.ref t) H'
def spRid : Sp := fun vs H Q _ => ∃ (tp : Addr) (sm : Bool), vs = [.ref tp, .bl sm] ∧ Tape H tp ∧
  ∀ H' ri many hues wds, Taped tp H H' → IsRid H' ri many hues wds → GoodR many hues wds → (∀ wd ∈ wds, Neat wd) → szOk (many, hues) → Q (.ref ri) H'
def spTab : Sp := fun vs H Q _ => ∃ (tp ri : Addr) (many hues most : Int) (z : V), vs = [.ref tp, .ref ri, .int most] ∧ Tape H tp ∧ H ri = some (.tup [.int many, .int hues, z]) ∧ 1 ≤ many ∧ many ≤ 6 ∧ 2 ≤ hues ∧ hues ≤ 4 ∧ 1 ≤ most ∧ most ≤ 900 ∧
  ∀ H' ta tb, Taped tp H H' → IsTab (Old H) H' ta tb → GoodT many hues tb → (∀ ds ∈ tb, (ds.length : Int) ≤ most) → Q (.ref ta) H'
def spOrd : Sp := fun vs H Q _ => ∃ (tp : Addr) (n : Int), vs = [.ref tp, .int n] ∧ Tape H tp ∧ 0 ≤ n ∧ n ≤ 20 ∧
  ∀ H' oa ord, Taped tp H H' → H' oa = some (.tup (ord.map V.int)) → GoodO n.toNat ord → ord.Perm (rngI n) → Q (.ref oa) H'
structure TxtR (P : Program) (w : World) (K : PySem.W.Frag) (mg : Str → Option Value) (base : Heap) : Prop extends TxtW P w K mg base where
  c__law_wish : Cal P w K mg base 2 "_law_wish" ["tape", "many", "hues", "most"] spWis
  c__law_sizes : Cal P w K mg base 2 "_law_sizes" ["tape", "small"] spSzs
theorem goodO_of {n : Int} {ord : List Int} (h0 : 0 ≤ n) (p : ord.Perm (rngI n)) : GoodO n.toNat ord := by
  refine ⟨fun z hz => ?_, fun k hk => ?_, ?_⟩
  · have := rngI_mem (p.mem_iff.mp hz)
    omega
  · exact p.mem_iff.mpr (rngI_all (by omega))
  · rw [p.length_eq, rngI_len]
    exact Nat.le_refl _
section
variable {P : Program} {w : World} {K : PySem.W.Frag} {mg : Str → Option Value} {base : Heap}
theorem ok_szs {f : Addr} {fd : FuncData} {k : Nat} (F : Fun K "_law_sizes" "_law_sizes" sSzs f fd) (T : TxtW P w K mg base) : FnOk P w K mg base CX0 (k + 2) f fd ["tape", "small"] spSzs := by
  refine F.ok scSzs (fun vs H Q E h => ?_) (fun cdv A outer s H vs Q E hr h => ?_)
  · obtain ⟨tp, sm, rfl, _⟩ := h
    rfl
  · obtain ⟨tp, sm, rfl, hT, q⟩ := h
    refine ⟨_, (pss_cons (ps_set (i := 2) scSzs.nd rfl (Or.inl rfl) (show PE _ _ (tLst (pairsT szA)) from (pe_lst (pa_cons (pe_tup (pa_cons pe_int (pa_cons pe_int pa_nil))) (pa_cons (pe_tup (pa_cons pe_int (pa_cons pe_int pa_nil))) (pa_cons (pe_tup (pa_cons pe_int (pa_cons pe_int pa_nil))) (pa_cons (pe_tup (pa_cons pe_int (pa_cons pe_int pa_nil))) (pa_cons (pe_tup (pa_cons pe_int (pa_cons pe_int pa_nil))) (pa_cons (pe_tup (pa_cons pe_int (pa_cons pe_int pa_nil))) (pa_cons (pe_tup (pa_cons pe_int (pa_cons pe_int pa_nil))) (pa_cons (pe_tup (pa_cons pe_int (pa_cons pe_int pa_nil))) (pa_cons (pe_tup (pa_cons pe_int (pa_cons pe_int pa_nil))) (pa_cons (pe_tup (pa_cons pe_int (pa_cons pe_int pa_nil))) (pa_cons (pe_tup (pa_cons pe_int (pa_cons pe_int pa_nil))) (pa_cons (pe_tup (pa_cons pe_int (pa_cons pe_int pa_nil))) pa_nil)))))))))))))))
  (C8.pss_cut (ps_if (pt_not (pt_val (pv 1)))
  (pss_one (ps_set (i := 2) scSzs.nd rfl (Or.inl rfl) (show PE _ _ (tLst (pairsT szB)) from (pe_lst (pa_cons (pe_tup (pa_cons pe_int (pa_cons pe_int pa_nil))) (pa_cons (pe_tup (pa_cons pe_int (pa_cons pe_int pa_nil))) (pa_cons (pe_tup (pa_cons pe_int (pa_cons pe_int pa_nil))) (pa_cons (pe_tup (pa_cons pe_int (pa_cons pe_int pa_nil))) (pa_cons (pe_tup (pa_cons pe_int (pa_cons pe_int pa_nil))) (pa_cons (pe_tup (pa_cons pe_int (pa_cons pe_int pa_nil))) (pa_cons (pe_tup (pa_cons pe_int (pa_cons pe_int pa_nil))) (pa_cons (pe_tup (pa_cons pe_int (pa_cons pe_int pa_nil))) (pa_cons (pe_tup (pa_cons pe_int (pa_cons pe_int pa_nil))) (pa_cons (pe_tup (pa_cons pe_int (pa_cons pe_int pa_nil))) (pa_cons (pe_tup (pa_cons pe_int (pa_cons pe_int pa_nil))) (pa_cons (pe_tup (pa_cons pe_int (pa_cons pe_int pa_nil))) pa_nil)))))))))))))))) pss_nil)
  (pss_one (ps_ret (pe_ix ix_list (pv 2) (pe_cal T.c__law_digit (hr.mono (by omega)) (by rfl) (pa_cons (pv 0) (pa_cons pe_int pa_nil))) (fun _ _ => rfl)))))), ?_⟩
    refine pairs_set (prs := szA) (by decide) fun l ts H1 s1 nl hl pr => ?_
    refine ⟨fun σ H' => Same H H' ∧ ∃ l ts prs, H l = none ∧ H' l = some (.lst (ts.map V.ref)) ∧ Paired (IsPr H') ts prs ∧ prs.length = 12 ∧ (∀ p ∈ prs, szOk p) ∧ σ = [some (.ref tp), some (.bl sm), some (.ref l)], ?_, ?_⟩
    · refine ⟨.bl sm, rfl, sm, rfl, ite2 (fun e => ?_) (fun e => ?_)⟩
      · refine pairs_asg (prs := szB) (by decide) fun l2 ts2 H2 s2 nl2 hl2 pr2 => ?_
        exact ⟨s1.trans s2, l2, ts2, szB, s1.free nl2, hl2, pr2, rfl, szB_ok, rfl⟩
      · exact ⟨s1, l, ts, szA, nl, hl, pr, rfl, szA_ok, rfl⟩
    · rintro σ H2 ⟨s2, l2, ts2, prs, nl2, hl2, pr2, lp, okp, rfl⟩
      have hT2 := hT.same s2
      have nlt : l2 ≠ tp := hT.new nl2
      refine ⟨.ref l2, rfl, .ref tp, rfl, tp, 12, rfl, hT2, by decide, by decide, fun H3 d D3 d0 d1 => ?_⟩
      have hd : d.toNat < ts2.length := by rw [pairedLen pr2]; omega
      obtain ⟨p, hp, isp⟩ := pairedGetL pr2 (List.getElem?_eq_getElem hd)
      refine ⟨l2, _, d, _, rfl, rfl, .inl (.inl (D3.1 _ _ nlt hl2)), atI_of d0 (List.getElem?_eq_getElem hd), ?_⟩
      exact q H3 _ p.1 p.2 ((Taped.refl hT).same s2 |>.trans D3) (D3.tups hT2 _ _ isp) (okp p (List.mem_of_getElem? hp))
theorem ok_rid {f : Addr} {fd : FuncData} {k : Nat} (F : Fun K "_law_riddle" "_law_riddle" sRid f fd) (T : TxtR P w K mg base) : FnOk P w K mg base CX0 (k + 3) f fd ["tape", "small"] spRid := by
  refine F.ok scRid (fun vs H Q E h => ?_) (fun cdv A outer s H vs Q E hr h => ?_)
  · obtain ⟨tp, sm, rfl, _⟩ := h
    rfl
  · obtain ⟨tp, sm, rfl, hT, q⟩ := h
    refine ⟨_, (pss_cons (ps_asg (pe_cal T.c__law_sizes (hr.mono (by omega)) (by rfl) (pa_cons (pv 0) (pa_cons (pv 1) pa_nil))) (pg_tup rfl (pgs_cons (pg_name (i := 2) scRid.nd rfl (Or.inr rfl)) (pgs_cons (pg_name (i := 3) scRid.nd rfl (Or.inr rfl)) pgs_nil))))
  (pss_cons (ps_setLc (i := 4) (te := tCall spWis [] E0 (tCons (tVar 0) (tCons (tVar 2) (tCons (tVar 3) (tCons (tC (.int 2)) tNil))))) (own := [("k", 5)]) rfl scRid.nd rfl rfl (sw_true rfl rfl rfl (by decide +kernel)) (pi_range1 (by rfl) T.m_range (pa_cons (pe_cal T.c__law_digit (hr.mono (by omega)) (by rfl) (pa_cons (pv 0) (pa_cons pe_int pa_nil))) pa_nil)) (blkOk_by (own := [("k", 5)]) (N := nRid) (sc := defScope sRid) (by decide +kernel))
   (fun _ _ _ _ _ => (pg_name (i := 5) scRid.nd rfl (Or.inl rfl))) (fun _ _ _ _ _ => pts_nil) (fun _ _ _ _ _ => (pe_cal T.c__law_wish (hr.mono (by omega)) (by rfl) (pa_cons (pv 0) (pa_cons (pv 2) (pa_cons (pv 3) (pa_cons pe_int pa_nil)))))))
  (pss_one (ps_ret (pe_tup (pa_cons (pv 2) (pa_cons (pv 3) (pa_cons (pe_callTy call_tuple_of (by rfl) T.m_tuple (by decide +kernel) (pa_cons (pv 4) pa_nil)) pa_nil)))))))), ?_⟩
    refine ⟨.ref tp, rfl, .bl sm, rfl, tp, sm, rfl, hT, fun H1 t many hues D1 ht ok => ?_⟩
    obtain ⟨k1, k6, hh2, hh4, kp⟩ := id ok
    dsimp only at k1 k6 hh2 hh4
    refine ⟨t, _, rfl, .inl (.inl ht), rfl, .int many, [.int hues], rfl, .int hues, [], rfl, rfl, ?_⟩
    refine ⟨.ref tp, rfl, tp, 9, rfl, D1.2, by decide, by decide, fun H2 nn D2 n0 n1 => ⟨nn, rfl, by omega, by omega, fun lw nlw => ?_⟩⟩
    have E2 := D1.trans D2
    have nw := E2.2.new nlw
    have nw0 : H lw = none := E2.free nlw
    refine lc_range (lo := 0) (n := nn.toNat) (fun i H3 => Taped tp H H3 ∧ ∃ (was : List Addr) (wds : List WD), H3 lw = some (.lst (was.map V.ref)) ∧ was.length = i ∧ Paired (IsWish H3) was wds ∧ (∀ wd ∈ wds, Good many hues wd) ∧ ∀ wd ∈ wds, Neat wd) ⟨E2.put nw0 nw, [], [], upd_same, rfl, .nil, (fun _ h => nomatch h), (fun _ h => nomatch h)⟩ (fun i H3 hi p => ?_) (fun H3 p => ?_)
    · obtain ⟨E3, was, wds, hw, lw3, pw, gd, ne⟩ := p
      refine ⟨rfl, yes_if ?_⟩
      refine ⟨.ref tp, rfl, .int many, rfl, .int hues, rfl, tp, many, hues, 2, rfl, E3.2, k1, k6, hh2, hh4, by decide, by decide, fun H4 wa wd D4 isw gw nw2 => ?_⟩
      have hw4 := D4.1 lw _ nw hw
      have tu : Tups H4 (upd H4 lw (.lst (was.map V.ref ++ [.ref wa]))) := tups_upd fun xs z => by rw [hw4] at z; cases z
      refine ⟨_, hw4, ?_, (E3.trans D4).put nw0 nw, was ++ [wa], wds ++ [wd], ?_, ?_, pairedSnoc (pairedMap (fun _ _ e => IsWish.mono ((D4.tups E3.2).trans tu) e) pw) (isw.mono tu), ?_, ?_⟩
      · rw [List.length_map, lw3]
        exact small1000 (by omega)
      · rw [upd_same, List.map_append]
        rfl
      · rw [List.length_append, lw3]
        rfl
      · intro wd' h'
        rcases List.mem_append.mp h' with h' | h'
        · exact gd wd' h'
        · rw [List.mem_singleton.mp h']
          exact gw
      · intro wd' h'
        rcases List.mem_append.mp h' with h' | h'
        · exact ne wd' h'
        · rw [List.mem_singleton.mp h']
          exact nw2
    · obtain ⟨E3, was, wds, hw, lw3, pw, gd, ne⟩ := p
      refine ⟨.int many, rfl, .int hues, rfl, .ref lw, rfl, lw, _, rfl, .inl ⟨.inl (.inl hw), fun wt nwt => ?_⟩⟩
      have st := same_upd (o := .tup (was.map V.ref)) nwt
      refine ⟨(by show 3 ≤ sizeLine; decide), fun ri nri => ?_⟩
      have sr := same_upd (o := .tup [.int many, .int hues, .ref wt]) nri
      refine q _ ri many hues wds ((E3.same st).same sr) ⟨wt, was, upd_same, sr _ _ upd_same, pairedMap (fun _ _ e => IsWish.mono (tups_same (st.trans sr)) e) pw⟩ ⟨k1, k6, hh2, hh4, ?_, gd⟩ ne ok
      rw [← pairedLen pw]
      omega
theorem ok_tab {f : Addr} {fd : FuncData} {k : Nat} (F : Fun K "_law_table" "_law_table" sTab f fd) (T : TxtW P w K mg base) : FnOk P w K mg base CX0 (k + 2) f fd ["tape", "riddle", "most"] spTab := by
  refine F.ok scTab (fun vs H Q E h => ?_) (fun cdv A outer s H vs Q E hr h => ?_)
  · obtain ⟨tp, ri, many, hues, most, z, rfl, _⟩ := h
    rfl
  · obtain ⟨tp, ri, many, hues, most, z, rfl, hT, hri, k1, k6, hh2, hh4, o1, o2, q⟩ := h
    refine ⟨_, (pss_cons (ps_set (i := 3) scTab.nd rfl (Or.inl rfl) (pe_lst pa_nil))
  (pss_cons (ps_for PassesOwn.never rfl (pi_range1 (by rfl) T.m_range (pa_cons (pe_ix ix_tup (pv 1) pe_int (fun _ _ => rfl)) pa_nil)) (pg_name (i := 4) scTab.nd rfl (Or.inl rfl))
  (pss_one (ps_expr (pe_bm PySem.F.plainAttrs_list PySem.F.slot_list_append PySem.F.type_list_append mt_append (pv 3) (pa_cons (pe_lc (te := tCall spDig [] E0 (tCons (tVar 0) (tCons (tOp (rIxT K) (tVar 1) (tC (.int 1))) tNil))) (own := [("k", 5)]) rfl scTab.nd  (pi_range1 (by rfl) T.m_range (pa_cons (pe_op op_add pe_int (pe_cal T.c__law_digit (hr.mono (by omega)) (by rfl) (pa_cons (pv 0) (pa_cons (pv 2) pa_nil)))) pa_nil)) (blkOk_by (own := [("k", 5)]) (N := nTab) (sc := defScope sTab) (by decide +kernel))
   (fun _ _ _ _ _ => (pg_name (i := 5) scTab.nd rfl (Or.inl rfl))) (fun _ _ _ _ _ => pts_nil) (fun _ _ _ _ _ => (pe_cal T.c__law_digit (hr.mono (by omega)) (by rfl) (pa_cons (pv 0) (pa_cons (pe_ix ix_tup (pv 1) pe_int (fun _ _ => rfl)) pa_nil))))) pa_nil)))))
  (pss_one (ps_ret (pv 3))))), ?_⟩
    refine ⟨(by show 0 ≤ sizeLine; decide), fun ta nta => ?_⟩
    have sta := same_upd (o := .lst []) nta
    have nt := hT.new nta
    refine ⟨.ref ri, rfl, ri, _, 0, _, rfl, rfl, .inl (.inl (sta _ _ hri)), atI_nat (j := 0) rfl, many, rfl, by omega, by omega, for_range (lo := 0) (n := many.toNat) (fun i σ H3 => Taped tp H H3 ∧ (∃ (das : List Addr) (tb : List (List Int)), H3 ta = some (.lst (das.map V.ref)) ∧ das.length = i ∧ (∀ d ∈ das, H d = none ∧ d ≠ ta) ∧ Paired (IsInts H3) das tb ∧ ∀ ds ∈ tb, 1 ≤ ds.length ∧ (ds.length : Int) ≤ most ∧ ∀ h ∈ ds, 0 ≤ h ∧ h < hues) ∧ ∃ y4, σ = [some (.ref tp), some (.ref ri), some (.int most), some (.ref ta), y4, none]) ⟨(Taped.refl hT).same sta, ⟨[], [], upd_same, rfl, (fun _ h => nomatch h), .nil, (fun _ h => nomatch h)⟩, none, rfl⟩ (fun i σ H3 hi p => ?_) (fun σ H3 p => ?_)⟩
    · obtain ⟨E3, ⟨das, tb, hta, dl, fr, pr, gd⟩, y4, rfl⟩ := p
      have hri3 := E3.tups hT _ _ hri
      refine ⟨.ref ta, rfl, .inl ⟨rfl, _, .inl (.inl hta)⟩, .ref tp, rfl, .int most, rfl, tp, most, rfl, E3.2, o1, log_small (by omega) (by omega), fun H4 ct D4 c0 c1 => ⟨1, ct, rfl, rfl, 1 + ct, rfl, by omega, by omega, fun D nD => ?_⟩⟩
      have E4 := E3.trans D4
      have nDt := E4.2.new nD
      have nD0 : H D = none := E4.free nD
      have hta4 := D4.1 ta _ nt hta
      have nDa : D ≠ ta := (ne_of_none hta4 nD).symm
      have nDd : ∀ d ∈ das, d ≠ D := fun d hd e => by
        obtain ⟨j, hj⟩ := List.getElem?_of_mem hd
        obtain ⟨row, _, e2⟩ := pairedGetL pr hj
        have e3 := D4.1 d _ (hT.new (fr d hd).1) e2
        rw [e, nD] at e3
        cases e3
      refine lc_range (lo := 0) (n := (1 + ct).toNat) (fun j H5 => Taped tp H H5 ∧ Taped tp H4 H5 ∧ ∃ ds : List Int, H5 D = some (.lst (ds.map V.int)) ∧ ds.length = j ∧ ∀ h ∈ ds, 0 ≤ h ∧ h < hues) ⟨E4.put nD0 nDt, (Taped.refl E4.2).same (same_upd nD), [], upd_same, rfl, (fun _ h => nomatch h)⟩ (fun j H5 hj pp => ?_) (fun H5 pp => ?_)
      · obtain ⟨E5, D5, ds, hD, ld, gh⟩ := pp
        refine ⟨rfl, yes_if ?_⟩
        refine ⟨.ref tp, rfl, .ref ri, rfl, ri, _, 1, _, rfl, rfl, .inl (.inl (E5.tups hT _ _ hri)), atI_nat (j := 1) rfl, tp, hues, rfl, E5.2, by omega, log_small (by omega) (by omega), fun H6 d D6 d0 d1 => ?_⟩
        refine ⟨_, D6.1 D _ nDt hD, ?_, (E5.trans D6).put nD0 nDt, (D5.trans D6).put nD nDt, ds ++ [d], ?_, ?_, ?_⟩
        · rw [List.length_map, ld]
          exact small1000 (by omega)
        · rw [upd_same, List.map_append]
          rfl
        · rw [List.length_append, ld]
          rfl
        · intro h hh
          rcases List.mem_append.mp hh with hh | hh
          · exact gh h hh
          · rw [List.mem_singleton.mp hh]
            exact ⟨d0, d1⟩
      · obtain ⟨E5, D5, ds, hD, ld, gh⟩ := pp
        have hta5 := D5.1 ta _ nt hta4
        refine ⟨ta, _, .ref D, rfl, rfl, hta5, ?_, E5.put nta nt, ⟨das ++ [D], tb ++ [ds], ?_, ?_, ?_, ?_, ?_⟩, _, rfl⟩
        · rw [List.length_map, dl]
          exact small1000 (by omega)
        · rw [upd_same, List.map_append]
          rfl
        · rw [List.length_append, dl]
          rfl
        · intro d hd
          rcases List.mem_append.mp hd with hd | hd
          · exact fr d hd
          · rw [List.mem_singleton.mp hd]
            exact ⟨nD0, nDa⟩
        · refine pairedSnoc ?_ (by show upd _ ta _ D = _; rw [upd_ne nDa]; exact hD)
          have q1 : ∀ {l m}, (∀ d ∈ l, H d = none ∧ d ≠ ta) → Paired (IsInts H3) l m → Paired (IsInts (upd H5 ta (.lst (das.map V.ref ++ [.ref D])))) l m := by
            intro l m fl pp
            induction pp with
            | nil => exact .nil
            | @cons a b l m e t ih => exact .cons (by
                show upd H5 ta _ a = _
                rw [upd_ne (fl a List.mem_cons_self).2]
                exact D5.1 a _ (hT.new (fl a List.mem_cons_self).1) (D4.1 a _ (hT.new (fl a List.mem_cons_self).1) e)) (ih fun d hd => fl d (List.mem_cons_of_mem _ hd))
          exact q1 fr pr
        · intro x hx
          rcases List.mem_append.mp hx with hx | hx
          · exact gd x hx
          · rw [List.mem_singleton.mp hx]
            exact ⟨by omega, by omega, gh⟩
    · obtain ⟨E3, ⟨das, tb, hta, dl, fr, pr, gd⟩, y4, rfl⟩ := p
      have tl := pairedLen pr
      refine ⟨.ref ta, rfl, q H3 ta tb E3 ⟨das, hta, fun z => z nta, fun d hd z => z (fr d hd).1, pr⟩ ⟨by omega, fun ds h => (gd ds h).1, fun ds h => ?_, fun ds h => (gd ds h).2.2⟩ fun ds h => (gd ds h).2.1⟩
      have := (gd ds h).2.1
      omega
theorem ok_ord {f : Addr} {fd : FuncData} {k : Nat} (F : Fun K "_law_order" "_law_order" sOrd f fd) (T : TxtW P w K mg base) : FnOk P w K mg base CX0 (k + 2) f fd ["tape", "many"] spOrd := by
  refine F.ok scOrd (fun vs H Q E h => ?_) (fun cdv A outer s H vs Q E hr h => ?_)
  · obtain ⟨tp, n, rfl, _⟩ := h
    rfl
  · obtain ⟨tp, n, rfl, hT, n0, n20, q⟩ := h
    refine ⟨_, (pss_cons (ps_set (i := 2) scOrd.nd rfl (Or.inr rfl) (pe_listRg rfl (by rfl) T.m_list (prg_1 (by rfl) T.m_range (pv 1))))
  (pss_one (ps_ret (pe_callTy call_tuple_of (by rfl) T.m_tuple (by decide +kernel) (pa_cons (pe_lc (te := tBM K "list" rPopAt (tVar 2) (tCons (tCall spDig [] E0 (tCons (tVar 0) (tCons (tCB (rLen K) (tCons (tVar 2) tNil)) tNil))) tNil)) (own := [("k", 3)]) rfl scOrd.nd  (pi_range1 (by rfl) T.m_range (pa_cons (pv 1) pa_nil)) (blkOk_by (own := [("k", 3)]) (N := nOrd) (sc := defScope sOrd) (by decide +kernel))
   (fun _ _ _ _ _ => (pg_name (i := 3) scOrd.nd rfl (Or.inl rfl))) (fun _ _ _ _ _ => pts_nil) (fun _ _ _ _ _ => (pe_bm PySem.F.plainAttrs_list PySem.F.slot_list_pop PySem.F.type_list_pop mt_popAt (pv 2) (pa_cons (pe_cal T.c__law_digit (hr.mono (by omega)) (by rfl) (pa_cons (pv 0) (pa_cons (pe_callB call_len_seq (by rfl) T.m_len (by decide +kernel) (pa_cons (pv 2) pa_nil)) pa_nil))) pa_nil)))) pa_nil))))), ?_⟩
    refine ⟨.int n, rfl, n, rfl, ⟨by omega, by omega, by omega, by omega, by omega⟩, fun l nl => ?_⟩
    have sl := same_upd (o := .lst (rgV 0 n)) nl
    have nlt := hT.new nl
    have E3 := (Taped.refl hT).same sl
    have hl3 : upd H l (.lst (rgV 0 n)) l = some (.lst (rgV 0 n)) := upd_same
    generalize upd H l (.lst (rgV 0 n)) = H3 at E3 hl3
    refine ⟨.int n, rfl, n, rfl, by omega, by omega, fun D nD => ?_⟩
    have nDt := E3.2.new nD
    have nD0 : H D = none := E3.free nD
    have nlD : l ≠ D := ne_of_none hl3 nD
    have rl := rngI_len n
    refine lc_range (lo := 0) (n := n.toNat) (fun i H5 => ∃ acc ls, Pops V.int tp H l D (rngI n) i H5 acc ls) ⟨[], rngI n, E3.put nD0 nDt, ?_, upd_same, rfl, by simp, List.Perm.refl _⟩ (fun i H5 hi p => ?_) (fun H5 p => ?_)
    · rw [upd_ne nlD, hl3, rgV_eq]
    · obtain ⟨acc, ls, p⟩ := p
      have ll := p.ll
      refine ⟨rfl, yes_if ?_⟩
      refine ⟨.ref l, rfl, .inl ⟨rfl, _, .inl (.inl p.hL)⟩, .ref tp, rfl, .ref l, rfl, l, _, rfl, .inl (.inl (.inl p.hL)), tp, _, rfl, p.fr.2, by rw [List.length_map]; omega, by rw [List.length_map]; exact log_small (by omega) (by omega), fun H6 d D6 d0 d1 => ?_⟩
      rw [List.length_map] at d1
      obtain ⟨y, y1, y2, y3, acc', y4, y5, acc2, ls2, y6⟩ := pop_step nl nlt nD0 nDt nlD (by omega) p D6 d0 d1
      exact ⟨l, ls.map V.int, d, d.toNat, y, rfl, rfl, y2, by omega, by omega, y3, y1, acc', y4, y5, acc2, ls2, y6⟩
    · obtain ⟨acc, ls, p⟩ := p
      have ll := p.ll
      have e : ls = [] := List.length_eq_zero_iff.mp (by omega)
      have pm := p.pm
      rw [e, List.append_nil] at pm
      refine ⟨D, _, rfl, .inl ⟨.inl (.inl p.hD), fun oa noa => ?_⟩⟩
      exact q _ oa acc (p.fr.same (same_upd noa)) upd_same (goodO_of n0 pm) pm
end
end Rd

set_option Elab.async false
set_option linter.all false
set_option maxRecDepth 100000
set_option maxHeartbeats 4000000
namespace Rd
open PySem PySem.Spec PyProof.Rows L2 Dt
abbrev sHue : Stmt := topS 2
abbrev nHue : List Str := ["filling", "places", "place"]
theorem scHue : FnScope nHue ["filling", "places"] (defScope sHue) := ⟨rfl, rfl, rfl, by decide +kernel, rfl, by decide +kernel, by decide +kernel⟩
abbrev sIsB : Stmt := topS 3
abbrev nIsB : List Str := ["wish", "filling", "places", "rows"]
theorem scIsB : FnScope nIsB ["wish", "filling"] (defScope sIsB) := ⟨rfl, rfl, rfl, by decide +kernel, rfl, by decide +kernel, by decide +kernel⟩
abbrev sSta : Stmt := topS 6
abbrev nSta : List Str := ["table", "taken", "draws", "beyond"]
theorem scSta : FnScope nSta ["table", "taken"] (defScope sSta) := ⟨rfl, rfl, rfl, by decide +kernel, rfl, by decide +kernel, by decide +kernel⟩
abbrev sHnx : Stmt := topS 7
abbrev nHnx : List Str := ["table", "taken", "places", "place"]
theorem scHnx : FnScope nHnx ["table", "taken", "places"] (defScope sHnx) := ⟨rfl, rfl, rfl, by decide +kernel, rfl, by decide +kernel, by decide +kernel⟩
def spHues (Ps : List Addr) : Sp := fun vs H Q _ => ∃ (fa pa : Addr) (fs ps : List Int) (many hues : Int), vs = [.ref fa, .ref pa] ∧ H fa = some (.tup (fs.map V.int)) ∧ H pa = some (.tup (ps.map V.int)) ∧ GoodF many hues fs ∧ (∀ p ∈ ps, 0 ≤ p ∧ p < many) ∧ ps.length ≤ 1000 ∧ Tabs Ps H ∧
  ∀ H' t, FrS Ps H H' → H t = none → H' t = some (.tup ((huesA fs ps).map V.int)) → Q (.ref t) H'
def spIsB (Ps : List Addr) : Sp := fun vs H Q _ => ∃ (wa fa : Addr) (fs : List Int) (wd : WD) (many hues : Int), vs = [.ref wa, .ref fa] ∧ IsWish H wa wd ∧ H fa = some (.tup (fs.map V.int)) ∧ GoodF many hues fs ∧ Good many hues wd ∧ many ≤ 6 ∧ hues ≤ 4 ∧ Tabs Ps H ∧
  ∀ H', FrS Ps H H' → Q (.bl (brk fs wd)) H'
def spSta (Ps : List Addr) : Sp := fun vs H Q _ => ∃ (ta ka : Addr) (tb : List (List Int)) (tk : List Int), vs = [.ref ta, .ref ka] ∧ IsTab (fun _ => False) H ta tb ∧ H ka = some (.lst (tk.map V.int)) ∧ GoodK tb tk ∧ tb.length ≤ 1000 ∧ Tabs Ps H ∧
  ∀ H' t, FrS Ps H H' → H t = none → H' t = some (.tup ((stand tb tk).map V.int)) → Q (.ref t) H'
def vOpt : Option Int → V
  | some k => .int k
  | none => .non
def spFib (Ps : List Addr) : Sp := fun vs H Q _ => ∃ (wt oa fa : Addr) (was : List Addr) (wds : List WD) (ord fs : List Int) (many hues : Int), vs = [.ref wt, .ref oa, .ref fa] ∧ H wt = some (.tup (was.map V.ref)) ∧ Paired (IsWish H) was wds ∧ GoodR many hues wds ∧ H oa = some (.tup (ord.map V.int)) ∧ (∀ z ∈ ord, 0 ≤ z ∧ z < (wds.length : Int)) ∧ H fa = some (.tup (fs.map V.int)) ∧ GoodF many hues fs ∧ Tabs Ps H ∧
  ∀ H', FrS Ps H H' → Q (vOpt (firstB fs wds ord)) H'
def spHnx (Ps : List Addr) : Sp := fun vs H Q _ => ∃ (ta ka pa : Addr) (tb : List (List Int)) (tk ps : List Int), vs = [.ref ta, .ref ka, .ref pa] ∧ IsTab (fun _ => False) H ta tb ∧ H ka = some (.lst (tk.map V.int)) ∧ tk.length = tb.length ∧ H pa = some (.tup (ps.map V.int)) ∧ (∀ p ∈ ps, 0 ≤ p ∧ p < (tb.length : Int)) ∧ Tabs Ps H ∧
  ∀ H', FrS Ps H H' → Q (.bl (canN tb tk ps)) H'
structure TxtN (mg : Str → Option Value) : Prop where
  m_tuple : mg "tuple" = none
  m_zip : mg "zip" = none
  m_all : mg "all" = none
  m_len : mg "len" = none
structure TxtB (P : Program) (w : World) (K : PySem.W.Frag) (mg : Str → Option Value) (base : Heap) (Ps : List Addr) : Prop where
  c_hues_at : Cal P w K mg base 3 "hues_at" ["filling", "places"] (spHues Ps)
structure TxtC (P : Program) (w : World) (K : PySem.W.Frag) (mg : Str → Option Value) (base : Heap) (Ps : List Addr) : Prop extends TxtB P w K mg base Ps where
  c_is_broken : Cal P w K mg base 4 "is_broken" ["wish", "filling"] (spIsB Ps)
theorem atT {tk : List Int} {p : Int} (h0 : 0 ≤ p) (h1 : p < (tk.length : Int)) : tk[p.toNat]? = some (atF tk p) := by
  have h : p.toNat < tk.length := by omega
  rw [atF, getD_get h]
  exact List.getElem?_eq_getElem h
section
variable {P : Program} {w : World} {K : PySem.W.Frag} {mg : Str → Option Value} {base : Heap}
theorem ok_hues {f c Pt : Addr} {Ps : List Addr} {fd : FuncData} {k : Nat} (F : FunC K "hues_at" "hues_at" sHue f fd (.ref c)) (TB : GxR.TabB base mg c Pt) (hP : Pt ∈ Ps) (T : TxtN mg) : FnOk P w K mg base CX0 (k + 3) f fd ["filling", "places"] (spHues Ps) := by
  refine F.ok scHue (fun vs H Q E h => ?_) (fun A outer s H vs Q E hr h => ?_)
  · obtain ⟨fa, pa, fs, ps, many, hues, rfl, _⟩ := h
    rfl
  · obtain ⟨fa, pa, fs, ps, many, hues, rfl, hf, hp, gf, hpl, hl, hT, q⟩ := h
    refine ⟨_, (pss_one (ps_ret (Gx.pe_tupX (own := [("place", 2)]) (te := tOp (rIxT K) (tVar 0) (tVar 2)) hr (by rfl) T.m_tuple rfl scHue.nd TB rfl (blkOk_by (own := [("place", 2)]) (N := nHue) (sc := defScope sHue) (by decide +kernel)) ⟨rfl, by decide +kernel, rfl⟩ (pi_tup (pv 1))
   (fun _ _ _ _ _ _ hA => (pg_name (i := 2) scHue.nd rfl (Or.inl rfl))) (fun _ _ _ _ _ _ hA => pts_nil) (fun _ _ _ _ _ _ hA => (pe_ix ix_tup (pv 0) (pv 2) (fun _ _ => rfl)))))), ?_⟩
    refine ⟨.ref pa, rfl, pa, rfl, ⟨_, .inl (.inl hp)⟩, hT _ hP, fun H2 tb => ?_⟩
    have f2 := FrS.one hT hP tb
    refine Gx.tup_tup (K := K) (a := pa) (xs := ps.map V.int) (by rw [List.length_map]; exact Nat.le_of_lt (small1000 hl)) (fun i ys H3 => FrS Ps H H3 ∧ ys = (huesA fs (ps.take i)).map V.int) ⟨f2, rfl⟩ (fun i ys H3 _ f3 => .inl (.inl (f3.1.tups hT _ _ hp))) (fun i ys H3 f3 => ?_) (fun i x ys H3 hx f3 => ?_) (fun ys H3 f3 => ?_)
    · rw [f3.2, List.length_map, huesA, List.length_map, List.length_take]
      omega
    · obtain ⟨p, ep, rfl⟩ := map_get hx
      obtain ⟨f3, rfl⟩ := f3
      have hpp := hpl p (List.mem_of_getElem? ep)
      refine ⟨rfl, yes_if ?_⟩
      refine ⟨.ref fa, rfl, .int p, rfl, fa, _, p, _, rfl, rfl, .inl (.inl (f3.tups hT _ _ hf)), atI_fs gf hpp.1 hpp.2, f3, ?_⟩
      rw [take_snoc ep]
      simp [huesA]
    · obtain ⟨f3, rfl⟩ := f3
      rw [List.length_map, List.take_length]
      exact fun t nt => q _ t (f3.same (same_upd nt)) (f3.free nt) upd_same
theorem ok_isB {f : Addr} {Ps : List Addr} {fd : FuncData} {k : Nat} (F : Fun K "is_broken" "is_broken" sIsB f fd) (T : TxtB P w K mg base Ps) : FnOk P w K mg base CX0 (k + 4) f fd ["wish", "filling"] (spIsB Ps) := by
  refine F.ok scIsB (fun vs H Q E h => ?_) (fun cdv A outer s H vs Q E hr h => ?_)
  · obtain ⟨wa, fa, fs, wd, many, hues, rfl, _⟩ := h
    rfl
  · obtain ⟨wa, fa, fs, wd, many, hues, rfl, hw, hf, gf, gw, hm, hh, hT, q⟩ := h
    refine ⟨_, (pss_cons (ps_asg (pv 0) (pg_tup rfl (pgs_cons (pg_name (i := 2) scIsB.nd rfl (Or.inl rfl)) (pgs_cons (pg_name (i := 3) scIsB.nd rfl (Or.inl rfl)) pgs_nil))))
  (pss_one (ps_ret (pe_cmpR (Dt.op_inT (units65 hr)) (pe_cal T.c_hues_at (hr.mono (by omega)) (by rfl) (pa_cons (pv 1) (pa_cons (pv 2) pa_nil))) (pv 3) (by rfl))))), ?_⟩
    obtain ⟨pa, ra, rs, h1, h2, h3, h4⟩ := id hw
    refine ⟨.ref wa, rfl, wa, _, rfl, .inl (.inl h1), rfl, .ref pa, [.ref ra], rfl, .ref ra, [], rfl, rfl, ?_⟩
    have g3 := gw.three
    refine ⟨.ref fa, rfl, .ref pa, rfl, fa, pa, fs, wd.1, many, hues, rfl, hf, h2, gf, gw.pl, by omega, hT, fun H' t fr nt ht => ?_⟩
    have tp := fr.tups hT
    refine ⟨.ref ra, rfl, rowD (huesA fs wd.1), wd.2.map rowD, .tup (.inl (.inl ht)) (dpInts _), .tup (.inl (.inl (tp _ _ h3))) (dpRows (pairedMap (fun _ _ e => tp _ _ e) h4)), ?_, ?_, ?_⟩
    · refine (fine_row (fun z hz => ?_) ?_).shaped (by decide)
      · obtain ⟨p, hp, rfl⟩ := List.mem_map.mp hz
        have hpp := gw.pl p hp
        have e := List.mem_of_getElem? (at_some gf hpp.1 hpp.2)
        have := gf.hue _ e
        omega
      · simp [huesA]
        omega
    · refine (Fine.tuple (fineAll_map wd.2 (n := 2) (w := 64) fun r hr => fine_row (fun z hz => ?_) ?_)).shaped (by decide)
      · have := (gw.row r hr).2 z hz
        omega
      · have := (gw.row r hr).1
        omega
    · rw [anyRows]
      exact q H' fr
theorem ok_sta {f c Pt : Addr} {Ps : List Addr} {fd : FuncData} {k : Nat} (F : FunC K "standing" "standing" sSta f fd (.ref c)) (TB : GxR.TabB base mg c Pt) (hP : Pt ∈ Ps) (T : TxtN mg) : FnOk P w K mg base CX0 (k + 3) f fd ["table", "taken"] (spSta Ps) := by
  refine F.ok scSta (fun vs H Q E h => ?_) (fun A outer s H vs Q E hr h => ?_)
  · obtain ⟨ta, ka, tb, tk, rfl, _⟩ := h
    rfl
  · obtain ⟨ta, ka, tb, tk, rfl, ht, hk, gk, hl, hT, q⟩ := h
    refine ⟨_, (pss_one (ps_ret (Gx.pe_tupX (own := [("draws", 2), ("beyond", 3)]) (g := gTup K 2 (gCons (gName 2) (gCons (gName 3) gNil))) (te := tOp (rIxL K) (tVar 2) (tVar 3)) hr (by rfl) T.m_tuple rfl scSta.nd TB rfl (blkOk_by (own := [("draws", 2), ("beyond", 3)]) (N := nSta) (sc := defScope sSta) (by decide +kernel)) ⟨rfl, by decide +kernel, rfl⟩ (RZ.pi_zipA (by rfl) T.m_zip (pa_cons (pv 0) (pa_cons (pv 1) pa_nil)))
   (fun _ _ _ _ _ _ hA => (pg_tup rfl (pgs_cons (pg_name (i := 2) scSta.nd rfl (Or.inl rfl)) (pgs_cons (pg_name (i := 3) scSta.nd rfl (Or.inl rfl)) pgs_nil)))) (fun _ _ _ _ _ _ hA => pts_nil) (fun _ _ _ _ _ _ hA => (pe_ix ix_list (pv 2) (pv 3) (fun _ _ => rfl)))))), ?_⟩
    obtain ⟨das, h1, _, _, pr⟩ := id ht
    have dl := pairedLen pr
    have kl := gk.len
    refine ⟨.ref ta, rfl, .ref ka, rfl, ta, ka, das.map V.ref, tk.map V.int, rfl, .inl ⟨.inl (.inl h1), .inl (.inl hk), hT _ hP, fun H2 tb2 => ?_⟩⟩
    have f2 := FrS.one hT hP tb2
    refine Gx.tup_zipL (K := K) (a := ta) (b := ka) (xs := das.map V.ref) (ys := tk.map V.int) (by rw [List.length_map, List.length_map]; omega) (by rw [List.length_map]; exact Nat.le_of_lt (small1000 (by omega))) (fun i ys H3 => FrS Ps H H3 ∧ ys = ((stand tb tk).take i).map V.int) ⟨f2, rfl⟩ (fun i ys H3 f3 => ⟨.inl (.inl ((f3.1.seqs hT).2 _ _ h1)), .inl (.inl ((f3.1.seqs hT).2 _ _ hk))⟩) (fun i ys H3 f3 => ?_) (fun i x y T ys H3 hx hy f3 nT => ?_) (fun ys H3 f3 => ?_)
    · rw [f3.2, List.length_map, List.length_take]
      omega
    · obtain ⟨d, ed, rfl⟩ := map_get hx
      obtain ⟨n, en, rfl⟩ := map_get hy
      obtain ⟨f3, rfl⟩ := f3
      obtain ⟨ds, eds, hd⟩ := pairedGetL pr ed
      have hi : i < tb.length := (List.getElem?_eq_some_iff.mp eds).1
      have a := gk.at_ i hi
      have e1 : tb.getD i [] = ds := by rw [List.getD_eq_getElem?_getD, eds]; rfl
      have e2 : tk.getD i 0 = n := by rw [List.getD_eq_getElem?_getD, en]; rfl
      rw [e1, e2] at a
      have sT := same_upd (o := .tup [.ref d, .int n]) nT
      have f4 := f3.same sT
      refine ⟨T, _, rfl, .inl (.inl upd_same), rfl, .ref d, [.int n], rfl, .int n, [], rfl, rfl, rfl, yes_if ?_⟩
      refine ⟨.ref d, rfl, .int n, rfl, d, _, n, _, rfl, rfl, .inl (.inl ((f4.seqs hT).2 _ _ hd)), atI_of a.1 (atT a.1 a.2), f4, ?_⟩
      rw [take_snoc (stand_get gk hi), e1, e2, List.map_append]
      rfl
    · obtain ⟨f3, rfl⟩ := f3
      rw [List.length_map, List.take_of_length_le (by rw [stand_len gk]; omega)]
      exact fun t nt => q _ t (f3.same (same_upd nt)) (f3.free nt) upd_same
theorem ok_hnx {f c Pt : Addr} {Ps : List Addr} {fd : FuncData} {k : Nat} (F : FunC K "have_next" "have_next" sHnx f fd (.ref c)) (TB : GxR.TabB base mg c Pt) (hP : Pt ∈ Ps) (T : TxtN mg) : FnOk P w K mg base CX0 (k + 2) f fd ["table", "taken", "places"] (spHnx Ps) := by
  refine F.ok scHnx (fun vs H Q E h => ?_) (fun A outer s H vs Q E hr h => ?_)
  · obtain ⟨ta, ka, pa, tb, tk, ps, rfl, _⟩ := h
    rfl
  · obtain ⟨ta, ka, pa, tb, tk, ps, rfl, ht, hk, kl, hp, hpl, hT, q⟩ := h
    refine ⟨_, (pss_one (ps_ret (Gx.pe_allX (own := [("place", 3)]) (te := tOp (rI0 fun i j => .bl (decide (i < j))) (tOp (rI0 fun i j => .int (i + j)) (tOp (rIxL K) (tVar 1) (tVar 3)) (tC (.int 1))) (tCB (rLen K) (tCons (tOp (rIxL K) (tVar 0) (tVar 3)) tNil))) hr (by rfl) T.m_all rfl scHnx.nd TB rfl (blkOk_by (own := [("place", 3)]) (N := nHnx) (sc := defScope sHnx) (by decide +kernel)) ⟨rfl, by decide +kernel, rfl⟩ (pi_tup (pv 2))
   (fun _ _ _ _ _ _ hA => (pg_name (i := 3) scHnx.nd rfl (Or.inl rfl))) (fun _ _ _ _ _ _ hA => pts_nil) (fun _ _ _ _ _ _ hA => (pe_cmpR op_lt (pe_op op_add (pe_ix ix_list (pv 1) (pv 3) (fun _ _ => rfl)) pe_int) (pe_callB call_len_seq (by rfl) T.m_len (by decide +kernel) (pa_cons (pe_ix ix_list (pv 0) (pv 3) (fun _ _ => rfl)) pa_nil)) (nomark _)))))), ?_⟩
    obtain ⟨das, h1, _, _, pr⟩ := id ht
    have dl := pairedLen pr
    refine ⟨.ref pa, rfl, pa, rfl, ⟨_, .inl (.inl hp)⟩, hT _ hP, fun H2 tb2 => ?_⟩
    have f2 := FrS.one hT hP tb2
    refine Gx.all_tup (K := K) (a := pa) (xs := ps.map V.int) (fun i H3 => FrS Ps H H3 ∧ canN tb tk (ps.take i) = true) ⟨f2, rfl⟩ (fun i H3 _ f3 => .inl (.inl (f3.1.tups hT _ _ hp))) (fun i x H3 hx f3 => ?_) (fun H3 f3 => ?_)
    · obtain ⟨p, ep, rfl⟩ := map_get hx
      obtain ⟨f3, e3⟩ := f3
      have hpp := hpl p (List.mem_of_getElem? ep)
      have hpn : p.toNat < das.length := by omega
      obtain ⟨ds, eds, hd⟩ := pairedGetL pr (List.getElem?_eq_getElem hpn)
      have sq := f3.seqs hT
      have e1 : lenAt tb p = (ds.length : Int) := by rw [lenAt, List.getD_eq_getElem?_getD, eds]; rfl
      refine ⟨rfl, yes_if ?_⟩
      refine ⟨.ref ka, rfl, .int p, rfl, ka, _, p, _, rfl, rfl, .inl (.inl (sq.2 _ _ hk)), atI_of hpp.1 (atT hpp.1 (by omega)), _, _, rfl, rfl, .ref ta, rfl, .int p, rfl, ta, _, p, _, rfl, rfl, .inl (.inl (sq.2 _ _ h1)), atI_of hpp.1 (List.getElem?_eq_getElem hpn), _, _, rfl, .inl (.inl (.inl (sq.2 _ _ hd))), _, _, rfl, rfl, _, rfl, ?_⟩
      have e4 : canN tb tk (ps.take (i + 1)) = (canN tb tk (ps.take i) && decide (atF tk p + 1 < lenAt tb p)) := by
        rw [take_snoc ep, canN, canN, List.all_append]
        simp
      rw [List.length_map, ← e1]
      cases c : decide (atF tk p + 1 < lenAt tb p) with
      | true =>
        rw [if_pos rfl]
        exact ⟨f3, by rw [e4, e3, c]; rfl⟩
      | false =>
        rw [if_neg (by decide)]
        have e5 : canN tb tk ps = false := by
          rw [canN, List.all_eq_false]
          exact ⟨p, List.mem_of_getElem? ep, by rw [c]; decide⟩
        have := q H3 f3
        rw [e5] at this
        exact this
    · obtain ⟨f3, e3⟩ := f3
      rw [List.length_map, List.take_length] at e3
      have := q H3 f3
      rw [e3] at this
      exact this
end
end Rd

set_option Elab.async false
set_option linter.all false
set_option maxRecDepth 100000
set_option maxHeartbeats 4000000
namespace Rd
open PySem PySem.Spec PyProof.Rows L2 Dt
abbrev sLbr : Stmt := topS 22
abbrev nLbr : List Str := ["riddle", "filling", "found", "number", "places", "rows", "place"]
theorem scLbr : FnScope nLbr ["riddle", "filling"] (defScope sLbr) := ⟨rfl, rfl, rfl, by decide +kernel, rfl, by decide +kernel, by decide +kernel⟩
def spLbr : Sp := fun vs H Q _ => ∃ (ri fa : Addr) (fs : List Int) (wds : List WD) (many hues : Int), vs = [.ref ri, .ref fa] ∧ IsRid H ri many hues wds ∧ (H fa = some (.lst (fs.map V.int)) ∨ H fa = some (.tup (fs.map V.int))) ∧ GoodF many hues fs ∧ GoodR many hues wds ∧
  ∀ H' t, Same H H' → H t = none → H' t = some (.lst ((broL fs wds wds.length).map V.int)) → Q (.ref t) H'
structure TxtE (mg : Str → Option Value) : Prop where
  m_enumerate : mg "enumerate" = none
  m_tuple : mg "tuple" = none
theorem bro_ne {fs : List Int} {wds : List WD} {n : Nat} (h : broL fs wds n ≠ []) : PyData.eqv (.list ((broL fs wds n).map .int)) (.list []) = false := by
  rw [eqv_ints_nil]
  exact decide_eq_false h
section
variable {P : Program} {w : World} {K : PySem.W.Frag} {mg : Str → Option Value} {base : Heap}
theorem ok_lbr {f : Addr} {fd : FuncData} {k : Nat} (F : Fun K "_law_broken" "_law_broken" sLbr f fd) (T : TxtE mg) : FnOk P w K mg base CX0 (k + 1) f fd ["riddle", "filling"] spLbr := by
  refine F.ok scLbr (fun vs H Q E h => ?_) (fun cdv A outer s H vs Q E hr h => ?_)
  · obtain ⟨ri, fa, fs, wds, many, hues, rfl, _⟩ := h
    rfl
  · obtain ⟨ri, fa, fs, wds, many, hues, rfl, hrd, hf, gf, gr, q⟩ := h
    refine ⟨_, (pss_cons (ps_set (i := 2) scLbr.nd rfl (Or.inl rfl) (pe_lst pa_nil))
  (pss_cons (ps_for PassesOwn.never rfl (Et.pi_enumT (by rfl) T.m_enumerate (pa_cons (pe_ix ix_tup (pv 0) pe_int (fun _ _ => rfl)) pa_nil)) (pg_tup rfl (pgs_cons (pg_name (i := 3) scLbr.nd rfl (Or.inl rfl)) (pgs_cons (pg_tup rfl (pgs_cons (pg_name (i := 4) scLbr.nd rfl (Or.inl rfl)) (pgs_cons (pg_name (i := 5) scLbr.nd rfl (Or.inl rfl)) pgs_nil))) pgs_nil)))
  (pss_one (ps_if (pt_cmpR (Dt.op_inT (units65 hr)) (pe_callTy call_tuple_of (by rfl) T.m_tuple (by decide +kernel) (pa_cons (pe_lc (te := tOp (rIx K) (tVar 1) (tVar 6)) (own := [("place", 6)]) rfl scLbr.nd  (pi_tup (pv 4)) (blkOk_by (own := [("place", 6)]) (N := nLbr) (sc := defScope sLbr) (by decide +kernel))
   (fun _ _ _ _ _ => (pg_name (i := 6) scLbr.nd rfl (Or.inl rfl))) (fun _ _ _ _ _ => pts_nil) (fun _ _ _ _ _ => (pe_ix ix_seq (pv 1) (pv 6) (fun _ _ => rfl)))) pa_nil)) (pv 5) (by rfl))
  (pss_one (ps_expr (pe_bm PySem.F.plainAttrs_list PySem.F.slot_list_append PySem.F.type_list_append mt_append (pv 2) (pa_cons (pv 3) pa_nil)))) pss_nil)))
  (pss_one (ps_ret (pv 2))))), ?_⟩
    obtain ⟨wt, was, h1, h2, h3⟩ := id hrd
    have hl : was.length = wds.length := pairedLen h3
    refine ⟨(by show 0 ≤ sizeLine; decide), fun l nl => ?_⟩
    have sl := same_upd (o := .lst []) nl
    refine ⟨.ref ri, rfl, ri, _, 2, _, rfl, rfl, .inl (.inl (sl _ _ h1)), rfl, wt, was.map V.ref, rfl, .inl (.inl (sl _ _ h2)), ?_⟩
    refine Et.for_enumT (K := K) (a := wt) (xs := was.map V.ref) (fun i σ H3 => Same H H3 ∧ H3 l = some (.lst ((broL fs wds i).map V.int)) ∧ ∃ y3 y4 y5 y6, σ = [some (.ref ri), some (.ref fa), some (.ref l), y3, y4, y5, y6]) ⟨sl, upd_same, none, none, none, none, rfl⟩ (fun i σ H3 _ p => .inl (.inl (p.1 _ _ h2))) (fun i x σ H3 T hx p nT => ?_) (fun σ H3 p => ?_)
    · obtain ⟨sm, hL, y3, y4, y5, y6, rfl⟩ := p
      obtain ⟨wa, ew, rfl⟩ := map_get hx
      obtain ⟨wd, hwd, isw⟩ := pairedGetL h3 ew
      have gw := gr.each wd (List.mem_of_getElem? hwd)
      have sT := same_upd (o := .tup [.int (i : Nat), .ref wa]) nT
      have s2 := sm.trans sT
      obtain ⟨pa, ra, rs, w1, w2, w3, w4⟩ := isw.mono (tups_same s2)
      refine ⟨T, [.int i, .ref wa], rfl, .inl (.inl upd_same), rfl, .int i, [.ref wa], rfl, .ref wa, [], rfl, ⟨wa, _, rfl, .inl (.inl w1), rfl, .ref pa, [.ref ra], rfl, .ref ra, [], rfl, rfl, rfl, ?_⟩⟩
      refine ⟨.ref pa, rfl, pa, rfl, ⟨_, .inl (.inl w2)⟩, fun D nD => lc_tup (K := K) (a := pa) (xs := wd.1.map V.int) (fun j H5 => Same (upd H3 T (.tup [.int (i : Nat), .ref wa])) H5 ∧ H5 D = some (.lst ((huesA fs (wd.1.take j)).map V.int))) ⟨same_upd nD, upd_same⟩ (fun j H5 _ pp => .inl (.inl (pp.1 _ _ w2))) (fun j x H5 hx pp => ?_) (fun H5 pp => ?_)⟩
      · obtain ⟨p, ep, rfl⟩ := map_get hx
        have hp := gw.pl p (List.mem_of_getElem? ep)
        refine ⟨rfl, yes_if ?_⟩
        have rest : ∃ acc, H5 D = some (.lst acc) ∧ acc.length < sizeLine ∧ (Same (upd H3 T (.tup [.int (i : Nat), .ref wa])) (upd H5 D (.lst (acc ++ [.int (atF fs p)]))) ∧ upd H5 D (.lst (acc ++ [.int (atF fs p)])) D = some (.lst ((huesA fs (wd.1.take (j + 1))).map V.int))) := by
          refine ⟨_, pp.2, ?_, ?_, ?_⟩
          · have := gw.three
            simp [huesA]
            exact small1000 (by omega)
          · intro b o e
            rw [upd_ne (ne_of_none e nD)]
            exact pp.1 b o e
          · rw [upd_same, take_snoc ep]
            simp [huesA]
        refine ⟨.ref fa, rfl, .int p, rfl, ?_⟩
        rcases hf with hf | hf
        · exact .inl ⟨fa, _, p, _, rfl, rfl, .inl (.inl (pp.1 _ _ (s2 _ _ hf))), atI_fs gf hp.1 hp.2, rest⟩
        · exact .inr (.inl ⟨fa, _, p, _, rfl, rfl, .inl (.inl (pp.1 _ _ (s2 _ _ hf))), atI_fs gf hp.1 hp.2, rest⟩)
      · have hD := pp.2
        rw [List.length_map, List.take_length] at hD
        refine ⟨D, _, rfl, .inl ⟨.inl (.inl hD), fun t nt => ?_⟩⟩
        have s3 := pp.1.trans (same_upd (o := .tup ((huesA fs wd.1).map V.int)) nt)
        refine ⟨.ref ra, rfl, rowD (huesA fs wd.1), wd.2.map rowD, .tup (.inl (.inl upd_same)) (dpInts _), .tup (.inl (.inl (s3 _ _ w3))) (dpRows (pairedMap (fun _ _ e => s3 _ _ e) w4)), ?_, ?_, ?_⟩
        · refine (fine_row (fun z hz => ?_) ?_).shaped (by decide)
          · obtain ⟨p, hp, rfl⟩ := List.mem_map.mp hz
            have hpp := gw.pl p hp
            have e := List.mem_of_getElem? (at_some gf hpp.1 hpp.2)
            have := gf.hue _ e
            have := gr.h4
            omega
          · have := gw.three
            simp [huesA]
            omega
        · refine (Fine.tuple (fineAll_map wd.2 (n := 2) (w := 64) fun r hr => fine_row (fun z hz => ?_) ?_)).shaped (by decide)
          · have := (gw.row r hr).2 z hz
            have := gr.h4
            omega
          · have := (gw.row r hr).1
            have := gw.three
            omega
        · rw [anyRows]
          have eb := brkAt_of (fs := fs) hwd
          have hLT := s3 _ _ (sT _ _ hL)
          have s4 := s2.trans s3
          refine ⟨_, rfl, ite2 (fun e => ?_) (fun e => ?_)⟩
          · refine ⟨.ref l, rfl, .inl ⟨rfl, _, .inl (.inl hLT)⟩, .int i, rfl, l, _, _, rfl, rfl, hLT, ?_, ?_, ?_, ?_⟩
            · rw [List.length_map]
              have := broL_len fs wds i
              have := gr.eight
              have := (List.getElem?_eq_some_iff.mp ew).1
              exact small1000 (by omega)
            · intro b o e2
              rw [upd_ne (ne_of_none e2 nl)]
              exact s4 b o e2
            · rw [upd_same, broL_yes (eb.trans e), List.map_append]
              rfl
            · exact ⟨_, _, _, _, rfl⟩
          · refine ⟨s4, ?_, _, _, _, _, rfl⟩
            rw [broL_no (eb.trans (by simpa [brk] using e))]
            exact hLT
    · obtain ⟨sm, hL, y3, y4, y5, y6, rfl⟩ := p
      rw [List.length_map, hl] at hL
      exact ⟨.ref l, rfl, q H3 l sm nl hL⟩
end
end Rd

set_option Elab.async false
set_option linter.all false
set_option maxRecDepth 100000
set_option maxHeartbeats 4000000
namespace Rd
open PySem PySem.Spec PyProof.Rows L2 Dt
abbrev sBro : Stmt := topS 4
abbrev nBro : List Str := ["riddle", "filling", "number", "wish"]
theorem scBro : FnScope nBro ["riddle", "filling"] (defScope sBro) := ⟨rfl, rfl, rfl, by decide +kernel, rfl, by decide +kernel, by decide +kernel⟩
def spBro (Ps : List Addr) : Sp := fun vs H Q _ => ∃ (ri fa : Addr) (fs : List Int) (wds : List WD) (many hues : Int), vs = [.ref ri, .ref fa] ∧ IsRid H ri many hues wds ∧ H fa = some (.tup (fs.map V.int)) ∧ GoodF many hues fs ∧ GoodR many hues wds ∧ Tabs Ps H ∧
  ∀ H' t, FrS Ps H H' → H t = none → H' t = some (.lst ((broL fs wds wds.length).map V.int)) → Q (.ref t) H'
theorem ix_nat {n j : Nat} (hj : j < n) : ixN n (j : Int) = some j := by
  unfold ixN
  rw [if_pos (by omega), if_pos (by omega)]
  simp
structure TxtB5 (P : Program) (w : World) (K : PySem.W.Frag) (mg : Str → Option Value) (base : Heap) (Ps : List Addr) : Prop where
  m_enumerate : mg "enumerate" = none
  c_is_broken : Cal P w K mg base 4 "is_broken" ["wish", "filling"] (spIsB Ps)
section
variable {P : Program} {w : World} {K : PySem.W.Frag} {mg : Str → Option Value} {base : Heap}
theorem ok_bro {f : Addr} {Ps : List Addr} {fd : FuncData} {k : Nat} (F : Fun K "broken" "broken" sBro f fd) (T0 : TxtB5 P w K mg base Ps) : FnOk P w K mg base CX0 (k + 5) f fd ["riddle", "filling"] (spBro Ps) := by
  refine F.ok scBro (fun vs H Q E h => ?_) (fun cdv A outer s H vs Q E hr h => ?_)
  · obtain ⟨ri, fa, fs, wds, many, hues, rfl, _⟩ := h
    rfl
  · obtain ⟨ri, fa, fs, wds, many, hues, rfl, hrd, hf, gf, gr, hT, q⟩ := h
    refine ⟨_, (pss_one (ps_ret (pe_lc (own := [("number", 2), ("wish", 3)]) (g := gTup K 2 (gCons (gName 2) (gCons (gName 3) gNil))) rfl scBro.nd  (Et.pi_enumT (by rfl) T0.m_enumerate (pa_cons (pe_ix ix_tup (pv 0) pe_int (fun _ _ => rfl)) pa_nil)) (blkOk_by (own := [("number", 2), ("wish", 3)]) (N := nBro) (sc := defScope sBro) (by decide +kernel))
      (fun _ _ _ _ _ => (pg_tup rfl (pgs_cons (pg_name (i := 2) scBro.nd rfl (Or.inl rfl)) (pgs_cons (pg_name (i := 3) scBro.nd rfl (Or.inl rfl)) pgs_nil)))) (fun _ _ _ _ _ => pts_one (pt_val (pe_cal T0.c_is_broken (hr.mono (by omega)) (by rfl) (pa_cons (pv 3) (pa_cons (pv 1) pa_nil))))) (fun _ _ _ _ _ => (pv 2))))), ?_⟩
    obtain ⟨wt, was, h1, h2, h3⟩ := id hrd
    have hl : was.length = wds.length := pairedLen h3
    refine ⟨.ref ri, rfl, ri, _, 2, _, rfl, rfl, .inl (.inl h1), rfl, wt, was.map V.ref, rfl, .inl (.inl h2), fun D nD => ?_⟩
    refine Et.lc_enumT (K := K) (a := wt) (xs := was.map V.ref) (fun i H3 => FrS Ps H H3 ∧ H3 D = some (.lst ((broL fs wds i).map V.int))) ⟨FrS.of hT (same_upd nD), upd_same⟩ (fun i H3 _ p => .inl (.inl (p.1.tups hT _ _ h2))) (fun i x H3 T hx p nT => ?_) (fun H3 p => ?_)
    · obtain ⟨fr, hD⟩ := p
      rw [List.getElem?_map] at hx
      cases ew : was[i]? with
      | none => rw [ew] at hx; cases hx
      | some wa =>
        rw [ew] at hx
        cases hx
        obtain ⟨wd, hwd, isw⟩ := pairedGetL h3 ew
        have gw := gr.each wd (List.mem_of_getElem? hwd)
        have hi : i < was.length := (List.getElem?_eq_some_iff.mp ew).1
        have nDP : D ∉ Ps := hT.new nD
        have sT := same_upd (o := .tup [.int (i : Nat), .ref wa]) nT
        have fr2 : FrS Ps H (upd H3 T (.tup [.int (i : Nat), .ref wa])) := fr.same sT
        refine ⟨T, [.int i, .ref wa], rfl, .inl (.inl upd_same), rfl, .int i, [.ref wa], rfl, .ref wa, [], rfl, rfl, rfl, ?_⟩
        refine ⟨.ref wa, rfl, .ref fa, rfl, wa, fa, fs, wd, many, hues, rfl, isw.mono (fr2.tups hT), fr2.tups hT _ _ hf, gf, gw, gr.m6, gr.h4, fr2.2, fun H4 fr3 => ⟨_, rfl, ?_⟩⟩
        have fr4 := fr2.trans fr3
        have hD4 : H4 D = some (.lst ((broL fs wds i).map V.int)) := fr3.1 D _ nDP (sT _ _ hD)
        have eb := brkAt_of (fs := fs) hwd
        refine ite2 (fun e => ?_) (fun e => ?_)
        · refine ⟨.int i, rfl, _, hD4, ?_, fr4.put nD nDP, ?_⟩
          · rw [List.length_map]
            have := broL_len fs wds i
            have := gr.eight
            exact small1000 (by omega)
          · rw [upd_same, broL_yes (eb.trans e), List.map_append]
            rfl
        · refine ⟨fr4, ?_⟩
          rw [broL_no (eb.trans (by simpa using e))]
          exact hD4
    · obtain ⟨fr, hD⟩ := p
      rw [List.length_map, hl] at hD
      exact q H3 D fr nD hD
end
end Rd

set_option autoImplicit false
set_option Elab.async false
set_option linter.all false
set_option maxRecDepth 100000
set_option maxHeartbeats 4000000
namespace Rd
open PySem PySem.Spec PyProof.Rows L2 Dt
theorem sqB_seqs {Ps : List Addr} {k : Bool} {K : PySem.W.Frag} {H H' : Hp} {a : Addr} {xs : List V} (hT : Tabs Ps H) (f : FrS Ps H H') (h : (k = true ∧ H a = some (.lst xs)) ∨ (k = false ∧ H a = some (.tup xs))) : sqB k K H' a xs := by
  rcases h with ⟨rfl, h⟩ | ⟨rfl, h⟩
  · exact .inl (.inl ((f.seqs hT).2 _ _ h))
  · exact .inl (.inl ((f.seqs hT).1 _ _ h))
/-- a list or a tuple of whole numbers -/
def IsSq (k : Bool) (H : Hp) (a : Addr) (xs : List V) : Prop := (k = true ∧ H a = some (.lst xs)) ∨ (k = false ∧ H a = some (.tup xs))
def spStaE (Ps : List Addr) : Sp := fun vs H Q _ => ∃ (k : Bool) (ta ka : Addr) (tb : List (List Int)) (tk : List Int), vs = [.ref ta, .ref ka] ∧ IsTab (fun _ => False) H ta tb ∧ IsSq k H ka (tk.map V.int) ∧ GoodK tb tk ∧ tb.length ≤ 1000 ∧ Tabs Ps H ∧
  ∀ H' t, FrS Ps H H' → H t = none → H' t = some (.tup ((stand tb tk).map V.int)) → Q (.ref t) H'
def spHnxE (Ps : List Addr) : Sp := fun vs H Q _ => ∃ (k : Bool) (ta ka pa : Addr) (tb : List (List Int)) (tk ps : List Int), vs = [.ref ta, .ref ka, .ref pa] ∧ IsTab (fun _ => False) H ta tb ∧ IsSq k H ka (tk.map V.int) ∧ tk.length = tb.length ∧ H pa = some (.tup (ps.map V.int)) ∧ (∀ p ∈ ps, 0 ≤ p ∧ p < (tb.length : Int)) ∧ Tabs Ps H ∧
  ∀ H', FrS Ps H H' → Q (.bl (canN tb tk ps)) H'
section
variable {P : Program} {w : World} {K : PySem.W.Frag} {mg : Str → Option Value} {base : Heap}
theorem ok_staE {f c Pt : Addr} {Ps : List Addr} {fd : FuncData} {k : Nat} (F : FunC K "standing" "standing" sSta f fd (.ref c)) (TB : GxR.TabB base mg c Pt) (hP : Pt ∈ Ps) (T : TxtN mg) : FnOk P w K mg base CX0 (k + 3) f fd ["table", "taken"] (spStaE Ps) := by
  refine F.ok scSta (fun vs H Q E h => ?_) (fun A outer s H vs Q E hr h => ?_)
  · obtain ⟨kd, ta, ka, tb, tk, rfl, _⟩ := h
    rfl
  · obtain ⟨kd, ta, ka, tb, tk, rfl, ht, hk, gk, hl, hT, q⟩ := h
    refine ⟨_, (pss_one (ps_ret (Gx.pe_tupX (own := [("draws", 2), ("beyond", 3)]) (g := gTup K 2 (gCons (gName 2) (gCons (gName 3) gNil))) (te := tOp (rIxL K) (tVar 2) (tVar 3)) hr (by rfl) T.m_tuple rfl scSta.nd TB rfl (blkOk_by (own := [("draws", 2), ("beyond", 3)]) (N := nSta) (sc := defScope sSta) (by decide +kernel)) ⟨rfl, by decide +kernel, rfl⟩ (pi_zipM (by rfl) T.m_zip (pa_cons (pv 0) (pa_cons (pv 1) pa_nil)))
   (fun _ _ _ _ _ _ hA => (pg_tup rfl (pgs_cons (pg_name (i := 2) scSta.nd rfl (Or.inl rfl)) (pgs_cons (pg_name (i := 3) scSta.nd rfl (Or.inl rfl)) pgs_nil)))) (fun _ _ _ _ _ _ hA => pts_nil) (fun _ _ _ _ _ _ hA => (pe_ix ix_list (pv 2) (pv 3) (fun _ _ => rfl)))))), ?_⟩
    obtain ⟨das, h1, _, _, pr⟩ := id ht
    have dl := pairedLen pr
    have kl := gk.len
    refine ⟨.ref ta, rfl, .ref ka, rfl, true, kd, ta, ka, das.map V.ref, tk.map V.int, rfl, .inl (.inl h1), sqB_seqs hT (FrS.refl hT) hk, hT _ hP, fun H2 tb2 => ?_⟩
    have f2 := FrS.one hT hP tb2
    refine Gx.tup_zipM (K := K) (k1 := true) (k2 := kd) (a := ta) (b := ka) (xs := das.map V.ref) (ys := tk.map V.int) (by rw [List.length_map, List.length_map]; omega) (by rw [List.length_map]; exact Nat.le_of_lt (small1000 (by omega))) (fun i ys H3 => FrS Ps H H3 ∧ ys = ((stand tb tk).take i).map V.int) ⟨f2, rfl⟩ (fun i ys H3 f3 => ⟨.inl (.inl ((f3.1.seqs hT).2 _ _ h1)), sqB_seqs hT f3.1 hk⟩) (fun i ys H3 f3 => ?_) (fun i x y T ys H3 hx hy f3 nT => ?_) (fun ys H3 f3 => ?_)
    · rw [f3.2, List.length_map, List.length_take]
      omega
    · obtain ⟨d, ed, rfl⟩ := map_get hx
      obtain ⟨n, en, rfl⟩ := map_get hy
      obtain ⟨f3, rfl⟩ := f3
      obtain ⟨ds, eds, hd⟩ := pairedGetL pr ed
      have hi : i < tb.length := (List.getElem?_eq_some_iff.mp eds).1
      have a := gk.at_ i hi
      have e1 : tb.getD i [] = ds := by rw [List.getD_eq_getElem?_getD, eds]; rfl
      have e2 : tk.getD i 0 = n := by rw [List.getD_eq_getElem?_getD, en]; rfl
      rw [e1, e2] at a
      have sT := same_upd (o := .tup [.ref d, .int n]) nT
      have f4 := f3.same sT
      refine ⟨T, _, rfl, .inl (.inl upd_same), rfl, .ref d, [.int n], rfl, .int n, [], rfl, rfl, rfl, yes_if ?_⟩
      refine ⟨.ref d, rfl, .int n, rfl, d, _, n, _, rfl, rfl, .inl (.inl ((f4.seqs hT).2 _ _ hd)), atI_of a.1 (atT a.1 a.2), f4, ?_⟩
      rw [take_snoc (stand_get gk hi), e1, e2, List.map_append]
      rfl
    · obtain ⟨f3, rfl⟩ := f3
      rw [List.length_map, List.take_of_length_le (by rw [stand_len gk]; omega)]
      exact fun t nt => q _ t (f3.same (same_upd nt)) (f3.free nt) upd_same
theorem ok_hnxE {f c Pt : Addr} {Ps : List Addr} {fd : FuncData} {k : Nat} (F : FunC K "have_next" "have_next" sHnx f fd (.ref c)) (TB : GxR.TabB base mg c Pt) (hP : Pt ∈ Ps) (T : TxtN mg) : FnOk P w K mg base CX0 (k + 2) f fd ["table", "taken", "places"] (spHnxE Ps) := by
  refine F.ok scHnx (fun vs H Q E h => ?_) (fun A outer s H vs Q E hr h => ?_)
  · obtain ⟨kd, ta, ka, pa, tb, tk, ps, rfl, _⟩ := h
    rfl
  · obtain ⟨kd, ta, ka, pa, tb, tk, ps, rfl, ht, hk, kl, hp, hpl, hT, q⟩ := h
    refine ⟨_, (pss_one (ps_ret (Gx.pe_allX (own := [("place", 3)]) (te := tOp (rI0 fun i j => .bl (decide (i < j))) (tOp (rI0 fun i j => .int (i + j)) (tOp (rIxE K) (tVar 1) (tVar 3)) (tC (.int 1))) (tCB (rLen K) (tCons (tOp (rIxL K) (tVar 0) (tVar 3)) tNil))) hr (by rfl) T.m_all rfl scHnx.nd TB rfl (blkOk_by (own := [("place", 3)]) (N := nHnx) (sc := defScope sHnx) (by decide +kernel)) ⟨rfl, by decide +kernel, rfl⟩ (pi_tup (pv 2))
   (fun _ _ _ _ _ _ hA => (pg_name (i := 3) scHnx.nd rfl (Or.inl rfl))) (fun _ _ _ _ _ _ hA => pts_nil) (fun _ _ _ _ _ _ hA => (pe_cmpR op_lt (pe_op op_add (pe_ix ix_seqE (pv 1) (pv 3) (fun _ _ => rfl)) pe_int) (pe_callB call_len_seq (by rfl) T.m_len (by decide +kernel) (pa_cons (pe_ix ix_list (pv 0) (pv 3) (fun _ _ => rfl)) pa_nil)) (nomark _)))))), ?_⟩
    obtain ⟨das, h1, _, _, pr⟩ := id ht
    have dl := pairedLen pr
    refine ⟨.ref pa, rfl, pa, rfl, ⟨_, .inl (.inl hp)⟩, hT _ hP, fun H2 tb2 => ?_⟩
    have f2 := FrS.one hT hP tb2
    refine Gx.all_tup (K := K) (a := pa) (xs := ps.map V.int) (fun i H3 => FrS Ps H H3 ∧ canN tb tk (ps.take i) = true) ⟨f2, rfl⟩ (fun i H3 _ f3 => .inl (.inl (f3.1.tups hT _ _ hp))) (fun i x H3 hx f3 => ?_) (fun H3 f3 => ?_)
    · obtain ⟨p, ep, rfl⟩ := map_get hx
      obtain ⟨f3, e3⟩ := f3
      have hpp := hpl p (List.mem_of_getElem? ep)
      have hpn : p.toNat < das.length := by omega
      obtain ⟨ds, eds, hd⟩ := pairedGetL pr (List.getElem?_eq_getElem hpn)
      have sq := f3.seqs hT
      have e1 : lenAt tb p = (ds.length : Int) := by rw [lenAt, List.getD_eq_getElem?_getD, eds]; rfl
      refine ⟨rfl, yes_if ?_⟩
      refine ⟨.ref ka, rfl, .int p, rfl, kd, ka, _, p, _, rfl, rfl, sqB_seqs hT f3 hk, atI_of hpp.1 (atT hpp.1 (by omega)), _, _, rfl, rfl, .ref ta, rfl, .int p, rfl, ta, _, p, _, rfl, rfl, .inl (.inl (sq.2 _ _ h1)), atI_of hpp.1 (List.getElem?_eq_getElem hpn), _, _, rfl, .inl (.inl (.inl (sq.2 _ _ hd))), _, _, rfl, rfl, _, rfl, ?_⟩
      have e4 : canN tb tk (ps.take (i + 1)) = (canN tb tk (ps.take i) && decide (atF tk p + 1 < lenAt tb p)) := by
        rw [take_snoc ep, canN, canN, List.all_append]
        simp
      rw [List.length_map, ← e1]
      cases c : decide (atF tk p + 1 < lenAt tb p) with
      | true =>
        rw [if_pos rfl]
        exact ⟨f3, by rw [e4, e3, c]; rfl⟩
      | false =>
        rw [if_neg (by decide)]
        have e5 : canN tb tk ps = false := by
          rw [canN, List.all_eq_false]
          exact ⟨p, List.mem_of_getElem? ep, by rw [c]; decide⟩
        have := q H3 f3
        rw [e5] at this
        exact this
    · obtain ⟨f3, e3⟩ := f3
      rw [List.length_map, List.take_length] at e3
      have := q H3 f3
      rw [e3] at this
      exact this
end
end Rd

set_option autoImplicit false
set_option Elab.async false
set_option linter.all false
set_option maxRecDepth 100000
set_option maxHeartbeats 4000000
namespace Rd
open PySem PySem.Spec PyProof.Rows L2 Dt
abbrev sTko : Stmt := topS 9
abbrev nTko : List Str := ["taken", "places", "place", "beyond"]
theorem scTko : FnScope nTko ["taken", "places"] (defScope sTko) := ⟨rfl, rfl, rfl, by decide +kernel, rfl, by decide +kernel, by decide +kernel⟩
abbrev sMds : Stmt := topS 10
abbrev nMds : List Str := ["riddle", "table", "taken", "wishes", "number"]
theorem scMds : FnScope nMds ["riddle", "table", "taken"] (defScope sMds) := ⟨rfl, rfl, rfl, by decide +kernel, rfl, by decide +kernel, by decide +kernel⟩
theorem layIF : ∀ ns : List Int, PyData.canLayAll0 (ns.map PyData.int) = true
  | [] => rfl
  | _ :: r => by
    rw [List.map_cons]
    show (true && PyData.canLayAll0 (r.map PyData.int)) = true
    rw [layIF r]
    rfl
theorem depIF : ∀ ns : List Int, PyData.depthAll (ns.map PyData.int) ≤ 1
  | [] => by simp [PyData.depthAll]
  | _ :: r => by
    have := depIF r
    rw [List.map_cons]
    simp only [PyData.depthAll, PyData.depth]
    omega
theorem shpTup (ns : List Int) : SeqAt.shaped (.tuple (ns.map PyData.int)) = true := by
  have a := depIF ns
  have d : PyData.depth (.tuple (ns.map PyData.int)) ≤ 64 := by
    simp only [PyData.depth]
    omega
  have l : PyData.canLay0 (.tuple (ns.map PyData.int)) = true := by
    simp only [PyData.canLay0]
    exact layIF ns
  show (PyData.canLay0 (.tuple (ns.map PyData.int)) && decide (PyData.depth (.tuple (ns.map PyData.int)) ≤ 64)) = true
  rw [l, decide_eq_true d]
  rfl
theorem shpInt (i : Int) : SeqAt.shaped (.int i) = true := rfl
/-- one draw more at each of these places -/
def bumpM (tk ps : List Int) : List Int := (List.range tk.length).map fun (i : Nat) => if (i : Int) ∈ ps then tk.getD i 0 + 1 else tk.getD i 0
theorem bumpM_len (tk ps : List Int) : (bumpM tk ps).length = tk.length := by
  unfold bumpM
  rw [List.length_map, List.length_range]
/-- the mendings that may be next, and where they lead -/
def mendM (wds : List WD) (tb : List (List Int)) (tk : List Int) : List (Int × List Int) := ((broL (stand tb tk) wds wds.length).filter fun k => canN tb tk (plc wds k)).map fun k => (k, bumpM tk (plc wds k))
def IsMd (H : Hp) (m : Addr) (x : Int × List Int) : Prop := ∃ t, H m = some (.tup [.int x.1, .ref t]) ∧ H t = some (.tup (x.2.map V.int))
theorem IsMd.mono {H H' : Hp} {m : Addr} {x : Int × List Int} (t : Tups H H') (h : IsMd H m x) : IsMd H' m x := by
  obtain ⟨a, h1, h2⟩ := h
  exact ⟨a, t _ _ h1, t _ _ h2⟩
def spTko (Ps : List Addr) : Sp := fun vs H Q _ => ∃ (ka pa : Addr) (tk ps : List Int), vs = [.ref ka, .ref pa] ∧ H ka = some (.tup (tk.map V.int)) ∧ H pa = some (.tup (ps.map V.int)) ∧ tk.length ≤ 999 ∧ ps.length ≤ 999 ∧ Tabs Ps H ∧
  ∀ H' t, FrS Ps H H' → H t = none → H' t = some (.tup ((bumpM tk ps).map V.int)) → Q (.ref t) H'
def spMds (Ps : List Addr) : Sp := fun vs H Q _ => ∃ (ri ta ka : Addr) (wds : List WD) (many hues : Int) (tb : List (List Int)) (tk : List Int), vs = [.ref ri, .ref ta, .ref ka] ∧ IsRid H ri many hues wds ∧ GoodR many hues wds ∧ IsTab (fun _ => False) H ta tb ∧ H ka = some (.tup (tk.map V.int)) ∧ GoodK tb tk ∧ GoodF many hues (stand tb tk) ∧ (tb.length : Int) = many ∧ Tabs Ps H ∧
  ∀ H' l ms, FrS Ps H H' → H l = none → H' l = some (.lst (ms.map V.ref)) → Paired (IsMd H') ms (mendM wds tb tk) → Q (.ref l) H'
structure TxtTko (mg : Str → Option Value) : Prop where
  m_tuple : mg "tuple" = none
  m_enumerate : mg "enumerate" = none
structure TxtMds (P : Program) (w : World) (K : PySem.W.Frag) (mg : Str → Option Value) (base : Heap) (Ps : List Addr) : Prop where
  c_broken : Cal P w K mg base 5 "broken" ["riddle", "filling"] (spBro Ps)
  c_standing : Cal P w K mg base 3 "standing" ["table", "taken"] (spStaE Ps)
  c_have_next : Cal P w K mg base 2 "have_next" ["table", "taken", "places"] (spHnxE Ps)
  c_taken_on : Cal P w K mg base 3 "taken_on" ["taken", "places"] (spTko Ps)
section
variable {P : Program} {w : World} {K : PySem.W.Frag} {mg : Str → Option Value} {base : Heap}
theorem ok_tko {f c Pt : Addr} {Ps : List Addr} {fd : FuncData} {k : Nat} (F : FunC K "taken_on" "taken_on" sTko f fd (.ref c)) (TB : GxR.TabB base mg c Pt) (hP : Pt ∈ Ps) (T : TxtTko mg) : FnOk P w K mg base CX0 (k + 3) f fd ["taken", "places"] (spTko Ps) := by
  refine F.ok scTko (fun vs H Q E h => ?_) (fun A outer s H vs Q E hr h => ?_)
  · obtain ⟨ka, pa, tk, ps, rfl, _⟩ := h
    rfl
  · obtain ⟨ka, pa, tk, ps, rfl, hk, hp, kl, pl, hT, q⟩ := h
    refine ⟨_, (pss_one (ps_ret (Gx.pe_tupX (own := [("place", 2), ("beyond", 3)]) (g := gTup K 2 (gCons (gName 2) (gCons (gName 3) gNil))) (te := tIf (tTest (tOp (Dt.rInT K) (tVar 2) (tVar 1))) (tOp (rI0 fun i j => .int (i + j)) (tVar 3) (tC (.int 1))) (tVar 3)) hr (by rfl) T.m_tuple rfl scTko.nd TB rfl (blkOk_by (own := [("place", 2), ("beyond", 3)]) (N := nTko) (sc := defScope sTko) (by decide +kernel)) ⟨rfl, by decide +kernel, rfl⟩ (Et.pi_enumT (by rfl) T.m_enumerate (pa_cons (pv 0) pa_nil))
   (fun _ _ _ _ _ _ hA => (pg_tup rfl (pgs_cons (pg_name (i := 2) scTko.nd rfl (Or.inl rfl)) (pgs_cons (pg_name (i := 3) scTko.nd rfl (Or.inl rfl)) pgs_nil)))) (fun _ _ _ _ _ _ hA => pts_nil) (fun _ _ _ _ _ _ hA => (pe_ifExp (pt_cmpR (Dt.op_inT (units65 hA)) (pv 2) (pv 1) (by rfl)) (pe_op op_add (pv 3) pe_int) (pv 3)))))), ?_⟩
    refine ⟨.ref ka, rfl, ka, _, rfl, .inl (.inl hk), hT _ hP, fun H2 tb2 => ?_⟩
    have f2 := FrS.one hT hP tb2
    refine Gx.tup_enumT (K := K) (a := ka) (xs := tk.map V.int) (by rw [List.length_map]; exact Nat.le_of_lt (small1000 (by omega))) (fun i zs H3 => FrS Ps H H3 ∧ zs = ((bumpM tk ps).take i).map V.int) ⟨f2, rfl⟩ (fun i zs H3 p => .inl (.inl (p.1.tups hT _ _ hk))) (fun i zs H3 p => ?_) (fun i x Tt zs H3 hx p nT => ?_) (fun zs H3 p => ?_)
    · rw [p.2, List.length_map, List.length_take]
      omega
    · obtain ⟨b, eb, rfl⟩ := map_get hx
      obtain ⟨f3, rfl⟩ := p
      have il := (List.getElem?_eq_some_iff.mp eb).1
      have f4 := f3.same (same_upd (o := .tup [.int ((i : Nat) : Int), .int b]) nT)
      refine ⟨Tt, _, rfl, .inl (.inl upd_same), rfl, .int _, [.int b], rfl, .int b, [], rfl, rfl, rfl, yes_if ?_⟩
      refine ⟨.int _, rfl, .ref pa, rfl, .int ((i : Nat) : Int), ps.map .int, .int _, .tup (.inl (.inl (f4.tups hT _ _ hp))) (dpInts _), ?_, ?_, _, rfl, ?_⟩
      · exact shpInt _
      · exact shpTup _
      · rw [Gv.any_ints]
        have e1 : (bumpM tk ps)[i]? = some (if ((i : Nat) : Int) ∈ ps then b + 1 else b) := by
          unfold bumpM
          rw [List.getElem?_map, List.getElem?_range il]
          have e2 : tk.getD i 0 = b := by rw [List.getD_eq_getElem?_getD, eb]; rfl
          show some (if ((i : Nat) : Int) ∈ ps then tk.getD i 0 + 1 else tk.getD i 0) = _
          rw [e2]
        rw [take_snoc e1]
        by_cases c : ((i : Nat) : Int) ∈ ps
        · dsimp only
          rw [if_pos (decide_eq_true c), if_pos c]
          refine ⟨.int b, rfl, b, 1, rfl, rfl, f4, ?_⟩
          rw [List.map_append]
          rfl
        · dsimp only
          rw [if_neg (by rw [decide_eq_false c]; decide), if_neg c]
          refine ⟨.int b, rfl, f4, ?_⟩
          rw [List.map_append]
          rfl
    · obtain ⟨f3, rfl⟩ := p
      rw [List.length_map, List.take_of_length_le (by rw [bumpM_len]; exact Nat.le_refl _)]
      exact fun t nt => q _ t (f3.same (same_upd nt)) (f3.free nt) upd_same
theorem ok_mds {f : Addr} {Ps : List Addr} {fd : FuncData} {k : Nat} (F : Fun K "mendings" "mendings" sMds f fd) (T : TxtMds P w K mg base Ps) : FnOk P w K mg base CX0 (k + 6) f fd ["riddle", "table", "taken"] (spMds Ps) := by
  refine F.ok scMds (fun vs H Q E h => ?_) (fun cdv A outer s H vs Q E hr h => ?_)
  · obtain ⟨ri, ta, ka, wds, many, hues, tb, tk, rfl, _⟩ := h
    rfl
  · obtain ⟨ri, ta, ka, wds, many, hues, tb, tk, rfl, hrd, g, htb, hk, gk, gf, tl, hT, q⟩ := h
    refine ⟨_, (pss_cons (ps_set (i := 3) scMds.nd rfl (Or.inr rfl) (pe_ix ix_tup (pv 0) pe_int (fun _ _ => rfl)))
  (pss_one (ps_ret (pe_lc (tt := tB (tCall (spHnxE Ps) [] E0 (tCons (tVar 1) (tCons (tVar 2) (tCons (tOp (rIxT K) (tOp (rIxT K) (tVar 3) (tVar 4)) (tC (.int 0))) tNil))))) (te := tTup (tCons (tVar 4) (tCons (tCall (spTko Ps) [] E0 (tCons (tVar 2) (tCons (tOp (rIxT K) (tOp (rIxT K) (tVar 3) (tVar 4)) (tC (.int 0))) tNil))) tNil))) (own := [("number", 4)]) rfl scMds.nd  (pi_list (pe_cal T.c_broken (hr.mono (by omega)) (by rfl) (pa_cons (pv 0) (pa_cons (pe_cal T.c_standing (hr.mono (by omega)) (by rfl) (pa_cons (pv 1) (pa_cons (pv 2) pa_nil))) pa_nil)))) (blkOk_by (own := [("number", 4)]) (N := nMds) (sc := defScope sMds) (by decide +kernel))
   (fun _ _ _ _ _ => (pg_name (i := 4) scMds.nd rfl (Or.inl rfl))) (fun _ _ _ _ _ => pts_one (pt_val (pe_cal T.c_have_next (hr.mono (by omega)) (by rfl) (pa_cons (pv 1) (pa_cons (pv 2) (pa_cons (pe_ix ix_tup (pe_ix ix_tup (pv 3) (pv 4) (fun _ _ => rfl)) pe_int (fun _ _ => rfl)) pa_nil)))))) (fun _ _ _ _ _ => (pe_tup (pa_cons (pv 4) (pa_cons (pe_cal T.c_taken_on (hr.mono (by omega)) (by rfl) (pa_cons (pv 2) (pa_cons (pe_ix ix_tup (pe_ix ix_tup (pv 3) (pv 4) (fun _ _ => rfl)) pe_int (fun _ _ => rfl)) pa_nil))) pa_nil)))))))), ?_⟩
    obtain ⟨wt, was, i1, i2, i3⟩ := id hrd
    have wl := pairedLen i3
    have m6 := g.m6
    have e8 := g.eight
    refine ⟨.ref ri, rfl, ri, _, 2, _, rfl, rfl, .inl (.inl i1), rfl, ?_⟩
    refine ⟨.ref ri, rfl, .ref ta, rfl, .ref ka, rfl, false, ta, ka, tb, tk, rfl, htb, .inr ⟨rfl, hk⟩, gk, by omega, hT, fun H1 fa f1 nfa hfa => ?_⟩
    refine ⟨ri, fa, _, wds, many, hues, rfl, hrd.mono (f1.tups hT), hfa, gf, g, f1.2, fun H2 lb f2 nlb hlb => ?_⟩
    have F2 := f1.trans f2
    have hT2 := F2.2
    have blm : ∀ n ∈ broL (stand tb tk) wds wds.length, 0 ≤ n ∧ n < (wds.length : Int) := fun n hn => broL_mem hn
    have bll := broL_len (stand tb tk) wds wds.length
    obtain ⟨bl, ebl⟩ : ∃ bl, bl = broL (stand tb tk) wds wds.length := ⟨_, rfl⟩
    rw [← ebl] at hlb blm bll
    refine ⟨lb, rfl, ⟨_, .inl (.inl hlb)⟩, fun L nL => ?_⟩
    have nLP := hT2.new nL
    refine lc_list (K := K) (a := lb) (xs := bl.map V.int) (fun i H3 => FrS Ps H2 H3 ∧ ∃ ms : List Addr, H3 L = some (.lst (ms.map V.ref)) ∧ ms.length ≤ i ∧ Paired (IsMd H3) ms (((bl.take i).filter fun k => canN tb tk (plc wds k)).map fun k => (k, bumpM tk (plc wds k)))) ⟨FrS.of hT2 (same_upd nL), [], upd_same, Nat.le_refl _, .nil⟩ (fun i H3 _ p => .inl (.inl ((p.1.seqs hT2).2 _ _ hlb))) (fun i x H3 hx p => ?_) (fun H3 p => ?_)
    · obtain ⟨n, en, rfl⟩ := map_get hx
      obtain ⟨f3, ms, hL, ml, pm⟩ := p
      have il := (List.getElem?_eq_some_iff.mp en).1
      obtain ⟨n0, n1⟩ := blm n (List.mem_of_getElem? en)
      have nl : n.toNat < wds.length := by omega
      obtain ⟨wa, ewa, isw⟩ := pairedGet i3 (List.getElem?_eq_getElem nl)
      have gd := g.each _ (List.getElem_mem nl)
      have ep : plc wds n = wds[n.toNat].1 := by
        unfold plc
        rw [List.getD_eq_getElem?_getD, List.getElem?_eq_getElem nl]
        rfl
      obtain ⟨pa, ra, rs, w1, w2, w3, w4⟩ := id isw
      have p3 := gd.three
      have F3 := F2.trans f3
      have t3 := F3.tups hT
      have sq3 := F3.seqs hT
      have hpl : ∀ p ∈ wds[n.toNat].1, 0 ≤ p ∧ p < (tb.length : Int) := fun p hp => by
        have := gd.pl p hp
        omega
      have htb3 : IsTab (fun _ => False) H3 ta tb := htb.mono fun b xs _ e => sq3.2 _ _ e
      refine ⟨rfl, .ref ta, rfl, .ref ka, rfl, .ref wt, rfl, .int n, rfl, wt, _, n, .ref wa, rfl, rfl, .inl (.inl (t3 _ _ i2)), atI_of n0 ewa, wa, _, 0, .ref pa, rfl, rfl, .inl (.inl (t3 _ _ w1)), rfl, false, ta, ka, pa, tb, tk, wds[n.toNat].1, rfl, htb3, .inr ⟨rfl, t3 _ _ hk⟩, gk.len, t3 _ _ w2, hpl, F3.2, fun H4 f4 => ⟨_, rfl, ?_⟩⟩
      have et : ((bl.take (i + 1)).filter fun k => canN tb tk (plc wds k)).map (fun k => (k, bumpM tk (plc wds k))) = ((bl.take i).filter fun k => canN tb tk (plc wds k)).map (fun k => (k, bumpM tk (plc wds k))) ++ ([n].filter fun k => canN tb tk (plc wds k)).map (fun k => (k, bumpM tk (plc wds k))) := by
        rw [take_snoc en, List.filter_append, List.map_append]
      have F4 := F3.trans f4
      have t4 := F4.tups hT
      have hL4 := f4.1 L _ nLP hL
      cases c : canN tb tk wds[n.toNat].1 with
      | true =>
        dsimp only
        rw [if_pos rfl]
        refine ⟨.int n, rfl, .ref ka, rfl, .ref wt, rfl, .int n, rfl, wt, _, n, .ref wa, rfl, rfl, .inl (.inl (t4 _ _ i2)), atI_of n0 ewa, wa, _, 0, .ref pa, rfl, rfl, .inl (.inl (t4 _ _ w1)), rfl, ka, pa, tk, wds[n.toNat].1, rfl, t4 _ _ hk, t4 _ _ w2, by have := gk.len; omega, by omega, F4.2, fun H5 t f5 nt ht => ⟨(by show 2 ≤ sizeLine; decide), fun m nm => ?_⟩⟩
        have hL5 := f5.1 L _ nLP hL4
        have sm := same_upd (o := .tup [.int n, .ref t]) nm
        have F5 := ((f3.trans f4).trans f5).same sm
        have tu : Tups (upd H5 m (.tup [.int n, .ref t])) (upd (upd H5 m (.tup [.int n, .ref t])) L (.lst (ms.map V.ref ++ [.ref m]))) := tups_upd fun xs z => by rw [sm _ _ hL5] at z; cases z
        refine ⟨ms.map V.ref, sm _ _ hL5, ?_, F5.put nL nLP, ms ++ [m], ?_, ?_, ?_⟩
        · rw [List.length_map]
          exact small1000 (by omega)
        · rw [upd_same, List.map_append]
          rfl
        · rw [List.length_append]
          show ms.length + 1 ≤ i + 1
          omega
        · rw [et, List.filter_cons, ep, c]
          refine pairedSnoc (pairedMap (fun _ _ e => IsMd.mono tu (IsMd.mono (((f4.trans f5).same sm).tups F3.2) e)) pm) ⟨t, tu _ _ upd_same, ?_⟩
          show upd _ L _ t = some (.tup ((bumpM tk (plc wds n)).map V.int))
          rw [ep]
          exact tu _ _ (sm _ _ ht)
      | false =>
        dsimp only
        rw [if_neg (by decide)]
        refine ⟨f3.trans f4, ms, hL4, by omega, ?_⟩
        rw [et, List.filter_cons, ep, c]
        show Paired _ ms (_ ++ [])
        rw [List.append_nil]
        exact pairedMap (fun _ _ e => IsMd.mono (f4.tups F3.2) e) pm
    · obtain ⟨f3, ms, hL, ml, pm⟩ := p
      rw [List.length_map, List.take_length, ebl] at pm
      exact q H3 L ms (F2.trans f3) (F2.free nL) hL pm
end
end Rd

set_option autoImplicit false
set_option Elab.async false
set_option linter.all false
set_option maxRecDepth 100000
set_option maxHeartbeats 4000000
/-! searching in breadth, by what it has found -/
namespace Rd
open PySem PySem.Spec PyProof.Rows L2 Dt
/-- one found: the draws taken, how deep, and whence by which wish -/
abbrev Ent := List Int × Int × Option (Int × List Int)
/-- a table of so many draws: what the search needs -/
structure GoodS (many hues : Int) (tb : List (List Int)) : Prop where
  len : (tb.length : Int) = many
  one : ∀ ds ∈ tb, 1 ≤ ds.length
  hue : ∀ ds ∈ tb, ∀ h ∈ ds, 0 ≤ h ∧ h < hues
section
variable {many hues : Int} {tb : List (List Int)} {wds : List WD}
theorem zerosS_good (g : GoodS many hues tb) : GoodK tb (zerosI tb.length) := by
  refine ⟨by simp [zerosI], fun p hp => ?_⟩
  rw [zeros_get]
  have := g.one _ (Dt.getD_mem (d := []) hp)
  omega
theorem standS_good {tk : List Int} (gt : GoodS many hues tb) (g : GoodK tb tk) : GoodF many hues (stand tb tk) := by
  refine ⟨by rw [stand_len g]; exact gt.len, fun h hh => ?_⟩
  obtain ⟨p, hp⟩ := List.getElem?_of_mem hh
  have il := (List.getElem?_eq_some_iff.mp hp).1
  rw [stand_len g] at il
  rw [stand_get g il] at hp
  cases hp
  have a := g.at_ p il
  unfold atF
  exact gt.hue _ (Dt.getD_mem (d := []) il) _ (Dt.getD_mem (by omega))
theorem bumpM_get {tk ps : List Int} {p : Nat} (hp : p < tk.length) : (bumpM tk ps).getD p 0 = if (p : Int) ∈ ps then tk.getD p 0 + 1 else tk.getD p 0 := by
  unfold bumpM
  rw [List.getD_eq_getElem?_getD, List.getElem?_map, List.getElem?_range hp]
  rfl
theorem mend_mem {tk : List Int} {m : Int × List Int} (h : m ∈ mendM wds tb tk) : m.1 ∈ broL (stand tb tk) wds wds.length ∧ canN tb tk (plc wds m.1) = true ∧ m.2 = bumpM tk (plc wds m.1) := by
  unfold mendM at h
  obtain ⟨k, hk, rfl⟩ := List.mem_map.mp h
  obtain ⟨h1, h2⟩ := List.mem_filter.mp hk
  exact ⟨h1, h2, rfl⟩
theorem mend_good {tk : List Int} (g : GoodK tb tk) {m : Int × List Int} (h : m ∈ mendM wds tb tk) : GoodK tb m.2 := by
  obtain ⟨_, h2, e⟩ := mend_mem h
  rw [e]
  refine ⟨by rw [bumpM_len]; exact g.len, fun p hp => ?_⟩
  have a := g.at_ p hp
  rw [bumpM_get (by rw [g.len]; exact hp)]
  by_cases c : (p : Int) ∈ plc wds m.1
  · rw [if_pos c]
    have z := List.all_eq_true.mp h2 _ c
    have z := of_decide_eq_true z
    unfold atF lenAt at z
    rw [Int.toNat_natCast] at z
    omega
  · rw [if_neg c]
    exact a
theorem good_box {tk : List Int} (g : GoodK tb tk) : tk ∈ boxL (tb.map List.length) := by
  refine box_mem (by rw [List.length_map]; exact g.len) fun p hp => ?_
  rw [List.length_map] at hp
  have a := g.at_ p hp
  have e : (tb.map List.length).getD p 0 = (tb.getD p []).length := by
    rw [List.getD_eq_getElem?_getD, List.getElem?_map, List.getD_eq_getElem?_getD, List.getElem?_eq_getElem hp]
    rfl
  rw [e]
  exact a
/-- found, and at most one deeper -/
def Near (es : List Ent) (e : Ent) (t : List Int) : Prop := ∃ f ∈ es, f.1 = t ∧ f.2.1 ≤ e.2.1 + 1
/-- how far the search is: all ahead of at is done, and part of what leads on from at -/
structure Bfs (wds : List WD) (tb : List (List Int)) (es : List Ent) (at_ part : Nat) : Prop where
  start : es[0]? = some (zerosI tb.length, 0, none)
  nd : (es.map (·.1)).Nodup
  good : ∀ e ∈ es, GoodK tb e.1
  back : ∀ (j : Nat) (e : Ent) (n : Int) (b : List Int), es[j]? = some e → e.2.2 = some (n, b) → ∃ (i : Nat) (d : Ent), i < j ∧ i ≤ at_ ∧ es[i]? = some d ∧ d.1 = b ∧ e.2.1 = d.2.1 + 1 ∧ (n, e.1) ∈ mendM wds tb b
  first : ∀ (j : Nat) (e : Ent), es[j]? = some e → e.2.2 = none → j = 0
  done : ∀ (i : Nat) (e : Ent), i < at_ → es[i]? = some e → broL (stand tb e.1) wds wds.length ≠ [] ∧ ∀ m ∈ mendM wds tb e.1, Near es e m.2
  doing : ∀ (e : Ent), es[at_]? = some e → ∀ m ∈ (mendM wds tb e.1).take part, Near es e m.2
  mono : ∀ (i j : Nat) (e f : Ent), i ≤ j → es[i]? = some e → es[j]? = some f → e.2.1 ≤ f.2.1
  near : ∀ (j : Nat) (e f : Ent), es[at_]? = some f → es[j]? = some e → e.2.1 ≤ f.2.1 + 1
theorem Bfs.few {es : List Ent} {a p : Nat} (h : Bfs wds tb es a p) : es.length ≤ prodL (tb.map List.length) := by
  have z := box_few (l := tb.map List.length) h.nd fun t ht => by
    obtain ⟨e, he, rfl⟩ := List.mem_map.mp ht
    exact good_box (h.good e he)
  rwa [List.length_map] at z
theorem Bfs.begin (g : GoodS many hues tb) : Bfs wds tb [(zerosI tb.length, 0, none)] 0 0 where
  start := rfl
  nd := List.nodup_cons.mpr ⟨List.not_mem_nil, List.nodup_nil⟩
  good := fun e he => by
    rw [List.mem_singleton.mp he]
    exact zerosS_good g
  back := fun j e n b hj hb => by
    cases j with
    | zero => cases hj; cases hb
    | succ j => cases hj
  first := fun j e hj _ => by
    cases j with
    | zero => rfl
    | succ j => cases hj
  done := fun i e hi => nomatch hi
  doing := fun e _ m hm => nomatch hm
  mono := fun i j e f _ hi hj => by
    cases i with
    | zero =>
      cases j with
      | zero => cases hi; cases hj; exact Int.le_refl _
      | succ j => cases hj
    | succ i => cases hi
  near := fun j e f ha hj => by
    cases ha
    cases j with
    | zero => cases hj; show (0 : Int) ≤ 0 + 1; decide
    | succ j => cases hj
/-- one that was found already -/
theorem Bfs.old {es : List Ent} {a p : Nat} {e : Ent} {m : Int × List Int} (h : Bfs wds tb es a p) (he : es[a]? = some e) (hm : (mendM wds tb e.1)[p]? = some m) (ho : m.2 ∈ es.map (·.1)) : Bfs wds tb es a (p + 1) :=
  ⟨h.start, h.nd, h.good, h.back, h.first, h.done, fun f hf x hx => by
    rw [he] at hf
    cases hf
    rw [take_snoc hm] at hx
    rcases List.mem_append.mp hx with z | z
    · exact h.doing e he x z
    · rw [List.mem_singleton.mp z]
      obtain ⟨f, hf, ef⟩ := List.mem_map.mp ho
      obtain ⟨j, hj⟩ := List.getElem?_of_mem hf
      exact ⟨f, hf, ef, h.near j f e he hj⟩, h.mono, h.near⟩
theorem get_snoc {α : Type} {l : List α} {x e : α} {j : Nat} (h : (l ++ [x])[j]? = some e) : l[j]? = some e ∨ (j = l.length ∧ e = x) := by
  by_cases c : j < l.length
  · rw [List.getElem?_append_left c] at h
    exact .inl h
  · rw [List.getElem?_append_right (by omega)] at h
    by_cases d : j = l.length
    · subst d
      rw [Nat.sub_self] at h
      cases h
      exact .inr ⟨rfl, rfl⟩
    · rw [List.getElem?_eq_none (by rw [List.length_singleton]; omega)] at h
      cases h
theorem get_more {α : Type} {l : List α} {x e : α} {j : Nat} (h : l[j]? = some e) : (l ++ [x])[j]? = some e := by
  rw [List.getElem?_append_left (List.getElem?_eq_some_iff.mp h).1]
  exact h
/-- a new one -/
theorem Bfs.new {es : List Ent} {a p : Nat} {e : Ent} {m : Int × List Int} (h : Bfs wds tb es a p) (he : es[a]? = some e) (hm : (mendM wds tb e.1)[p]? = some m) (hn : m.2 ∉ es.map (·.1)) : Bfs wds tb (es ++ [(m.2, e.2.1 + 1, some (m.1, e.1))]) a (p + 1) := by
  have al := (List.getElem?_eq_some_iff.mp he).1
  have mm := List.mem_of_getElem? hm
  have sub : ∀ d t, Near es d t → Near (es ++ [((m.2, e.2.1 + 1, some (m.1, e.1)) : Ent)]) d t := fun d t ht => by
    obtain ⟨f, hf, q⟩ := ht
    exact ⟨f, List.mem_append_left _ hf, q⟩
  have gn := mend_good (h.good e (List.mem_of_getElem? he)) mm
  have ea : (es ++ [((m.2, e.2.1 + 1, some (m.1, e.1)) : Ent)])[a]? = some e := get_more he
  refine ⟨get_more h.start, ?_, fun x hx => ?_, fun j x n b hj hb => ?_, fun j x hj hb => ?_, fun i x hi hx => ?_, fun x hx y hy => ?_, fun i j x f hij hi hj => ?_, fun j x f hf hj => ?_⟩
  · rw [List.map_append]
    refine List.nodup_append.mpr ⟨h.nd, List.nodup_cons.mpr ⟨List.not_mem_nil, List.nodup_nil⟩, fun b hb c hc => ?_⟩
    rw [List.mem_singleton.mp hc]
    exact fun z => hn (by
      have z : b = m.2 := z
      rw [← z]
      exact hb)
  · rcases List.mem_append.mp hx with z | z
    · exact h.good x z
    · rw [List.mem_singleton.mp z]
      exact gn
  · rcases get_snoc hj with z | ⟨rfl, rfl⟩
    · obtain ⟨i, d, q1, q2, q3, q4⟩ := h.back j x n b z hb
      exact ⟨i, d, q1, q2, get_more q3, q4⟩
    · cases hb
      exact ⟨a, e, al, Nat.le_refl _, ea, rfl, rfl, mm⟩
  · rcases get_snoc hj with z | ⟨rfl, rfl⟩
    · exact h.first j x z hb
    · cases hb
  · rcases get_snoc hx with z | ⟨rfl, rfl⟩
    · obtain ⟨q1, q2⟩ := h.done i x hi z
      exact ⟨q1, fun y hy => sub _ _ (q2 y hy)⟩
    · omega
  · rw [ea] at hx
    cases hx
    rw [take_snoc hm] at hy
    rcases List.mem_append.mp hy with z | z
    · exact sub _ _ (h.doing e he y z)
    · rw [List.mem_singleton.mp z]
      exact ⟨_, List.mem_append_right _ (List.mem_singleton.mpr rfl), rfl, Int.le_refl _⟩
  · rcases get_snoc hj with zj | ⟨rfl, rfl⟩
    · rcases get_snoc hi with zi | ⟨rfl, rfl⟩
      · exact h.mono i j x f hij zi zj
      · have := (List.getElem?_eq_some_iff.mp zj).1
        omega
    · rcases get_snoc hi with zi | ⟨rfl, rfl⟩
      · exact h.near i x e he zi
      · exact Int.le_refl _
  · rw [ea] at hf
    cases hf
    rcases get_snoc hj with z | ⟨rfl, rfl⟩
    · exact h.near j x e he z
    · exact Int.le_refl _
/-- on to the next -/
theorem Bfs.next {es : List Ent} {a : Nat} {e : Ent} (h : Bfs wds tb es a (mendM wds tb e.1).length) (he : es[a]? = some e) (hb : broL (stand tb e.1) wds wds.length ≠ []) : Bfs wds tb es (a + 1) 0 where
  start := h.start
  nd := h.nd
  good := h.good
  back := fun j x n b hj hb => by
    obtain ⟨i, d, q1, q2, q⟩ := h.back j x n b hj hb
    exact ⟨i, d, q1, by omega, q⟩
  first := h.first
  done := fun i x hi hx => by
    by_cases c : i < a
    · exact h.done i x c hx
    · obtain rfl : i = a := by omega
      rw [he] at hx
      cases hx
      refine ⟨hb, fun m hm => h.doing e he m ?_⟩
      rw [List.take_length]
      exact hm
  doing := fun x _ m hm => by
    rw [List.take_zero] at hm
    exact nomatch hm
  mono := h.mono
  near := fun j x f hf hj => by
    have n1 := h.near j x e he hj
    have n2 := h.mono a (a + 1) e f (by omega) he hf
    omega
/-- by these wishes from there to there -/
def Steps (wds : List WD) (tb : List (List Int)) : List Int → List Int → List Int → Prop
  | t, [], u => t = u
  | t, n :: ns, u => ∃ v, (n, v) ∈ mendM wds tb t ∧ Steps wds tb v ns u
theorem Steps.snoc : ∀ {ns : List Int} {t u v : List Int} {n : Int}, Steps wds tb t ns u → (n, v) ∈ mendM wds tb u → Steps wds tb t (ns ++ [n]) v
  | [], t, u, v, n, h, m => ⟨v, by rw [show t = u from h]; exact m, rfl⟩
  | k :: ns, t, u, v, n, h, m => by
    obtain ⟨w, hw, hr⟩ := h
    exact ⟨w, hw, Steps.snoc hr m⟩
theorem Steps.unsnoc : ∀ {ns : List Int} {t v : List Int} {n : Int}, Steps wds tb t (ns ++ [n]) v → ∃ u, Steps wds tb t ns u ∧ (n, v) ∈ mendM wds tb u
  | [], t, v, n, h => by
    obtain ⟨w, hw, hr⟩ := h
    rw [show w = v from hr] at hw
    exact ⟨t, rfl, hw⟩
  | k :: ns, t, v, n, h => by
    obtain ⟨w, hw, hr⟩ := h
    obtain ⟨u, h1, h2⟩ := Steps.unsnoc hr
    exact ⟨u, ⟨w, hw, h1⟩, h2⟩
theorem Bfs.at0 {es : List Ent} {a p : Nat} (h : Bfs wds tb es a p) {j : Nat} {e : Ent} (hj : es[j]? = some e) : 0 ≤ e.2.1 := h.mono 0 j _ e (Nat.zero_le _) h.start hj
/-- of depth none is the first alone -/
theorem Bfs.root {es : List Ent} {a p : Nat} (h : Bfs wds tb es a p) {j : Nat} {e : Ent} (hj : es[j]? = some e) (hd : e.2.1 ≤ 0) : e.1 = zerosI tb.length := by
  cases hb : e.2.2 with
  | none =>
    obtain rfl := h.first j e hj hb
    rw [h.start] at hj
    cases hj
    rfl
  | some nb =>
    obtain ⟨i, d, _, _, q3, _, q5, _⟩ := h.back j e nb.1 nb.2 hj hb
    have := h.at0 q3
    omega
/-- whatever may be reached is found no later, or something ahead is nearer -/
theorem Bfs.all {es : List Ent} {a : Nat} (h : Bfs wds tb es a 0) : ∀ (ns t : List Int), Steps wds tb (zerosI tb.length) ns t → (∃ (j : Nat) (e : Ent), es[j]? = some e ∧ e.1 = t ∧ e.2.1 ≤ (ns.length : Int)) ∨ ∃ (j : Nat) (e : Ent), a ≤ j ∧ es[j]? = some e ∧ e.2.1 ≤ (ns.length : Int) := by
  intro ns
  obtain ⟨k, hk⟩ : ∃ k, k = ns.length := ⟨_, rfl⟩
  induction k generalizing ns with
  | zero =>
    intro t ht
    rw [List.length_eq_zero_iff.mp hk.symm] at ht
    exact .inl ⟨0, _, h.start, ht, Int.natCast_nonneg _⟩
  | succ k ih =>
    intro t ht
    have ne : ns ≠ [] := fun z => by rw [z] at hk; cases hk
    have e := List.dropLast_concat_getLast ne
    rw [← e] at ht
    obtain ⟨u, h1, h2⟩ := Steps.unsnoc ht
    have dl : k = ns.dropLast.length := by rw [List.length_dropLast]; omega
    rcases ih ns.dropLast dl u h1 with ⟨j, d, hj, eu, hd⟩ | ⟨j, d, ha, hj, hd⟩
    · by_cases c : j < a
      · obtain ⟨f, hf, ef, lf⟩ := (h.done j d c hj).2 _ (by rw [eu]; exact h2)
        obtain ⟨i, hi⟩ := List.getElem?_of_mem hf
        exact .inl ⟨i, f, hi, ef, by omega⟩
      · exact .inr ⟨j, d, by omega, hj, by omega⟩
    · exact .inr ⟨j, d, ha, hj, by omega⟩
/-- the end found is reached by as many as it is deep, and no other with all kept by fewer -/
theorem Bfs.least {es : List Ent} {a : Nat} {e : Ent} (h : Bfs wds tb es a 0) (he : es[a]? = some e) {ns t : List Int} (hs : Steps wds tb (zerosI tb.length) ns t) (hk : broL (stand tb t) wds wds.length = []) : e.2.1 ≤ (ns.length : Int) := by
  rcases h.all ns t hs with ⟨j, d, hj, eu, hd⟩ | ⟨j, d, ha, hj, hd⟩
  · by_cases c : j < a
    · have := (h.done j d c hj).1
      rw [eu] at this
      exact (this hk).elim
    · have := h.mono a j e d (by omega) he hj
      omega
  · have := h.mono a j e d ha he hj
    omega
theorem Bfs.never {es : List Ent} (h : Bfs wds tb es es.length 0) {ns t : List Int} (hs : Steps wds tb (zerosI tb.length) ns t) : broL (stand tb t) wds wds.length ≠ [] := by
  rcases h.all ns t hs with ⟨j, d, hj, eu, hd⟩ | ⟨j, d, ha, hj, hd⟩
  · have := (h.done j d (List.getElem?_eq_some_iff.mp hj).1 hj).1
    rw [eu] at this
    exact this
  · have := (List.getElem?_eq_some_iff.mp hj).1
    omega
/-- no deeper than it stands -/
theorem Bfs.deep {es : List Ent} {a p : Nat} (h : Bfs wds tb es a p) : ∀ (j : Nat) (e : Ent), es[j]? = some e → e.2.1 ≤ (j : Int) := by
  intro j
  induction j using Nat.strongRecOn with
  | ind j ih =>
    intro e hj
    cases hb : e.2.2 with
    | none =>
      obtain rfl := h.first j e hj hb
      rw [h.start] at hj
      cases hj
      exact Int.le_refl _
    | some nb =>
      obtain ⟨i, d, q1, _, q3, _, q5, _⟩ := h.back j e nb.1 nb.2 hj hb
      have := ih i q1 d q3
      omega
/-- each found is reached by as many as it is deep -/
theorem Bfs.path {es : List Ent} {a p : Nat} (h : Bfs wds tb es a p) : ∀ (j : Nat) (e : Ent), es[j]? = some e → ∃ ns, Steps wds tb (zerosI tb.length) ns e.1 ∧ (ns.length : Int) = e.2.1 := by
  intro j
  induction j using Nat.strongRecOn with
  | ind j ih =>
    intro e hj
    cases hb : e.2.2 with
    | none =>
      obtain rfl := h.first j e hj hb
      rw [h.start] at hj
      cases hj
      exact ⟨[], rfl, rfl⟩
    | some nb =>
      obtain ⟨i, d, q1, _, q3, q4, q5, q6⟩ := h.back j e nb.1 nb.2 hj hb
      obtain ⟨ns, h1, h2⟩ := ih i q1 d q3
      rw [q4] at h1
      refine ⟨ns ++ [nb.1], h1.snoc q6, ?_⟩
      rw [List.length_append]
      have : (([nb.1] : List Int).length : Nat) = 1 := rfl
      omega
end
end Rd

set_option autoImplicit false
set_option Elab.async false
set_option linter.all false
set_option maxRecDepth 100000
set_option maxHeartbeats 4000000
namespace Rd
open PySem PySem.Spec PyProof.Rows L2 Dt
abbrev sLkt : Stmt := topS 23
abbrev nLkt : List Str := ["riddle", "table", "taken", "draws", "count"]
theorem scLkt : FnScope nLkt ["riddle", "table", "taken"] (defScope sLkt) := ⟨rfl, rfl, rfl, by decide +kernel, rfl, by decide +kernel, by decide +kernel⟩
abbrev sLnx : Stmt := topS 24
abbrev nLnx : List Str := ["riddle", "table", "taken", "found", "number", "places", "later", "draws", "count", "place"]
theorem scLnx : FnScope nLnx ["riddle", "table", "taken"] (defScope sLnx) := ⟨rfl, rfl, rfl, by decide +kernel, rfl, by decide +kernel, by decide +kernel⟩
/-- the draws that stand, one after the other -/
theorem stand_lc {K : PySem.W.Frag} {H1 : Hp} {tL kA C : Addr} {das : List Addr} {tb : List (List Int)} {tk : List Int} {g : TG} {te : TE} {vs : List Nat} {σ : L2.St} {Q : Hp → Prop} (ht : H1 tL = some (.lst (das.map V.ref))) (hk : H1 kA = some (.tup (tk.map V.int))) (pt : Paired (IsInts H1) das tb) (gk : GoodK tb tk) (nC : H1 C = none) (hl : tb.length ≤ 999)
    (hs : ∀ (T d : Addr) (ds : List Int) (k : Int) (H2 : Hp) (R : V → Hp → Prop), H2 T = some (.tup [.ref d, .int k]) → H2 d = some (.lst (ds.map V.int)) → 0 ≤ k → k < (ds.length : Int) → R (.int (atF ds k)) H2 → g (.ref T) (wipe σ vs) H2 fun σ2 H3 => wipe σ2 vs = wipe σ vs ∧ te σ2 H3 R)
    (q : ∀ H2, Same H1 H2 → H2 C = some (.lst ((stand tb tk).map V.int)) → Q H2) :
    ∃ W : Nat → Nat → Hp → Prop, (∃ m, W 0 m (upd H1 C (.lst []))) ∧ ∀ i m H, W i m H →
      ((ItzM true false K tL kA).stop i H ∧ Q H) ∨ ((ItzM true false K tL kA).go i H ∧ ∃ Nx : Hp → Prop, (∀ H', Nx H' → ∃ m', m' < m ∧ W (i + 1) m' H') ∧ ∀ x H', (ItzM true false K tL kA).yld i H x H' → g x (wipe σ vs) H' fun σ2 H2 => wipe σ2 vs = wipe σ vs ∧ tYes σ2 H2 fun b H3 =>
        if b = true then te σ2 H3 fun y H4 => ∃ acc, H4 C = some (.lst acc) ∧ acc.length < sizeLine ∧ Nx (upd H4 C (.lst (acc ++ [y]))) else Nx H3) := by
  have dl := pairedLen pt
  have kl := gk.len
  have tT : ∀ {Hx}, Same H1 Hx → sqB true K Hx tL (das.map V.ref) := fun s => .inl (.inl (s _ _ ht))
  have tK : ∀ {Hx}, Same H1 Hx → sqB false K Hx kA (tk.map V.int) := fun s => .inl (.inl (s _ _ hk))
  refine lc_walk (J := ItzM true false K tL kA) (n := tb.length) (fun i Hx => Same H1 Hx ∧ Hx C = some (.lst (((stand tb tk).take i).map V.int))) ⟨same_upd nC, upd_same⟩ (fun i Hx hi p => ⟨_, _, _, _, tT p.1, tK p.1, List.getElem?_eq_getElem (by rw [List.length_map]; omega), List.getElem?_eq_getElem (by rw [List.length_map]; omega)⟩) (fun Hx p => ⟨_, _, tT p.1, tK p.1, by rw [List.length_map]; omega, by rw [List.length_map]; omega, .inl (by rw [List.length_map]; omega)⟩) (fun i x Hx H' hi p y => ?_) (fun Hx p => ?_)
  · obtain ⟨s2, hC⟩ := p
    obtain ⟨T, x1, x2, rfl, nT, rfl, e1, e2⟩ := y
    obtain ⟨d, ed, rfl⟩ := map_get (e1 _ (tT s2))
    obtain ⟨k, ek, rfl⟩ := map_get (e2 _ (tK s2))
    obtain ⟨ds, eds, hd⟩ := pairedGetL pt ed
    have hd : H1 d = some (.lst (ds.map V.int)) := hd
    have s3 := same_upd (o := .tup [V.ref d, .int k]) nT
    have a := gk.at_ i hi
    have edd : tb.getD i [] = ds := by
      rw [List.getD_eq_getElem?_getD, eds]
      rfl
    have ekk : tk.getD i 0 = k := by
      rw [List.getD_eq_getElem?_getD, ek]
      rfl
    rw [edd, ekk] at a
    have z := hs T d ds k _ (fun y H4 => ∃ acc, H4 C = some (.lst acc) ∧ acc.length < sizeLine ∧ (Same H1 (upd H4 C (.lst (acc ++ [y]))) ∧ upd H4 C (.lst (acc ++ [y])) C = some (.lst (((stand tb tk).take (i + 1)).map V.int)))) upd_same (s3 _ _ (s2 _ _ hd)) a.1 a.2 ⟨_, s3 _ _ hC, ?_, same_put (s2.trans s3) nC, ?_⟩
    · exact z
    · rw [List.length_map, List.length_take]
      exact small1000 (by omega)
    · have e := stand_get gk hi
      rw [edd, ekk] at e
      rw [upd_same, take_snoc e, List.map_append]
      rfl
  · have sl := stand_len gk
    have z := p.2
    rw [← sl, List.take_length] at z
    exact q Hx p.1 z
theorem broL_in' {fs : List Int} {wds : List WD} {k : Int} : k ∈ broL fs wds wds.length ↔ ∃ n : Nat, k = (n : Int) ∧ ∃ wd, wds[n]? = some wd ∧ Dt.brk fs wd = true := by
  unfold broL
  rw [List.mem_map]
  constructor
  · rintro ⟨n, hn, rfl⟩
    obtain ⟨h1, h2⟩ := List.mem_filter.mp hn
    have nl := List.mem_range.mp h1
    refine ⟨n, rfl, _, List.getElem?_eq_getElem nl, ?_⟩
    rw [brkAt_of (List.getElem?_eq_getElem nl)] at h2
    exact h2
  · rintro ⟨n, rfl, wd, hw, hb⟩
    refine ⟨n, List.mem_filter.mpr ⟨List.mem_range.mpr (List.getElem?_eq_some_iff.mp hw).1, ?_⟩, rfl⟩
    rw [brkAt_of hw]
    exact hb
theorem plc_at' {wds : List WD} {n : Nat} {wd : WD} (h : wds[n]? = some wd) : plc wds (n : Int) = wd.1 := by
  unfold plc
  rw [Int.toNat_natCast, List.getD_eq_getElem?_getD, h]
  rfl
theorem get_of' {α : Type} {l : List α} {i : Nat} {d : α} (h : i < l.length) : l[i]? = some (l.getD i d) := by
  rw [List.getD_eq_getElem?_getD, List.getElem?_eq_getElem h]
  rfl
def stuckK (tb : List (List Int)) (tk ps : List Int) : List Int := ps.filter fun p => decide (atF tk p + 1 = lenAt tb p)
theorem get_ofN {l : List Int} {k : Int} (k0 : 0 ≤ k) (k1 : k < (l.length : Int)) : l[k.toNat]? = some (atF l k) := by
  unfold atF
  rw [List.getD_eq_getElem?_getD, List.getElem?_eq_getElem (by omega)]
  rfl
theorem stuck_can {tb : List (List Int)} {tk ps : List Int} (g : GoodK tb tk) (h : ∀ p ∈ ps, 0 ≤ p ∧ p.toNat < tb.length) : (stuckK tb tk ps = []) ↔ canN tb tk ps = true := by
  unfold stuckK canN
  rw [List.filter_eq_nil_iff, List.all_eq_true]
  constructor
  · intro z p hp
    have a := z p hp
    have b := g.at_ p.toNat (h p hp).2
    refine decide_eq_true ?_
    have : ¬ (atF tk p + 1 = lenAt tb p) := fun e => a (decide_eq_true e)
    unfold atF lenAt at *
    omega
  · intro z p hp e
    have a := of_decide_eq_true (z p hp)
    have b := of_decide_eq_true e
    omega
def spLkt : Sp := fun vs H Q _ => ∃ (ri ta ka : Addr) (wds : List WD) (many hues : Int) (tb : List (List Int)) (tk : List Int), vs = [.ref ri, .ref ta, .ref ka] ∧ IsRid H ri many hues wds ∧ GoodR many hues wds ∧ IsTab (fun _ => False) H ta tb ∧ GoodS many hues tb ∧ H ka = some (.tup (tk.map V.int)) ∧ GoodK tb tk ∧
  ∀ H', Same H H' → Q (.bl (decide (broL (stand tb tk) wds wds.length = []))) H'
def spLnx : Sp := fun vs H Q _ => ∃ (ri ta ka : Addr) (wds : List WD) (many hues : Int) (tb : List (List Int)) (tk : List Int), vs = [.ref ri, .ref ta, .ref ka] ∧ IsRid H ri many hues wds ∧ GoodR many hues wds ∧ IsTab (fun _ => False) H ta tb ∧ GoodS many hues tb ∧ H ka = some (.tup (tk.map V.int)) ∧ GoodK tb tk ∧
  ∀ H' l ms, Same H H' → H l = none → H' l = some (.lst (ms.map V.ref)) → Paired (IsMd H') ms (mendM wds tb tk) → Q (.ref l) H'
structure TxtLkt (P : Program) (w : World) (K : PySem.W.Frag) (mg : Str → Option Value) (base : Heap) : Prop where
  m_zip : mg "zip" = none
  m_len : mg "len" = none
  m_int : mg "int" = none
  m_tuple : mg "tuple" = none
  m_enumerate : mg "enumerate" = none
  c__law_broken : Cal P w K mg base 1 "_law_broken" ["riddle", "filling"] spLbr
section
variable {P : Program} {w : World} {K : PySem.W.Frag} {mg : Str → Option Value} {base : Heap}
theorem ok_lkt {f : Addr} {fd : FuncData} {k : Nat} (F : Fun K "_law_kept" "_law_kept" sLkt f fd) (T : TxtLkt P w K mg base) : FnOk P w K mg base CX0 (k + 2) f fd ["riddle", "table", "taken"] spLkt := by
  refine F.ok scLkt (fun vs H Q E h => ?_) (fun cdv A outer s H vs Q E hr h => ?_)
  · obtain ⟨ri, ta, ka, wds, many, hues, tb, tk, rfl, _⟩ := h
    rfl
  · obtain ⟨ri, ta, ka, wds, many, hues, tb, tk, rfl, hrd, gr, htb, gs, hk, gk, q⟩ := h
    refine ⟨_, (pss_one (ps_ret (pe_cmpR (op_eqD hr.units) (pe_cal T.c__law_broken (hr.mono (by omega)) (by rfl) (pa_cons (pv 0) (pa_cons (pe_lc (g := gTup K 2 (gCons (gName 3) (gCons (gName 4) gNil))) (te := tOp (rIxL K) (tVar 3) (tVar 4)) (own := [("draws", 3), ("count", 4)]) rfl scLkt.nd  (pi_zipM (by rfl) T.m_zip (pa_cons (pv 1) (pa_cons (pv 2) pa_nil))) (blkOk_by (own := [("draws", 3), ("count", 4)]) (N := nLkt) (sc := defScope sLkt) (by decide +kernel))
   (fun _ _ _ _ _ => (pg_tup rfl (pgs_cons (pg_name (i := 3) scLkt.nd rfl (Or.inl rfl)) (pgs_cons (pg_name (i := 4) scLkt.nd rfl (Or.inl rfl)) pgs_nil)))) (fun _ _ _ _ _ => pts_nil) (fun _ _ _ _ _ => (pe_ix ix_list (pv 3) (pv 4) (fun _ _ => rfl)))) pa_nil))) (pe_lst pa_nil) (nomark _)))), ?_⟩
    obtain ⟨das, hta, _, _, pr⟩ := id htb
    have m6 := gr.m6
    have gl := gs.len
    refine ⟨.ref ri, rfl, .ref ta, rfl, .ref ka, rfl, true, false, ta, ka, _, _, rfl, .inl (.inl hta), .inl (.inl hk), fun C nC => ?_⟩
    refine stand_lc hta hk pr gk nC (by omega) (fun T d ds k H2 R hT hd k0 k1 r => ?_) fun H2 s2 hC => ?_
    · exact ⟨_, _, rfl, .inl (.inl hT), rfl, .ref d, [.int k], rfl, .int k, [], rfl, rfl, rfl, .ref d, rfl, .int k, rfl, d, _, k, _, rfl, rfl, .inl (.inl hd), atI_of k0 (get_ofN k0 k1), r⟩
    · refine ⟨ri, C, stand tb tk, wds, many, hues, rfl, hrd.mono (tups_same s2), .inl hC, standS_good gs gk, gr, fun H3 t s3 nt ht => ⟨(by show 0 ≤ sizeLine; decide), fun e ne => ?_⟩⟩
      have s4 := same_upd (o := .lst []) ne
      refine ⟨.list ((broL (stand tb tk) wds wds.length).map .int), .list [], .lst (.inl (.inl (s4 _ _ ht))) (dpInts _), .lst (.inl (.inl upd_same)) .nil, PySem.W.shaped_ints _, PySem.W.shaped_ints [], ?_⟩
      rw [eqv_ints_nil]
      exact q _ ((s2.trans s3).trans s4)
set_option maxHeartbeats 16000000 in
theorem ok_lnx {f : Addr} {fd : FuncData} {k : Nat} (F : Fun K "_law_next" "_law_next" sLnx f fd) (T : TxtLkt P w K mg base) : FnOk P w K mg base CX0 (k + 2) f fd ["riddle", "table", "taken"] spLnx := by
  refine F.ok scLnx (fun vs H Q E h => ?_) (fun cdv A outer s H vs Q E hr h => ?_)
  · obtain ⟨ri, ta, ka, wds, many, hues, tb, tk, rfl, _⟩ := h
    rfl
  · obtain ⟨ri, ta, ka, wds, many, hues, tb, tk, rfl, hrd, gr, htb, gs, hk, gk, q⟩ := h
    refine ⟨_, (pss_cons (ps_set (i := 3) scLnx.nd rfl (Or.inl rfl) (pe_lst pa_nil))
  (pss_cons (ps_for PassesOwn.never rfl (pi_list (pe_cal T.c__law_broken (hr.mono (by omega)) (by rfl) (pa_cons (pv 0) (pa_cons (pe_lc (g := gTup K 2 (gCons (gName 7) (gCons (gName 8) gNil))) (te := tOp (rIxL K) (tVar 7) (tVar 8)) (own := [("draws", 7), ("count", 8)]) rfl scLnx.nd  (pi_zipM (by rfl) T.m_zip (pa_cons (pv 1) (pa_cons (pv 2) pa_nil))) (blkOk_by (own := [("draws", 7), ("count", 8)]) (N := nLnx) (sc := defScope sLnx) (by decide +kernel))
   (fun _ _ _ _ _ => (pg_tup rfl (pgs_cons (pg_name (i := 7) scLnx.nd rfl (Or.inl rfl)) (pgs_cons (pg_name (i := 8) scLnx.nd rfl (Or.inl rfl)) pgs_nil)))) (fun _ _ _ _ _ => pts_nil) (fun _ _ _ _ _ => (pe_ix ix_list (pv 7) (pv 8) (fun _ _ => rfl)))) pa_nil)))) (pg_name (i := 4) scLnx.nd rfl (Or.inl rfl))
  (pss_cons (ps_set (i := 5) scLnx.nd rfl (Or.inr rfl) (pe_ix ix_tup (pe_ix ix_tup (pe_ix ix_tup (pv 0) pe_int (fun _ _ => rfl)) (pv 4) (fun _ _ => rfl)) pe_int (fun _ _ => rfl)))
  (pss_one (ps_if (pt_cmpR (op_eqD hr.units) (pe_lc (tt := tTest (tOp rEq (tOp (rI0 fun i j => .int (i + j)) (tOp (rIxT K) (tVar 2) (tVar 9)) (tC (.int 1))) (tCB (rLen K) (tCons (tOp (rIxL K) (tVar 1) (tVar 9)) tNil)))) (te := tVar 9) (own := [("place", 9)]) rfl scLnx.nd  (pi_tup (pv 5)) (blkOk_by (own := [("place", 9)]) (N := nLnx) (sc := defScope sLnx) (by decide +kernel))
   (fun _ _ _ _ _ => (pg_name (i := 9) scLnx.nd rfl (Or.inl rfl))) (fun _ _ _ _ _ => pts_one (pt_cmpR op_eq (pe_op op_add (pe_ix ix_tup (pv 2) (pv 9) (fun _ _ => rfl)) pe_int) (pe_callB call_len_seq (by rfl) T.m_len (by decide +kernel) (pa_cons (pe_ix ix_list (pv 1) (pv 9) (fun _ _ => rfl)) pa_nil)) (nomark _))) (fun _ _ _ _ _ => (pv 9))) (pe_lst pa_nil) (nomark _))
  (pss_cons (ps_set (i := 6) scLnx.nd rfl (Or.inl rfl) (pe_callTy call_tuple_of (by rfl) T.m_tuple (by decide +kernel) (pa_cons (pe_lc (g := gTup K 2 (gCons (gName 9) (gCons (gName 8) gNil))) (te := tOp (rI0 fun i j => .int (i + j)) (tVar 8) (tCB rInt1 (tCons (tOp (rInT K) (tVar 9) (tVar 5)) tNil))) (own := [("place", 9), ("count", 8)]) rfl scLnx.nd  (Et.pi_enumT (by rfl) T.m_enumerate (pa_cons (pv 2) pa_nil)) (blkOk_by (own := [("place", 9), ("count", 8)]) (N := nLnx) (sc := defScope sLnx) (by decide +kernel))
   (fun _ _ _ _ _ => (pg_tup rfl (pgs_cons (pg_name (i := 9) scLnx.nd rfl (Or.inl rfl)) (pgs_cons (pg_name (i := 8) scLnx.nd rfl (Or.inl rfl)) pgs_nil)))) (fun _ _ _ _ _ => pts_nil) (fun _ _ _ _ _ => (pe_op op_add (pv 8) (pe_callTy call_int1 (by rfl) T.m_int (by decide +kernel) (pa_cons (pe_cmpR (Dt.op_inT (units65 hr)) (pv 9) (pv 5) (by rfl)) pa_nil))))) pa_nil)))
  (pss_one (ps_expr (pe_bm PySem.F.plainAttrs_list PySem.F.slot_list_append PySem.F.type_list_append mt_append (pv 3) (pa_cons (pe_tup (pa_cons (pv 4) (pa_cons (pv 6) pa_nil))) pa_nil))))) pss_nil))))
  (pss_one (ps_ret (pv 3))))), ?_⟩
    obtain ⟨das, hta, _, _, pr⟩ := id htb
    obtain ⟨wt, was, h1, h2, h3⟩ := id hrd
    have m6 := gr.m6
    have gl := gs.len
    have kl := gk.len
    have dl := pairedLen pr
    refine ⟨(by show 0 ≤ sizeLine; decide), fun L nL => ?_⟩
    have sL := same_upd (o := .lst []) nL
    have hL0 := upd_same (H := H) (a := L) (o := .lst [])
    generalize upd H L (.lst []) = H1 at sL hL0
    refine ⟨.ref ri, rfl, .ref ta, rfl, .ref ka, rfl, true, false, ta, ka, _, _, rfl, .inl (.inl (sL _ _ hta)), .inl (.inl (sL _ _ hk)), fun C nC => ?_⟩
    refine stand_lc (sL _ _ hta) (sL _ _ hk) (pairedMap (fun _ _ e => sL _ _ e) pr) gk nC (by omega) (fun T d ds k H2 R hT hd k0 k1 r => ⟨_, _, rfl, .inl (.inl hT), rfl, .ref d, [.int k], rfl, .int k, [], rfl, rfl, rfl, .ref d, rfl, .int k, rfl, d, _, k, _, rfl, rfl, .inl (.inl hd), atI_of k0 (get_ofN k0 k1), r⟩) fun H2 s2 hC => ?_
    refine ⟨ri, C, stand tb tk, wds, many, hues, rfl, hrd.mono (tups_same (sL.trans s2)), .inl hC, standS_good gs gk, gr, fun H3 t s3 nt ht => ⟨t, rfl, ⟨_, .inl (.inl ht)⟩, ?_⟩⟩
    have S3 := (sL.trans s2).trans s3
    have hL3 := s3 _ _ (s2 _ _ hL0)
    have ntL : t ≠ L := fun z => by
      have := s2 _ _ hL0
      rw [← z, nt] at this
      cases this
    have nL0 : H L = none := nL
    refine for_list (K := K) (a := t) (xs := (broL (stand tb tk) wds wds.length).map V.int) (fun i σ Hx => Same H Hx ∧ Hx t = some (.lst ((broL (stand tb tk) wds wds.length).map V.int)) ∧ (∃ ms : List Addr, Hx L = some (.lst (ms.map V.ref)) ∧ Paired (IsMd Hx) ms ((((broL (stand tb tk) wds wds.length).take i).filter fun k => canN tb tk (plc wds k)).map fun k => (k, bumpM tk (plc wds k)))) ∧ ∃ y4 y5 y6, σ = [some (.ref ri), some (.ref ta), some (.ref ka), some (.ref L), y4, y5, y6, none, none, none]) ⟨S3, ht, ⟨[], hL3, .nil⟩, none, none, none, rfl⟩ (fun i σ Hx _ p => .inl (.inl p.2.1)) (fun i x σ Hx hx p => ?_) (fun σ Hx p => ?_)
    · obtain ⟨sx, htx, ⟨ms, hL, pm⟩, y4, y5, y6, rfl⟩ := p
      obtain ⟨k, ek, rfl⟩ := map_get hx
      have km := List.mem_of_getElem? ek
      obtain ⟨n, rfl, wd, hw, _⟩ := broL_in'.mp km
      have hp : plc wds (n : Int) = wd.1 := plc_at' hw
      have g := gr.each wd (List.mem_of_getElem? hw)
      obtain ⟨wa, ewa, isw⟩ := pairedGet h3 hw
      obtain ⟨pa, ra, rs, w1, w2, w3, w4⟩ := isw
      have tk1 : (((broL (stand tb tk) wds wds.length).take (i + 1)).filter fun k => canN tb tk (plc wds k)).map (fun k => (k, bumpM tk (plc wds k))) = ((((broL (stand tb tk) wds wds.length).take i).filter fun k => canN tb tk (plc wds k)).map fun k => (k, bumpM tk (plc wds k))) ++ (if canN tb tk wd.1 = true then [((n : Int), bumpM tk wd.1)] else []) := by
        rw [take_snoc ek, List.filter_append, List.map_append, List.filter_cons, hp]
        split
        · rw [List.filter_nil, List.map_cons, List.map_nil, hp]
        · rfl
      have lsm : ms.length ≤ 8 := by
        have e := pairedLen pm
        rw [e, List.length_map]
        refine Nat.le_trans (List.length_filter_le _ _) ?_
        rw [List.length_take]
        have : (broL (stand tb tk) wds wds.length).length ≤ wds.length := by
          unfold broL
          rw [List.length_map]
          exact Nat.le_trans (List.length_filter_le _ _) (by rw [List.length_range]; exact Nat.le_refl _)
        have := gr.eight
        omega
      refine ⟨.ref ri, rfl, ri, _, 2, .ref wt, rfl, rfl, .inl (.inl (sx _ _ h1)), atI_nat (j := 2) rfl, .int n, rfl, wt, _, (n : Int), .ref wa, rfl, rfl, .inl (.inl (sx _ _ h2)), atI_nat (by rw [List.getElem?_map, ewa]; rfl), wa, _, 0, .ref pa, rfl, rfl, .inl (.inl (sx _ _ w1)), atI_nat (j := 0) rfl, ?_⟩
      -- those without a next draw
      have hpr : ∀ p ∈ wd.1, 0 ≤ p ∧ p.toNat < tb.length := fun p hp => by have := g.pl p hp; omega
      have g3 := g.three
      refine ⟨.ref pa, rfl, pa, rfl, ⟨_, .inl (.inl (sx _ _ w2))⟩, fun D2 nD2 => ?_⟩
      refine lc_tup (K := K) (a := pa) (xs := wd.1.map V.int) (fun j H9 => Same Hx H9 ∧ H9 D2 = some (.lst ((stuckK tb tk (wd.1.take j)).map V.int))) ⟨same_upd nD2, upd_same⟩ (fun j H9 _ p => .inl (.inl (p.1 _ _ (sx _ _ w2)))) (fun j x H9 hx p => ?_) (fun H9 p => ?_)
      · obtain ⟨p', ep, rfl⟩ := map_get hx
        obtain ⟨s9, hD9⟩ := p
        have hpp := hpr p' (List.mem_of_getElem? ep)
        have s09 := sx.trans s9
        obtain ⟨ds, eds, hds⟩ := pairedGetL pr (List.getElem?_eq_getElem (show p'.toNat < das.length by omega))
        have hds : H (das[p'.toNat]) = some (.lst (ds.map V.int)) := hds
        have e1 : lenAt tb p' = (ds.length : Int) := by
          unfold lenAt
          rw [List.getD_eq_getElem?_getD, eds]
          rfl
        refine ⟨rfl, .ref ka, rfl, .int p', rfl, ka, _, p', .int (atF tk p'), rfl, rfl, .inl (.inl (s09 _ _ hk)), atI_of hpp.1 (get_ofN hpp.1 (by omega)), _, _, rfl, rfl, .ref ta, rfl, .int p', rfl, ta, _, p', _, rfl, rfl, .inl (.inl (s09 _ _ hta)), atI_of hpp.1 (List.getElem?_eq_getElem (by omega)), _, _, rfl, .inl (.inl (.inl (s09 _ _ hds))), rfl, _, rfl, ?_⟩
        have et : stuckK tb tk (wd.1.take (j + 1)) = stuckK tb tk (wd.1.take j) ++ (if atF tk p' + 1 = lenAt tb p' then [p'] else []) := by
          unfold stuckK
          rw [take_snoc ep, List.filter_append]
          congr 1
          by_cases c : atF tk p' + 1 = lenAt tb p'
          · simp [c]
          · simp [c]
        have sl : (stuckK tb tk (wd.1.take j)).length ≤ 3 := by
          have a := List.length_filter_le (fun p => decide (atF tk p + 1 = lenAt tb p)) (wd.1.take j)
          rw [List.length_take] at a
          unfold stuckK
          omega
        refine ite2 (fun e => ?_) (fun e => ?_)
        · have e2 : atF tk p' + 1 = lenAt tb p' := by
            have z := of_decide_eq_true e
            rw [List.length_map] at z
            rw [e1]
            exact V.int.inj z
          refine ⟨.int p', rfl, _, hD9, ?_, same_put s9 nD2, ?_⟩
          · rw [List.length_map]
            exact small1000 (by omega)
          · rw [upd_same, et, if_pos e2, List.map_append]
            rfl
        · refine ⟨s9, ?_⟩
          rw [et, if_neg (fun c => e (decide_eq_true (by rw [List.length_map, ← e1]; exact congrArg V.int c))), List.append_nil]
          exact hD9
      obtain ⟨s9, hD9⟩ := p
      rw [List.length_map, List.take_length] at hD9
      refine ⟨(by show 0 ≤ sizeLine; decide), fun l8 nl8 => ?_⟩
      have s10 := same_upd (o := .lst []) nl8
      refine ⟨.list ((stuckK tb tk wd.1).map .int), .list [], .lst (.inl (.inl (s10 _ _ hD9))) (dpInts _), .lst (.inl (.inl upd_same)) .nil, PySem.W.shaped_ints _, PySem.W.shaped_ints [], _, rfl, ?_⟩
      rw [eqv_ints_nil]
      have S10 := (sx.trans s9).trans s10
      have hL10 := s10 _ _ (s9 _ _ hL)
      have ht10 := s10 _ _ (s9 _ _ htx)
      have pm10 := pairedMap (fun _ _ (e : IsMd Hx _ _) => e.mono (tups_same (s9.trans s10))) pm
      generalize upd H9 l8 (.lst []) = H10 at S10 hL10 ht10 pm10
      clear s10 nl8 hD9 s9 pm hL htx sx
      refine ite2 (fun e => ?_) (fun e => ?_)
      · have cn := (stuck_can gk hpr).mp (of_decide_eq_true e)
        -- later
        refine ⟨.ref ka, rfl, ka, _, rfl, .inl (.inl (S10 _ _ hk)), fun D nD => ?_⟩
        refine Et.lc_enumT (K := K) (a := ka) (xs := tk.map V.int) (fun j Hy => Same H10 Hy ∧ Hy D = some (.lst (((bumpM tk wd.1).take j).map V.int))) ⟨same_upd nD, upd_same⟩ (fun j Hy _ p => .inl (.inl (p.1 _ _ (S10 _ _ hk)))) (fun j x Hy Tt hx p nT => ?_) (fun Hy p => ?_)
        · obtain ⟨v, en, rfl⟩ := map_get hx
          obtain ⟨s15, hkb⟩ := p
          have hit : j < tk.length := (List.getElem?_eq_some_iff.mp en).1
          have sT := same_upd (o := .tup [.int (j : Nat), .int v]) nT
          have s16 := s15.trans sT
          refine ⟨Tt, _, rfl, .inl (.inl upd_same), rfl, .int j, [.int v], rfl, .int v, [], rfl, rfl, rfl, yes_if ?_⟩
          have ey : (bumpM tk wd.1)[j]? = some (if (j : Int) ∈ wd.1 then v + 1 else v) := by
            have z := bumpM_get (tk := tk) (ps := wd.1) hit
            have e1 : tk.getD j 0 = v := by rw [List.getD_eq_getElem?_getD, en]; rfl
            rw [e1] at z
            rw [get_of' (d := 0) (by rw [bumpM_len]; exact hit), z]
          refine ⟨.int v, rfl, .int j, rfl, .ref pa, rfl, .int j, wd.1.map .int, .int _, .tup (.inl (.inl (s16 _ _ (S10 _ _ w2)))) (dpInts _), (fine_int (by omega) (by omega)).shaped (by decide), shaped_row wd.1, .inr ⟨_, rfl, v, _, rfl, rfl, _, sT _ _ hkb, ?_, same_put s16 nD, ?_⟩⟩
          · rw [List.length_map, List.length_take]
            exact small1000 (by omega)
          · rw [upd_same, take_snoc ey, List.map_append, Gv.any_ints]
            have e9 : v + (if decide ((j : Int) ∈ wd.1) = true then 1 else 0) = if (j : Int) ∈ wd.1 then v + 1 else v := by
              by_cases c : (j : Int) ∈ wd.1
              · rw [decide_eq_true c, if_pos rfl, if_pos c]
              · rw [decide_eq_false c, if_neg (by decide), if_neg c]
                omega
            rw [← e9]
            rfl
        obtain ⟨s15, hkb⟩ := p
        have bl := bumpM_len tk wd.1
        rw [List.length_map, ← bl, List.take_length] at hkb
        refine ⟨D, _, rfl, .inl ⟨.inl (.inl hkb), fun lt nlt => ?_⟩⟩
        have s16 := s15.trans (same_upd (o := .tup ((bumpM tk wd.1).map V.int)) nlt)
        have hlt := upd_same (H := Hy) (a := lt) (o := .tup ((bumpM tk wd.1).map V.int))
        generalize upd Hy lt (.tup ((bumpM tk wd.1).map V.int)) = H16 at s16 hlt
        refine ⟨.ref L, rfl, .inl ⟨rfl, _, .inl (.inl (s16 _ _ hL10))⟩, .int n, rfl, .ref lt, rfl, (by show 2 ≤ sizeLine; decide), fun e ne => ?_⟩
        have s17 := s16.trans (same_upd (o := .tup [.int (n : Int), .ref lt]) ne)
        have hL17 := s17 _ _ hL10
        have he := upd_same (H := H16) (a := e) (o := .tup [.int (n : Int), .ref lt])
        have hlt17 := same_upd (o := .tup [V.int (n : Int), .ref lt]) ne _ _ hlt
        generalize upd H16 e (.tup [.int (n : Int), .ref lt]) = H17 at s17 hL17 he hlt17
        have tuL : Tups H17 (upd H17 L (.lst (ms.map V.ref ++ [.ref e]))) := tups_upd fun xs z => by rw [hL17] at z; cases z
        refine ⟨L, _, _, rfl, rfl, hL17, by rw [List.length_map]; exact small1000 (by omega), same_put (S10.trans s17) nL0, by rw [upd_ne ntL]; exact s17 _ _ ht10, ⟨ms ++ [e], by rw [upd_same, List.map_append]; rfl, ?_⟩, _, _, _, rfl⟩
        rw [tk1, if_pos cn]
        exact pairedSnoc (pairedMap (fun _ _ z => z.mono ((tups_same s17).trans tuL)) pm10) ⟨lt, tuL _ _ he, tuL _ _ hlt17⟩
      · have cn : ¬ canN tb tk wd.1 = true := fun z => e (decide_eq_true ((stuck_can gk hpr).mpr z))
        refine ⟨S10, ht10, ⟨ms, hL10, ?_⟩, _, _, _, rfl⟩
        rw [tk1, if_neg cn, List.append_nil]
        exact pm10
    · obtain ⟨sx, htx, ⟨ms, hL, pm⟩, y4, y5, y6, rfl⟩ := p
      rw [List.length_map, List.take_length] at pm
      exact ⟨.ref L, rfl, q Hx L ms sx nL0 hL pm⟩
end
end Rd

set_option autoImplicit false
set_option Elab.async false
set_option linter.all false
set_option maxRecDepth 100000
set_option maxHeartbeats 4000000
namespace Rd
open PySem PySem.Spec PyProof.Rows L2 Dt
abbrev sLle : Stmt := topS 26
abbrev nLle : List Str := ["riddle", "table", "layer", "met", "many", "later", "taken", "number", "there"]
theorem scLle : FnScope nLle ["riddle", "table"] (defScope sLle) := ⟨rfl, rfl, rfl, by decide +kernel, rfl, by decide +kernel, by decide +kernel⟩
abbrev sLal : Stmt := topS 25
abbrev nLal : List Str := ["riddle", "table", "begin", "found", "waiting", "taken", "number", "later"]
theorem scLal : FnScope nLal ["riddle", "table"] (defScope sLal) := ⟨rfl, rfl, rfl, by decide +kernel, rfl, by decide +kernel, by decide +kernel⟩
theorem rep0 {K : PySem.W.Frag} {H : Hp} {p : Addr} {many : Int} {Q : V → Hp → Prop} (hp : H p = some (.tup [.int 0])) (h1 : 1 ≤ many) (h4 : many ≤ 6) (q : ∀ b H', Same H H' → H' b = some (.tup ((keyB (zerosI many.toNat)).map kV)) → Q (.ref b) H') : rRepU K (.ref p) (.int many) H Q := by
  by_cases c : many = 1
  · subst c
    exact .inr ⟨p, [.int 0], rfl, rfl, .inl (.inl hp), q p H (fun _ _ e => e) hp⟩
  · refine .inl ⟨p, many, [.int 0], rfl, rfl, .inl (.inl hp), (fun z => nomatch z), by omega, by omega, (by show 1 ≤ 1000; decide), fun b nb => q b _ (same_upd nb) ?_⟩
    rw [upd_same, keyB_kV]
    have e : ∀ n : Nat, (List.replicate n [V.int 0]).flatten = (zerosI n).map V.int := fun n => by
      induction n with
      | zero => rfl
      | succ n ih => rw [List.replicate_succ, List.flatten_cons, ih]; rfl
    rw [e]
/-- all that were met -/
def metK (es : List Ent) : List (List Key × V) := es.map fun e => (keyB e.1, .bl true)
theorem met_val {es : List Ent} {g : List Int} : valV (metK es) (keyB g) = if g ∈ es.map (·.1) then some (.bl true) else none := by
  induction es with
  | nil => rfl
  | cons e r ih =>
    show valV ((keyB e.1, V.bl true) :: metK r) (keyB g) = _
    by_cases h : e.1 = g
    · rw [valV_pos (by rw [← h]), List.map_cons, if_pos (by rw [← h]; exact List.mem_cons_self)]
    · rw [valV_neg (fun z => h (keyB_inj z)), ih, List.map_cons]
      by_cases m : g ∈ r.map (·.1)
      · rw [if_pos m, if_pos (List.mem_cons_of_mem _ m)]
      · rw [if_neg m, if_neg (fun z => (List.mem_cons.mp z).elim (fun q => h q.symm) m)]
theorem get_moreA {α : Type} {l r : List α} {e : α} {j : Nat} (h : l[j]? = some e) : (l ++ r)[j]? = some e := by
  rw [List.getElem?_append_left (List.getElem?_eq_some_iff.mp h).1]
  exact h
def spLls : Sp := fun vs H Q _ => ∃ (ri ta : Addr) (wds : List WD) (many hues : Int) (tb : List (List Int)), vs = [.ref ri, .ref ta] ∧ IsRid H ri many hues wds ∧ GoodR many hues wds ∧ IsTab (fun _ => False) H ta tb ∧ GoodS many hues tb ∧ prodL (tb.map List.length) ≤ 5000 ∧
  ∀ H', Same H H' → ((∀ ns t, Steps wds tb (zerosI tb.length) ns t → broL (stand tb t) wds wds.length ≠ []) → Q .non H') ∧
    ∀ ns t, Steps wds tb (zerosI tb.length) ns t → broL (stand tb t) wds wds.length = [] → (∀ ns' t', Steps wds tb (zerosI tb.length) ns' t' → broL (stand tb t') wds wds.length = [] → ns.length ≤ ns'.length) → Q (.int (ns.length : Int)) H'
structure TxtLls (P : Program) (w : World) (K : PySem.W.Frag) (mg : Str → Option Value) (base : Heap) : Prop where
  m_len : mg "len" = none
  c__law_kept : Cal P w K mg base 2 "_law_kept" ["riddle", "table", "taken"] spLkt
  c__law_next : Cal P w K mg base 2 "_law_next" ["riddle", "table", "taken"] spLnx
section
variable {P : Program} {w : World} {K : PySem.W.Frag} {mg : Str → Option Value} {base : Heap}
set_option maxHeartbeats 16000000 in
theorem ok_lls {f : Addr} {fd : FuncData} {k : Nat} (F : Fun K "_law_least" "_law_least" sLle f fd) (T : TxtLls P w K mg base) : FnOk P w K mg base CX0 (k + 3) f fd ["riddle", "table"] spLls := by
  refine F.ok scLle (fun vs H Q E h => ?_) (fun cdv A outer s H vs Q E hr h => ?_)
  · obtain ⟨ri, ta, wds, many, hues, tb, rfl, _⟩ := h
    rfl
  · obtain ⟨ri, ta, wds, many, hues, tb, rfl, hrd, g, htb, gs, hp, q⟩ := h
    refine ⟨_, (pss_cons (ps_set (i := 2) scLle.nd rfl (Or.inl rfl) (pe_lst (pa_cons (pe_op op_repU (pe_tup (pa_cons pe_int pa_nil)) (pe_callB call_len_seq (by rfl) T.m_len (by decide +kernel) (pa_cons (pv 1) pa_nil))) pa_nil)))
  (pss_cons (ps_set (i := 3) scLle.nd rfl (Or.inl rfl) (pe_disp1T (hu_of hr) (pe_ix ix_list (pv 2) pe_int (fun _ _ => rfl)) pe_bl))
  (pss_cons (ps_set (i := 4) scLle.nd rfl (Or.inl rfl) pe_int)
  (pss_cons (ps_while PassesOwn.never (pt_cmpR (op_neE hr.units) (pv 2) (pe_lst pa_nil) (nomark _))
  (pss_cons (ps_set (i := 5) scLle.nd rfl (Or.inl rfl) (pe_lst pa_nil))
  (pss_cons (ps_for PassesOwn.never rfl (pi_list (pv 2)) (pg_name (i := 6) scLle.nd rfl (Or.inl rfl))
  (pss_cons (ps_if (pt_val (pe_cal T.c__law_kept (hr.mono (by omega)) (by rfl) (pa_cons (pv 0) (pa_cons (pv 1) (pa_cons (pv 6) pa_nil)))))
  (pss_one (ps_ret (pv 4))) pss_nil)
  (pss_one (ps_for PassesOwn.never rfl (pi_list (pe_cal T.c__law_next (hr.mono (by omega)) (by rfl) (pa_cons (pv 0) (pa_cons (pv 1) (pa_cons (pv 6) pa_nil))))) (pg_tup rfl (pgs_cons (pg_name (i := 7) scLle.nd rfl (Or.inl rfl)) (pgs_cons (pg_name (i := 8) scLle.nd rfl (Or.inl rfl)) pgs_nil)))
  (pss_one (ps_if (pt_cmp (pc_dnotin (hu_of hr) (pv 8) (pv 3)))
  (pss_cons (ps_dput (hu_of hr) (pv 3) (pv 8) pe_bl rfl)
  (pss_one (ps_expr (pe_bm PySem.F.plainAttrs_list PySem.F.slot_list_append PySem.F.type_list_append mt_append (pv 5) (pa_cons (pv 8) pa_nil))))) pss_nil))))))
  (pss_cons (ps_set (i := 2) scLle.nd rfl (Or.inl rfl) (pv 5))
  (pss_one (ps_set (i := 4) scLle.nd rfl (Or.inl rfl) (pe_op op_add (pv 4) pe_int)))))))
  (pss_one (ps_ret pe_non)))))), ?_⟩
    obtain ⟨das, hta, _, _, pr⟩ := id htb
    have dl := pairedLen pr
    have gl := gs.len
    have m1 := g.m1
    have m6 := g.m6
    have tN : many.toNat = tb.length := by omega
    -- the start
    refine ⟨(by show 1 ≤ sizeLine; decide), fun p np => ?_⟩
    have s1 := same_upd (o := .tup [V.int 0]) np
    refine ⟨.ref ta, rfl, ta, _, rfl, .inl (.inl (.inl (s1 _ _ hta))), ?_⟩
    rw [List.length_map, show ((das.length : Nat) : Int) = many by omega]
    refine rep0 upd_same m1 m6 fun z H2 s2 hz => ⟨(by show 1 ≤ sizeLine; decide), fun la nla => ?_⟩
    rw [tN] at hz
    have s3 := same_upd (o := .lst [V.ref z]) nla
    have S3 := (s1.trans s2).trans s3
    have hz3 := s3 _ _ hz
    have hla3 := upd_same (H := H2) (a := la) (o := .lst [V.ref z])
    generalize upd H2 la (.lst [V.ref z]) = H3 at S3 hz3 hla3
    clear s3 s1 s2 hz np nla
    -- met
    intro me nme
    have s4 := same_upd (o := .dT []) nme
    have hme4 := upd_same (H := H3) (a := me) (o := .dT [])
    have nme0 := S3.free nme
    have nlame : la ≠ me := ne_of_none hla3 nme
    refine ⟨.ref la, rfl, la, _, 0, .ref z, rfl, rfl, .inl (.inl (s4 _ _ hla3)), atI_nat (j := 0) rfl, z, keyB (zerosI tb.length), rfl, hme4, s4 _ _ hz3, ?_⟩
    have s5 : Same H (upd (upd H3 me (.dT [])) me (.dT [(keyB (zerosI tb.length), .bl true)])) := same_put (S3.trans s4) nme0
    have hme5 : upd (upd H3 me (.dT [])) me (.dT [(keyB (zerosI tb.length), .bl true)]) me = some (.dT (metK [((zerosI tb.length, 0, none) : Ent)])) := upd_same
    have hla5 : upd (upd H3 me (.dT [])) me (.dT [(keyB (zerosI tb.length), .bl true)]) la = some (.lst [V.ref z]) := by rw [upd_ne nlame, upd_ne nlame]; exact hla3
    have nzme : z ≠ me := fun y => by rw [y, nme] at hz3; cases hz3
    have hz5 : upd (upd H3 me (.dT [])) me (.dT [(keyB (zerosI tb.length), .bl true)]) z = some (.tup ((zerosI tb.length).map V.int)) := by
      rw [upd_ne nzme, upd_ne nzme, ← keyB_kV]
      exact hz3
    generalize upd (upd H3 me (.dT [])) me (.dT [(keyB (zerosI tb.length), .bl true)]) = H5 at s5 hme5 hla5 hz5
    clear s4 hme4 nzme nlame hz3 hla3 nme S3
    refine ⟨fun m σ Hx => ∃ (a : Nat) (es : List Ent) (la : Addr) (as : List Addr) (dp : Int), m = 5001 - a ∧ a ≤ es.length ∧ Same H Hx ∧ Hx la = some (.lst (as.map V.ref)) ∧ Paired (IsRow Hx) as ((es.drop a).map (·.1)) ∧ Hx me = some (.dT (metK es)) ∧ Bfs wds tb es a 0 ∧ (∀ (j : Nat) (e : Ent), a ≤ j → es[j]? = some e → e.2.1 = dp) ∧ 0 ≤ dp ∧
      ∃ y5 y6 y7 y8, σ = [some (.ref ri), some (.ref ta), some (.ref la), some (.ref me), some (.int dp), y5, y6, y7, y8], ⟨5001, 0, [((zerosI tb.length, 0, none) : Ent)], la, [z], 0, rfl, Nat.zero_le _, s5, hla5, (.cons (show IsRow H5 z (zerosI tb.length) from hz5) .nil), hme5, Bfs.begin gs, fun j e _ he => ?_, Int.le_refl 0, none, none, none, none, rfl⟩, ?_⟩
    · cases j with
      | zero => cases he; rfl
      | succ j => cases he
    clear hme5 hla5 hz5 s5
    rintro m σ Hm ⟨a, es, la, as, dp, rfl, ale, Sm, hla, pas, hme, B, dep, dp0, y5, y6, y7, y8, rfl⟩
    have few := Nat.le_trans B.few hp
    have al := pairedLen pas
    rw [List.length_map, List.length_drop] at al
    refine ⟨.ref la, rfl, (by show 0 ≤ sizeLine; decide), fun x1 nx1 => ?_⟩
    have sx := same_upd (o := .lst []) nx1
    refine ⟨la, x1, _, rfl, rfl, .inl (.inl (sx _ _ hla)), .inl (.inl upd_same), _, rfl, ite2 (fun c => ?_) (fun c => ?_)⟩
    · have c : a < es.length := by
        cases as with
        | nil => exact absurd c (by simp)
        | cons x r => rw [List.length_cons] at al; omega
      refine ⟨fun σ' Hx => ∃ (es' : List Ent) (la : Addr) (as : List Addr), es.length ≤ es'.length ∧ Same H Hx ∧ Hx la = some (.lst (as.map V.ref)) ∧ Paired (IsRow Hx) as ((es'.drop es.length).map (·.1)) ∧ Hx me = some (.dT (metK es')) ∧ Bfs wds tb es' es.length 0 ∧ (∀ (j : Nat) (e : Ent), es.length ≤ j → es'[j]? = some e → e.2.1 = dp + 1) ∧
        ∃ y5 y6 y7 y8, σ' = [some (.ref ri), some (.ref ta), some (.ref la), some (.ref me), some (.int (dp + 1)), y5, y6, y7, y8], ?_, ?_⟩
      · rintro σ' H' ⟨es', la', as', q1, q2, q3, q4, q5, q6, q7, y5, y6, y7, y8, q8⟩
        exact ⟨5001 - es.length, by omega, es.length, es', la', as', dp + 1, rfl, q1, q2, q3, q4, q5, q6, q7, by omega, y5, y6, y7, y8, q8⟩
      -- later
      refine ⟨(by show 0 ≤ sizeLine; decide), fun le nle => ?_⟩
      have S7 := Sm.trans (sx.trans (same_upd (o := .lst []) nle))
      have s7 := sx.trans (same_upd (o := .lst []) nle)
      have hla7 := s7 _ _ hla
      have hme7 := s7 _ _ hme
      have hle7 := upd_same (H := upd Hm x1 (.lst [])) (a := le) (o := .lst [])
      have pas7 := pairedMap (fun _ _ (e : IsRow Hm _ _) => s7 _ _ e) pas
      have nle0 := Sm.free (sx.free nle)
      have nlele : la ≠ le := ne_of_none (sx _ _ hla) nle
      have nmele : me ≠ le := ne_of_none (sx _ _ hme) nle
      generalize upd (upd Hm x1 (.lst [])) le (.lst []) = H7 at S7 hla7 hme7 hle7 pas7
      clear s7 sx nx1 nle hla hme pas Sm
      have nlame : la ≠ me := fun y => by rw [y, hme7] at hla7; cases hla7
      have n7 : ∀ {b : Addr} {xs : List V}, H7 b = some (.tup xs) → b ≠ me ∧ b ≠ le := fun {b xs} z => ⟨fun y => (by rw [y, hme7] at z; cases z), fun y => (by rw [y, hle7] at z; cases z)⟩
      refine ⟨.ref la, rfl, la, rfl, ⟨_, .inl (.inl hla7)⟩, ?_⟩
      refine for_list (K := K) (a := la) (xs := as.map V.ref) (fun i σ Hx => Same H Hx ∧ (∀ b o, b ≠ me → b ≠ le → H7 b = some o → Hx b = some o) ∧ (∃ (ex : List Ent) (bs : List Addr), Hx le = some (.lst (bs.map V.ref)) ∧ Paired (IsRow Hx) bs (ex.map (·.1)) ∧ Hx me = some (.dT (metK (es ++ ex))) ∧ Bfs wds tb (es ++ ex) (a + i) 0 ∧ ∀ e ∈ ex, e.2.1 = dp + 1) ∧ ∃ y6 y7 y8, σ = [some (.ref ri), some (.ref ta), some (.ref la), some (.ref me), some (.int dp), some (.ref le), y6, y7, y8]) ⟨S7, fun _ _ _ _ e => e, ⟨[], [], hle7, .nil, by rw [List.append_nil]; exact hme7, by rw [List.append_nil]; exact B, fun _ z => nomatch z⟩, y6, y7, y8, rfl⟩ (fun i σ Hx _ p => .inl (.inl (p.2.1 _ _ nlame nlele hla7))) (fun i x σ Hx hx p => ?_) (fun σ Hx p => ?_)
      · obtain ⟨Sx, Kx, ⟨ex, bs, hle, pbs, hme, B, dex⟩, z6, z7, z8, rfl⟩ := p
        obtain ⟨t, et, rfl⟩ := map_get hx
        obtain ⟨tk, etk, ht7⟩ := pairedGetL pas7 et
        have ht7 : H7 t = some (.tup (tk.map V.int)) := ht7
        have ht := Kx _ _ (n7 ht7).1 (n7 ht7).2 ht7
        rw [List.getElem?_map] at etk
        obtain ⟨e, he0, rfl⟩ := Option.map_eq_some_iff.mp etk
        rw [List.getElem?_drop] at he0
        have he : (es ++ ex)[a + i]? = some e := get_moreA he0
        have em := List.mem_of_getElem? he
        have gk := B.good e em
        have ed : e.2.1 = dp := dep _ _ (Nat.le_add_right _ _) he0
        have ridT : ∀ {Hy}, Same H Hy → IsRid Hy ri many hues wds := fun s => hrd.mono (tups_same s)
        have tabT : ∀ {Hy}, Same H Hy → IsTab (fun _ => False) Hy ta tb := fun s => htb.seqs (seqs_same s)
        refine ⟨.ref ri, rfl, .ref ta, rfl, .ref t, rfl, ri, ta, t, wds, many, hues, tb, e.1, rfl, ridT Sx, g, tabT Sx, gs, ht, gk, fun H8 s8 => ⟨_, rfl, ite2 (fun kp => ?_) (fun kp => ?_)⟩⟩
        · have kp := of_decide_eq_true kp
          obtain ⟨ns, hns, hl⟩ := B.path _ _ he
          have z := (q H8 (Sx.trans s8)).2 ns e.1 hns kp fun ns' t' h1 h2 => by
            have := B.least he h1 h2
            omega
          rw [hl, ed] at z
          exact ⟨_, rfl, z⟩
        · have kp : broL (stand tb e.1) wds wds.length ≠ [] := fun z => kp (decide_eq_true z)
          refine ⟨.ref ri, rfl, .ref ta, rfl, .ref t, rfl, ri, ta, t, wds, many, hues, tb, e.1, rfl, ridT (Sx.trans s8), g, tabT (Sx.trans s8), gs, s8 _ _ ht, gk, fun Hb lm ms s9 nlm hlm pms => ⟨lm, rfl, ⟨_, .inl (.inl hlm)⟩, ?_⟩⟩
          have s89 := s8.trans s9
          have hleB := s89 _ _ hle
          have hmeB := s89 _ _ hme
          have pbsB := pairedMap (fun _ _ (e : IsRow Hx _ _) => s89 _ _ e) pbs
          have KB : ∀ b o, b ≠ me → b ≠ le → H7 b = some o → Hb b = some o := fun b o n1 n2 e => s89 _ _ (Kx b o n1 n2 e)
          have SB := Sx.trans s89
          have nlmme : lm ≠ me := fun y => by rw [y, s8 _ _ hme] at nlm; cases nlm
          have nlmle : lm ≠ le := fun y => by rw [y, s8 _ _ hle] at nlm; cases nlm
          have nTB : ∀ {b : Addr} {xs : List V}, Hb b = some (.tup xs) → b ≠ me ∧ b ≠ le := fun {b xs} z => ⟨fun y => (by rw [y, hmeB] at z; cases z), fun y => (by rw [y, hleB] at z; cases z)⟩
          clear hle hme pbs Kx Sx s8 s9 s89 nlm
          refine for_list (K := K) (a := lm) (xs := ms.map V.ref) (fun p σ Hc => Same H Hc ∧ (∀ b o, b ≠ me → b ≠ le → Hb b = some o → Hc b = some o) ∧ (∃ (ex : List Ent) (bs : List Addr), (es ++ ex)[a + i]? = some e ∧ Hc le = some (.lst (bs.map V.ref)) ∧ Paired (IsRow Hc) bs (ex.map (·.1)) ∧ Hc me = some (.dT (metK (es ++ ex))) ∧ Bfs wds tb (es ++ ex) (a + i) p ∧ ∀ e ∈ ex, e.2.1 = dp + 1) ∧ ∃ y7 y8, σ = [some (.ref ri), some (.ref ta), some (.ref la), some (.ref me), some (.int dp), some (.ref le), some (.ref t), y7, y8]) ⟨SB, fun _ _ _ _ z => z, ⟨ex, bs, he, hleB, pbsB, hmeB, B, dex⟩, z7, z8, rfl⟩ (fun p σ Hc _ z => .inl (.inl (z.2.1 _ _ nlmme nlmle hlm))) (fun p x σ Hc hx z => ?_) (fun σ Hc z => ?_)
          · obtain ⟨m0, em0, rfl⟩ := map_get hx
            obtain ⟨⟨n, af⟩, emx, u, hm0, hu⟩ := pairedGetL pms em0
            have hm0 : Hb m0 = some (.tup [.int n, .ref u]) := hm0
            have hu : Hb u = some (.tup (af.map V.int)) := hu
            clear he hleB pbsB hmeB B dex em
            obtain ⟨Sc, Kc, ⟨ex, bs, he, hle, pbs, hme, B, dex⟩, y7, y8, rfl⟩ := z
            have em := List.mem_of_getElem? he
            have bl := pairedLen pbs
            rw [List.length_map] at bl
            have few := Nat.le_trans B.few hp
            rw [List.length_append] at few
            have hm5 := Kc _ _ (nTB hm0).1 (nTB hm0).2 hm0
            have hu5 := Kc _ _ (nTB hu).1 (nTB hu).2 hu
            have hu5' : Hc u = some (.tup ((keyB af).map kV)) := by rw [keyB_kV]; exact hu5
            refine ⟨m0, [.int n, .ref u], rfl, .inl (.inl hm5), rfl, .int n, [.ref u], rfl, .ref u, [], rfl, rfl, ?_⟩
            refine ⟨.ref u, rfl, .ref me, rfl, me, _, rfl, DGet.t hme hu5', _, rfl, ?_⟩
            rw [met_val]
            by_cases old : af ∈ (es ++ ex).map (·.1)
            · rw [if_pos old]
              exact iteF ⟨Sc, Kc, ⟨ex, bs, he, hle, pbs, hme, B.old he emx old, dex⟩, _, _, rfl⟩
            · rw [if_neg old]
              refine iteT ?_
              have vn : valV (metK (es ++ ex)) (keyB af) = none := by rw [met_val, if_neg old]
              refine ⟨.ref me, rfl, .ref u, rfl, me, _, rfl, DPut.t hme hu5' (Nat.lt_of_le_of_lt (show (metK (es ++ ex)).length ≤ 5000 by unfold metK; rw [List.length_map, List.length_append]; exact few) (by decide)), ?_⟩
              rw [putK_new _ vn]
              have tu2 : Tups Hc (upd Hc me (.dT (metK (es ++ ex) ++ [(keyB af, .bl true)]))) := tups_upd fun xs z => by rw [hme] at z; cases z
              have hle2 : upd Hc me (.dT (metK (es ++ ex) ++ [(keyB af, .bl true)])) le = some (.lst (bs.map V.ref)) := by rw [upd_ne (Ne.symm nmele)]; exact hle
              refine ⟨.ref le, rfl, .inl ⟨rfl, _, .inl (.inl hle2)⟩, .ref u, rfl, le, _, _, rfl, rfl, hle2, ?_, ?_⟩
              · rw [List.length_map]
                exact Nat.lt_of_le_of_lt (show bs.length ≤ 5000 by omega) (by decide)
              have tu3 : Tups (upd Hc me (.dT (metK (es ++ ex) ++ [(keyB af, .bl true)]))) (upd (upd Hc me (.dT (metK (es ++ ex) ++ [(keyB af, .bl true)]))) le (.lst (bs.map V.ref ++ [.ref u]))) := tups_upd fun xs z => by rw [hle2] at z; cases z
              have tu := tu2.trans tu3
              refine ⟨same_put (same_put Sc nme0) nle0, fun b o n1 n2 z => ?_, ⟨ex ++ [(af, e.2.1 + 1, some (n, e.1))], bs ++ [u], ?_, ?_, ?_, ?_, ?_, ?_⟩, _, _, rfl⟩
              · rw [upd_ne n2, upd_ne n1]
                exact Kc b o n1 n2 z
              · rw [← List.append_assoc]
                exact get_more he
              · rw [upd_same, List.map_append]
                rfl
              · rw [List.map_append]
                exact pairedSnoc (pairedMap (fun _ _ (z : IsRow Hc _ _) => tu _ _ z) pbs) (tu _ _ hu5)
              · rw [upd_ne nmele, upd_same]
                unfold metK
                rw [← List.append_assoc, List.map_append (l₁ := es ++ ex)]
                rfl
              · rw [← List.append_assoc]
                exact B.new he emx old
              · intro x hx
                rcases List.mem_append.mp hx with y | y
                · exact dex x y
                · rw [List.mem_singleton.mp y]
                  show e.2.1 + 1 = dp + 1
                  rw [ed]
          · obtain ⟨Sc, Kc, ⟨ex, bs, he, hle, pbs, hme, B, dex⟩, y7, y8, rfl⟩ := z
            have ml := pairedLen pms
            rw [List.length_map, ml] at B
            exact ⟨Sc, fun b o n1 n2 z => Kc b o n1 n2 (KB b o n1 n2 z), ⟨ex, bs, hle, pbs, hme, B.next he kp, dex⟩, _, _, _, rfl⟩
      · obtain ⟨Sx, Kx, ⟨ex, bs, hle, pbs, hme, B, dex⟩, z6, z7, z8, rfl⟩ := p
        rw [List.length_map, al, show a + (es.length - a) = es.length by omega] at B
        refine ⟨.ref le, rfl, .int dp, rfl, dp, 1, rfl, rfl, es ++ ex, le, bs, by rw [List.length_append]; omega, Sx, hle, by rw [List.drop_left]; exact pbs, hme, B, fun j e hj he => ?_, _, _, _, _, rfl⟩
        rw [List.getElem?_append_right hj] at he
        exact dex e (List.mem_of_getElem? he)
    · have c : as = [] := by
        cases as with
        | nil => rfl
        | cons x r => exact absurd rfl c
      subst c
      have e : a = es.length := by
        have : ([] : List Addr).length = es.length - a := al
        rw [List.length_nil] at this
        omega
      subst e
      exact (q _ (Sm.trans sx)).1 fun ns t h => B.never h
end
end Rd

set_option autoImplicit false
set_option Elab.async false
set_option linter.all false
set_option maxRecDepth 100000
set_option maxHeartbeats 4000000
namespace Rd
open PySem PySem.Spec PyProof.Rows L2 Dt

/-- what is kept of one found -/
def IsFnd (H : Hp) (t : Addr) (e : Ent) : Prop := match e.2.2 with
  | none => H t = some (.tup [.int e.2.1, .non, .non])
  | some (n, b) => ∃ ba, H t = some (.tup [.int e.2.1, .int n, .ref ba]) ∧ H ba = some (.tup (b.map V.int))
def IsWayB (H : Hp) (kv : List Key × V) (e : Ent) : Prop := kv.1 = keyB e.1 ∧ ∃ t, kv.2 = .ref t ∧ IsFnd H t e
theorem IsFnd.mono {H H' : Hp} {t : Addr} {e : Ent} (tu : Tups H H') (h : IsFnd H t e) : IsFnd H' t e := by
  unfold IsFnd at *
  split at h
  · exact tu _ _ h
  · obtain ⟨ba, h1, h2⟩ := h
    exact ⟨ba, tu _ _ h1, tu _ _ h2⟩
theorem IsWayB.mono {H H' : Hp} {kv : List Key × V} {e : Ent} (tu : Tups H H') (h : IsWayB H kv e) : IsWayB H' kv e := by
  obtain ⟨h1, t, h2, h3⟩ := h
  exact ⟨h1, t, h2, h3.mono tu⟩
theorem way_keys {H : Hp} : ∀ {kvs : List (List Key × V)} {es : List Ent}, Paired (IsWayB H) kvs es → kvs.map (·.1) = (es.map (·.1)).map keyB
  | _, _, .nil => rfl
  | _, _, .cons h t => by rw [List.map_cons, List.map_cons, List.map_cons, way_keys t, h.1]
/-- it is told of one that is there -/
theorem way_at {H : Hp} {e : Ent} : ∀ {kvs : List (List Key × V)} {es : List Ent}, Paired (IsWayB H) kvs es → (es.map (·.1)).Nodup → e ∈ es → ∃ t, valV kvs (keyB e.1) = some (.ref t) ∧ IsFnd H t e
  | _, _, .nil, _, m => nomatch m
  | _, _, .cons (a := kv) (b := d) h t, nd, m => by
    rw [List.map_cons, List.nodup_cons] at nd
    obtain ⟨h1, a, h2, h3⟩ := h
    rcases List.mem_cons.mp m with z | z
    · subst z
      exact ⟨a, by rw [valV_pos h1, h2], h3⟩
    · have ne : ¬ kv.1 = keyB e.1 := fun q => nd.1 (by
        have := keyB_inj (h1.symm.trans q)
        rw [this]
        exact List.mem_map.mpr ⟨e, z, rfl⟩)
      rw [valV_neg ne]
      exact way_at t nd.2 z
theorem way_none {H : Hp} {kvs : List (List Key × V)} {es : List Ent} {a : List Int} (p : Paired (IsWayB H) kvs es) : (valV kvs (keyB a)).isSome = decide (a ∈ es.map (·.1)) := by
  have k := way_keys p
  by_cases m : a ∈ es.map (·.1)
  · rw [decide_eq_true m]
    have : keyB a ∈ kvs.map (·.1) := by
      rw [k]
      exact List.mem_map.mpr ⟨a, m, rfl⟩
    cases e : valV kvs (keyB a) with
    | some v => rfl
    | none => exact (valV_not e this).elim
  · rw [decide_eq_false m]
    cases e : valV kvs (keyB a) with
    | none => rfl
    | some v =>
      have q := valV_in e
      rw [k] at q
      obtain ⟨b, hb, eb⟩ := List.mem_map.mp q
      rw [← keyB_inj eb] at m
      exact (m hb).elim
theorem IsFnd.tup {H : Hp} {t : Addr} {e : Ent} (h : IsFnd H t e) : ∃ y z, H t = some (.tup [.int e.2.1, y, z]) := by
  unfold IsFnd at h
  split at h
  · exact ⟨_, _, h⟩
  · obtain ⟨ba, h1, _⟩ := h
    exact ⟨_, _, h1⟩
theorem way_len {H : Hp} {kvs : List (List Key × V)} {es : List Ent} (p : Paired (IsWayB H) kvs es) : kvs.length = es.length := pairedLen p
/-- how the search ends -/
def SeaEnd (wds : List WD) (tb : List (List Int)) (es : List Ent) (H : Hp) (last : V) : Prop :=
  (∃ (a : Nat) (e : Ent) (la : Addr), last = .ref la ∧ H la = some (.tup (e.1.map V.int)) ∧ es[a]? = some e ∧ broL (stand tb e.1) wds wds.length = [] ∧ Bfs wds tb es a 0) ∨ (last = .non ∧ Bfs wds tb es es.length 0)
def spSea (Ps : List Addr) : Sp := fun vs H Q _ => ∃ (ri ta : Addr) (wds : List WD) (many hues : Int) (tb : List (List Int)), vs = [.ref ri, .ref ta] ∧ IsRid H ri many hues wds ∧ GoodR many hues wds ∧ IsTab (fun _ => False) H ta tb ∧ GoodS many hues tb ∧ prodL (tb.map List.length) ≤ 5000 ∧ Tabs Ps H ∧
  ∀ H' t wa kvs es last, FrS Ps H H' → H t = none → H wa = none → H' t = some (.tup [.ref wa, last]) → H' wa = some (.dT kvs) → Paired (IsWayB H') kvs es → SeaEnd wds tb es H' last → Q (.ref t) H'
end Rd

set_option autoImplicit false
set_option Elab.async false
set_option linter.all false
set_option maxRecDepth 100000
set_option maxHeartbeats 4000000
namespace Rd
open PySem PySem.Spec PyProof.Rows L2 Dt

theorem ip_mulF {X : Cx} : PIp X .Mult (fun x y H Q => ∃ i j, x = .int i ∧ y = .int j ∧ CMul i j ∧ Q (.int (i * j)) H) := fun pins s σ H x y v u Q I r1 r2 h => by
  rcases h with ⟨i, j, rfl, rfl, hm, q⟩
  rcases r1 with ⟨t1, rfl⟩
  rcases r2 with ⟨t2, rfl⟩
  exact imul_int ⟨.int (i * j), _, I.tok _, ⟨_, rfl⟩, q⟩ (CMul.ok hm)
theorem prod_app : ∀ (a b : List Nat), prodL (a ++ b) = prodL a * prodL b
  | [], b => by show prodL b = 1 * prodL b; rw [Nat.one_mul]
  | n :: r, b => by show n * prodL (r ++ b) = n * prodL r * prodL b; rw [prod_app r b, Nat.mul_assoc]
theorem prod_pos : ∀ {l : List Nat}, (∀ n ∈ l, 1 ≤ n) → 1 ≤ prodL l
  | [], _ => Nat.le_refl 1
  | n :: r, h => Nat.mul_pos (h n List.mem_cons_self) (prod_pos fun x hx => h x (List.mem_cons_of_mem _ hx))
theorem prod_take {l : List Nat} (h : ∀ n ∈ l, 1 ≤ n) (i : Nat) : prodL (l.take i) ≤ prodL l := by
  have e := List.take_append_drop i l
  have z := prod_app (l.take i) (l.drop i)
  rw [e] at z
  rw [z]
  exact Nat.le_mul_of_pos_right _ (prod_pos fun n hn => h n (List.mem_of_mem_drop hn))
def spRtm : Sp := fun vs H Q _ => ∃ (ta : Addr) (tb : List (List Int)), vs = [.ref ta] ∧ IsTab (fun _ => False) H ta tb ∧ (∀ ds ∈ tb, 1 ≤ ds.length) ∧ prodL (tb.map List.length) ≤ 5000 ∧ Q .non H
def spFew (Ps : List Addr) : Sp := fun vs H Q _ => ∃ (ri ta : Addr) (wds : List WD) (many hues : Int) (tb : List (List Int)), vs = [.ref ri, .ref ta] ∧ IsRid H ri many hues wds ∧ GoodR many hues wds ∧ IsTab (fun _ => False) H ta tb ∧ GoodS many hues tb ∧ prodL (tb.map List.length) ≤ 5000 ∧ Tabs Ps H ∧
  ∀ H', FrS Ps H H' → ((∀ ns t, Steps wds tb (zerosI tb.length) ns t → broL (stand tb t) wds wds.length ≠ []) → Q .non H') ∧
    ∀ l ns t, H l = none → H' l = some (.lst (ns.map V.int)) → Steps wds tb (zerosI tb.length) ns t → broL (stand tb t) wds wds.length = [] → (∀ ns' t', Steps wds tb (zerosI tb.length) ns' t' → broL (stand tb t') wds wds.length = [] → ns.length ≤ ns'.length) → Q (.ref l) H'
structure TxtRtm (mg : Str → Option Value) : Prop where
  m_len : mg "len" = none
  g_MOST_CHOICES : ∃ u, mg "MOST_CHOICES" = some u ∧ RelV (.int 5000) u
structure TxtFew (P : Program) (w : World) (K : PySem.W.Frag) (mg : Str → Option Value) (base : Heap) (Ps : List Addr) : Prop where
  c_refuse_too_many : Cal P w K mg base 1 "refuse_too_many" ["table"] spRtm
  c_searched : Cal P w K mg base 7 "searched" ["riddle", "table"] (spSea Ps)
section
variable {P : Program} {w : World} {K : PySem.W.Frag} {mg : Str → Option Value} {base : Heap}
end
end Rd

set_option autoImplicit false
set_option Elab.async false
set_option linter.all false
set_option maxRecDepth 100000
set_option maxHeartbeats 4000000
namespace Rd
open PySem PySem.Spec PyProof.Rows L2 Dt

def kvF (fl : List (List Int × Int)) : List (List Key × V) := fl.map fun x => (keyB x.1, .int x.2)
theorem kvF_val {fl : List (List Int × Int)} {g : List Int} : valV (kvF fl) (keyB g) = if g ∈ fl.map (·.1) then some (.int (valL fl g)) else none := by
  induction fl with
  | nil => rfl
  | cons e r ih =>
    show valV ((keyB e.1, V.int e.2) :: kvF r) (keyB g) = _
    by_cases h : e.1 = g
    · rw [valV_pos (by rw [← h]), valL_cons, if_pos h, List.map_cons, if_pos (by rw [← h]; exact List.mem_cons_self)]
    · rw [valV_neg (fun z => h (keyB_inj z)), ih, valL_cons, if_neg h, List.map_cons]
      by_cases m : g ∈ r.map (·.1)
      · rw [if_pos m, if_pos (List.mem_cons_of_mem _ m)]
      · rw [if_neg m, if_neg (fun z => (List.mem_cons.mp z).elim (fun q => h q.symm) m)]
theorem kvF_get {fl : List (List Int × Int)} {g : List Int} : (valV (kvF fl) (keyB g)).getD (.int 0) = .int (valL fl g) := by
  rw [kvF_val]
  by_cases m : g ∈ fl.map (·.1)
  · rw [if_pos m]; rfl
  · rw [if_neg m, valL_not m]; rfl
theorem valF_mem {x : List Int × Int} : ∀ {fl : List (List Int × Int)}, (fl.map (·.1)).Nodup → x ∈ fl → valL fl x.1 = x.2
  | d :: r, nd, m => by
    rw [List.map_cons, List.nodup_cons] at nd
    rw [valL_cons]
    rcases List.mem_cons.mp m with z | z
    · rw [z, if_pos rfl]
    · rw [if_neg (fun q => nd.1 (by rw [q]; exact List.mem_map.mpr ⟨x, z, rfl⟩))]
      exact valF_mem nd.2 z
/-- floors that hold -/
structure FlOk (wds : List WD) (tb : List (List Int)) (fl : List (List Int × Int)) : Prop where
  nd : (fl.map (·.1)).Nodup
  good : ∀ x ∈ fl, GoodK tb x.1
  kept : ∀ x ∈ fl, broL (stand tb x.1) wds wds.length = [] → x.2 ≤ 0
  step : ∀ x ∈ fl, broL (stand tb x.1) wds wds.length ≠ [] → ∀ m ∈ mendM wds tb x.1, x.2 ≤ 1 + valL fl m.2
def flE (es : List Ent) (most : Int) : List (List Int × Int) := es.map fun e => (e.1, if most - e.2.1 > 0 then most - e.2.1 else 0)
theorem flE_keys {es : List Ent} {most : Int} : (flE es most).map (·.1) = es.map (·.1) := by
  unfold flE
  rw [List.map_map]
  rfl
theorem flE_val {es : List Ent} {most : Int} (nd : (es.map (·.1)).Nodup) {e : Ent} (he : e ∈ es) : valL (flE es most) e.1 = if most - e.2.1 > 0 then most - e.2.1 else 0 :=
  valF_mem (x := (e.1, if most - e.2.1 > 0 then most - e.2.1 else 0)) (by rw [flE_keys]; exact nd) (List.mem_map.mpr ⟨e, he, rfl⟩)
theorem flE_nonneg (es : List Ent) (most : Int) (t : List Int) : 0 ≤ valL (flE es most) t := by
  unfold flE
  induction es with
  | nil => exact Int.le_refl 0
  | cons e r ih =>
    rw [List.map_cons, valL_cons]
    by_cases c : e.1 = t
    · rw [if_pos c]
      show 0 ≤ if most - e.2.1 > 0 then most - e.2.1 else 0
      split <;> omega
    · rw [if_neg c]
      exact ih
theorem Bfs.floors {wds : List WD} {tb : List (List Int)} {es : List Ent} {a : Nat} {l : Ent} (B : Bfs wds tb es a 0) (hl : es[a]? = some l) : FlOk wds tb (flE es l.2.1) where
  nd := by rw [flE_keys]; exact B.nd
  good := fun x hx => by
    obtain ⟨e, he, rfl⟩ := List.mem_map.mp hx
    exact B.good e he
  kept := fun x hx hk => by
    obtain ⟨e, he, rfl⟩ := List.mem_map.mp hx
    obtain ⟨j, hj⟩ := List.getElem?_of_mem he
    by_cases c : j < a
    · exact ((B.done j e c hj).1 hk).elim
    · have := B.mono a j l e (by omega) hl hj
      show (if l.2.1 - e.2.1 > 0 then l.2.1 - e.2.1 else 0) ≤ 0
      split <;> omega
  step := fun x hx _ m hm => by
    obtain ⟨e, he, rfl⟩ := List.mem_map.mp hx
    obtain ⟨j, hj⟩ := List.getElem?_of_mem he
    have nn := flE_nonneg es l.2.1 m.2
    show (if l.2.1 - e.2.1 > 0 then l.2.1 - e.2.1 else 0) ≤ _
    by_cases c : j < a
    · obtain ⟨f, hf, ef, lf⟩ := (B.done j e c hj).2 m hm
      rw [← ef, flE_val B.nd hf]
      split <;> split <;> omega
    · have := B.mono a j l e (by omega) hl hj
      split <;> omega
def spFof (Ps : List Addr) (D : Addr) : Sp := fun vs H Q E => ∃ (ri ta : Addr) (wds : List WD) (many hues : Int) (tb : List (List Int)), vs = [.ref ri, .ref ta] ∧ IsRid H ri many hues wds ∧ GoodR many hues wds ∧ IsTab (fun _ => False) H ta tb ∧ GoodS many hues tb ∧ prodL (tb.map List.length) ≤ 5000 ∧ Tabs Ps H ∧
  ∀ H', FrS Ps H H' → ((∀ ns t, Steps wds tb (zerosI tb.length) ns t → broL (stand tb t) wds wds.length ≠ []) → E (.ref D) none H') ∧
    ∀ d fl ns t, H d = none → H' d = some (.dT (kvF fl)) → FlOk wds tb fl → Steps wds tb (zerosI tb.length) ns t → broL (stand tb t) wds wds.length = [] → (∀ ns' t', Steps wds tb (zerosI tb.length) ns' t' → broL (stand tb t') wds wds.length = [] → ns.length ≤ ns'.length) → valL fl (zerosI tb.length) = (ns.length : Int) → fl.length ≤ 5000 → Q (.ref d) H'
end Rd

set_option autoImplicit false
set_option Elab.async false
set_option linter.all false
set_option maxRecDepth 100000
set_option maxHeartbeats 4000000
namespace Rd
open PySem PySem.Spec PyProof.Rows L2 Dt
abbrev sNum : Stmt := topS 1
abbrev nNum : List Str := ["thing", "low", "high"]
theorem scNum : FnScope nNum ["thing", "low", "high"] (defScope sNum) := ⟨rfl, rfl, rfl, by decide +kernel, rfl, by decide +kernel, by decide +kernel⟩
abbrev sIst : Stmt := topS 11
abbrev nIst : List Str := ["table", "taken", "beyond", "draws"]
theorem scIst : FnScope nIst ["table", "taken"] (defScope sIst) := ⟨rfl, rfl, rfl, by decide +kernel, rfl, by decide +kernel, by decide +kernel⟩
abbrev sIsf : Stmt := topS 12
abbrev nIsf : List Str := ["riddle", "table", "floors", "taken", "floor", "number", "after"]
theorem scIsf : FnScope nIsf ["riddle", "table", "floors", "taken"] (defScope sIsf) := ⟨rfl, rfl, rfl, by decide +kernel, rfl, by decide +kernel, by decide +kernel⟩
abbrev sArf : Stmt := topS 13
abbrev nArf : List Str := ["riddle", "table", "floors", "taken"]
theorem scArf : FnScope nArf ["riddle", "table", "floors"] (defScope sArf) := ⟨rfl, rfl, rfl, by decide +kernel, rfl, by decide +kernel, by decide +kernel⟩
/-- within the table -/
def istM (tb : List (List Int)) (tk : List Int) : Bool := decide (tk.length = tb.length) && (tk.zip tb).all fun x => decide (0 ≤ x.1 ∧ x.1 ≤ (x.2.length : Int) - 1)
theorem istM_good {tb : List (List Int)} {tk : List Int} : istM tb tk = true ↔ GoodK tb tk := by
  unfold istM
  rw [Bool.and_eq_true, decide_eq_true_eq, List.all_eq_true]
  constructor
  · rintro ⟨hl, h⟩
    refine ⟨hl, fun p hp => ?_⟩
    have e : (tk.zip tb)[p]? = some (tk[p]'(by omega), tb[p]) := List.getElem?_zip_eq_some.mpr ⟨List.getElem?_eq_getElem (by omega), List.getElem?_eq_getElem hp⟩
    have z := of_decide_eq_true (h _ (List.mem_of_getElem? e))
    rw [getD_get (show p < tk.length by omega), getD_get hp]
    dsimp only at z
    omega
  · intro g
    refine ⟨g.len, fun x hx => ?_⟩
    obtain ⟨p, hp⟩ := List.getElem?_of_mem hx
    obtain ⟨h1, h2⟩ := List.getElem?_zip_eq_some.mp hp
    have il := (List.getElem?_eq_some_iff.mp h2).1
    have a := g.at_ p il
    rw [List.getD_eq_getElem?_getD, h1, List.getD_eq_getElem?_getD, h2] at a
    have a : 0 ≤ x.1 ∧ x.1 < (x.2.length : Int) := a
    exact decide_eq_true ⟨a.1, by omega⟩
def isfM (wds : List WD) (tb : List (List Int)) (fl : List (List Int × Int)) (tk : List Int) : Bool := if broL (stand tb tk) wds wds.length = [] then decide (valL fl tk ≤ 0) else (mendM wds tb tk).all fun m => decide (valL fl tk ≤ 1 + valL fl m.2)
def arfM (wds : List WD) (tb : List (List Int)) (fl : List (List Int × Int)) : Bool := fl.all fun x => istM tb x.1 && isfM wds tb fl x.1
theorem FlOk.yes {wds : List WD} {tb : List (List Int)} {fl : List (List Int × Int)} (h : FlOk wds tb fl) : arfM wds tb fl = true := by
  refine List.all_eq_true.mpr fun x hx => ?_
  rw [Bool.and_eq_true]
  refine ⟨istM_good.mpr (h.good x hx), ?_⟩
  unfold isfM
  have v := valF_mem h.nd hx
  split
  · rename_i c
    exact decide_eq_true (by rw [v]; exact h.kept x hx c)
  · rename_i c
    refine List.all_eq_true.mpr fun m hm => decide_eq_true ?_
    rw [v]
    exact h.step x hx c m hm
/-- the dict held, all else as it was -/
def FrD (Ps : List Addr) (fd : Addr) (fl : List (List Int × Int)) (H H' : Hp) : Prop := (∀ b o, b ∉ Ps → b ≠ fd → H b = some o → H' b = some o) ∧ Tabs Ps H' ∧ ∃ od, H' fd = some (.frz od (.dT (kvF fl)))
def spNumF : Sp := fun vs H Q _ => ∃ t lo hi : Int, vs = [.int t, .int lo, .int hi] ∧ Q (.bl (decide (lo ≤ t ∧ t ≤ hi))) H
def spIst (Ps : List Addr) : Sp := fun vs H Q _ => ∃ (ta ka : Addr) (tb : List (List Int)) (tk : List Int), vs = [.ref ta, .ref ka] ∧ IsTab (fun _ => False) H ta tb ∧ H ka = some (.tup (tk.map V.int)) ∧ tb.length ≤ 999 ∧ Tabs Ps H ∧ ∀ H', FrS Ps H H' → Q (.bl (istM tb tk)) H'
def spIsf (Ps : List Addr) : Sp := fun vs H Q _ => ∃ (ri ta fd ka : Addr) (od : Obj) (wds : List WD) (many hues : Int) (tb : List (List Int)) (tk : List Int) (fl : List (List Int × Int)), vs = [.ref ri, .ref ta, .ref fd, .ref ka] ∧ IsRid H ri many hues wds ∧ GoodR many hues wds ∧ IsTab (fun _ => False) H ta tb ∧ GoodS many hues tb ∧ H fd = some (.frz od (.dT (kvF fl))) ∧ H ka = some (.tup (tk.map V.int)) ∧ tk ∈ fl.map (·.1) ∧ GoodK tb tk ∧ Tabs Ps H ∧
  ∀ H', FrS Ps H H' → Q (.bl (isfM wds tb fl tk)) H'
def spArf (Ps : List Addr) : Sp := fun vs H Q _ => ∃ (ri ta fd : Addr) (wds : List WD) (many hues : Int) (tb : List (List Int)) (fl : List (List Int × Int)), vs = [.ref ri, .ref ta, .ref fd] ∧ IsRid H ri many hues wds ∧ GoodR many hues wds ∧ IsTab (fun _ => False) H ta tb ∧ GoodS many hues tb ∧ Rd H fd (.dT (kvF fl)) ∧ fd ∉ Ps ∧ Tabs Ps H ∧
  ∀ H', FrD Ps fd fl H H' → Q (.bl (arfM wds tb fl)) H'
structure TxtNuF (mg : Str → Option Value) : Prop where
  m_isinstance : mg "isinstance" = none
  m_int : mg "int" = none
  m_bool : mg "bool" = none
structure TxtIst (P : Program) (w : World) (K : PySem.W.Frag) (mg : Str → Option Value) (base : Heap) : Prop where
  m_len : mg "len" = none
  m_all : mg "all" = none
  m_zip : mg "zip" = none
  c_is_number : Cal P w K mg base 1 "is_number" ["thing", "low", "high"] spNumF
structure TxtIsf (P : Program) (w : World) (K : PySem.W.Frag) (mg : Str → Option Value) (base : Heap) (Ps : List Addr) : Prop where
  m_all : mg "all" = none
  c_broken : Cal P w K mg base 5 "broken" ["riddle", "filling"] (spBro Ps)
  c_standing : Cal P w K mg base 3 "standing" ["table", "taken"] (spStaE Ps)
  c_mendings : Cal P w K mg base 6 "mendings" ["riddle", "table", "taken"] (spMds Ps)
structure TxtArf (P : Program) (w : World) (K : PySem.W.Frag) (mg : Str → Option Value) (base : Heap) (Ps : List Addr) : Prop where
  m_all : mg "all" = none
  c_is_taken : Cal P w K mg base 3 "is_taken" ["table", "taken"] (spIst Ps)
  c_is_floor : Cal P w K mg base 8 "is_floor" ["riddle", "table", "floors", "taken"] (spIsf Ps)
section
variable {P : Program} {w : World} {K : PySem.W.Frag} {mg : Str → Option Value} {base : Heap}
theorem ok_numF {f : Addr} {fd : FuncData} {k : Nat} (F : Fun K "is_number" "is_number" sNum f fd) (T : TxtNuF mg) : FnOk P w K mg base CX0 (k + 1) f fd ["thing", "low", "high"] spNumF := by
  refine F.ok scNum (fun vs H Q E h => ?_) (fun cdv A outer s H vs Q E hr h => ?_)
  · obtain ⟨t, lo, hi, rfl, _⟩ := h
    rfl
  · obtain ⟨t, lo, hi, rfl, q⟩ := h
    refine ⟨_, (pss_one (ps_ret (pe_and (pe_callB call_isi (by rfl) T.m_isinstance (by decide +kernel) (pa_cons (pv 0) (pa_cons (pe_bltn (v := .ty "int") (by rfl) T.m_int (by decide +kernel) rfl) pa_nil))) (pe_and (pe_not (pe_callB call_isi (by rfl) T.m_isinstance (by decide +kernel) (pa_cons (pv 0) (pa_cons (pe_bltn (v := .ty "bool") (by rfl) T.m_bool (by decide +kernel) rfl) pa_nil)))) (pe_one (pe_chain op_le op_le (pv 1) (pv 0) (pv 2))))))), ?_⟩
    refine ⟨.int t, rfl, .int t, .ty "int", .type "int", .type "int", true, rfl, .ty _, .base (.int t), kit_ty (by decide +kernel), true, rfl, iteT ?_⟩
    refine ⟨.int t, rfl, .int t, .ty "bool", .type "int", .type "bool", false, rfl, .ty _, .base (.int t), kit_ty (by decide +kernel), false, rfl, true, rfl, iteT ?_⟩
    refine ⟨.int lo, rfl, .int t, rfl, lo, t, rfl, rfl, _, rfl, ite2 (fun e => ?_) (fun e => ?_)⟩
    · refine ⟨.int hi, rfl, t, hi, rfl, rfl, ?_⟩
      have e : lo ≤ t := by simpa using e
      have e2 : decide (lo ≤ t ∧ t ≤ hi) = decide (t ≤ hi) := by simp [e]
      rw [e2] at q
      exact q
    · have e : ¬ lo ≤ t := by simpa using e
      have e2 : decide (lo ≤ t ∧ t ≤ hi) = false := by simp [e]
      rw [e2] at q
      exact q
theorem ok_ist {f c Pt : Addr} {Ps : List Addr} {fd : FuncData} {k : Nat} (F : FunC K "is_taken" "is_taken" sIst f fd (.ref c)) (TB : GxR.TabB base mg c Pt) (hP : Pt ∈ Ps) (T : TxtIst P w K mg base) : FnOk P w K mg base CX0 (k + 3) f fd ["table", "taken"] (spIst Ps) := by
  refine F.ok scIst (fun vs H Q E h => ?_) (fun A outer s H vs Q E hr h => ?_)
  · obtain ⟨ta, ka, tb, tk, rfl, _⟩ := h
    rfl
  · obtain ⟨ta, ka, tb, tk, rfl, htb, hk, tl, hT, q⟩ := h
    refine ⟨_, (pss_cons (ps_if (pt_cmpR op_ne (pe_callB call_len_seq (by rfl) T.m_len (by decide +kernel) (pa_cons (pv 1) pa_nil)) (pe_callB call_len_seq (by rfl) T.m_len (by decide +kernel) (pa_cons (pv 0) pa_nil)) (nomark _))
  (pss_one (ps_ret pe_bl)) pss_nil)
  (pss_one (ps_ret (Gx.pe_allX (own := [("beyond", 2), ("draws", 3)]) (g := gTup K 2 (gCons (gName 2) (gCons (gName 3) gNil))) (te := tCall spNumF [] E0 (tCons (tVar 2) (tCons (tC (.int 0)) (tCons (tOp (rI0 fun i j => .int (i - j)) (tCB (rLen K) (tCons (tVar 3) tNil)) (tC (.int 1))) tNil)))) hr (by rfl) T.m_all rfl scIst.nd TB rfl (blkOk_by (own := [("beyond", 2), ("draws", 3)]) (N := nIst) (sc := defScope sIst) (by decide +kernel)) ⟨rfl, by decide +kernel, rfl⟩ (pi_zipM (by rfl) T.m_zip (pa_cons (pv 1) (pa_cons (pv 0) pa_nil)))
   (fun _ _ _ _ _ _ hA => (pg_tup rfl (pgs_cons (pg_name (i := 2) scIst.nd rfl (Or.inl rfl)) (pgs_cons (pg_name (i := 3) scIst.nd rfl (Or.inl rfl)) pgs_nil)))) (fun _ _ _ _ _ _ hA => pts_nil) (fun _ _ _ _ _ _ hA => (pe_cal T.c_is_number (hA.mono (by omega)) (by rfl) (pa_cons (pv 2) (pa_cons pe_int (pa_cons (pe_op op_sub (pe_callB call_len_seq (by rfl) T.m_len (by decide +kernel) (pa_cons (pv 3) pa_nil)) pe_int) pa_nil))))))))), ?_⟩
    obtain ⟨das, hta, _, _, pr⟩ := id htb
    have dl := pairedLen pr
    refine ⟨.ref ka, rfl, ka, _, rfl, .inr (.inl (.inl hk)), .ref ta, rfl, ta, _, rfl, .inl (.inl (.inl hta)), rfl, _, rfl, ite2 (fun c => ?_) (fun c => ?_)⟩
    · have ne : ¬ tk.length = tb.length := fun z => by
        rw [List.length_map, List.length_map, dl, z, decide_eq_true rfl] at c
        cases c
      have : istM tb tk = false := by
        unfold istM
        rw [decide_eq_false ne, Bool.false_and]
      rw [this] at q
      exact q H (FrS.refl hT)
    · have eq : tk.length = tb.length := by
        by_cases z : tk.length = tb.length
        · exact z
        · refine absurd ?_ c
          rw [List.length_map, List.length_map, dl]
          show (!decide (V.int (tk.length : Int) = V.int (tb.length : Int))) = true
          rw [decide_eq_false fun y => z (by injection y with y; omega)]
          rfl
      have e0 : istM tb tk = (tk.zip tb).all fun x => decide (0 ≤ x.1 ∧ x.1 ≤ (x.2.length : Int) - 1) := by
        unfold istM
        rw [decide_eq_true eq, Bool.true_and]
      rw [e0] at q
      refine ⟨.ref ka, rfl, .ref ta, rfl, false, true, ka, ta, tk.map V.int, das.map V.ref, rfl, .inl (.inl hk), .inl (.inl hta), hT _ hP, fun H2 tb2 => ?_⟩
      have f2 := FrS.one hT hP tb2
      refine Gx.all_zipM (K := K) (k1 := false) (k2 := true) (a := ka) (b := ta) (xs := tk.map V.int) (ys := das.map V.ref) (by rw [List.length_map, List.length_map]; omega) (fun i H3 => FrS Ps H H3 ∧ ((tk.zip tb).take i).all (fun x => decide (0 ≤ x.1 ∧ x.1 ≤ (x.2.length : Int) - 1)) = true) ⟨f2, rfl⟩ (fun i H3 p => ⟨.inl (.inl (p.1.tups hT _ _ hk)), .inl (.inl ((p.1.seqs hT).2 _ _ hta))⟩) (fun i x y Tt H3 hx hy p nT => ?_) (fun H3 p => ?_)
      · obtain ⟨b, eb, rfl⟩ := map_get hx
        obtain ⟨d, ed, rfl⟩ := map_get hy
        obtain ⟨f3, e3⟩ := p
        obtain ⟨ds, eds, hd⟩ := pairedGetL pr ed
        have hd : H d = some (.lst (ds.map V.int)) := hd
        have f4 := f3.same (same_upd (o := .tup [.int b, .ref d]) nT)
        have ez : (tk.zip tb)[i]? = some (b, ds) := List.getElem?_zip_eq_some.mpr ⟨eb, eds⟩
        refine ⟨Tt, _, rfl, .inl (.inl upd_same), rfl, .int b, [.ref d], rfl, .ref d, [], rfl, rfl, rfl, yes_if ?_⟩
        refine ⟨.int b, rfl, .ref d, rfl, d, _, rfl, .inl (.inl (.inl ((f4.seqs hT).2 _ _ hd))), _, _, rfl, rfl, b, 0, _, rfl, _, rfl, ?_⟩
        rw [List.length_map]
        by_cases cc : 0 ≤ b ∧ b ≤ (ds.length : Int) - 1
        · rw [if_pos (decide_eq_true cc)]
          refine ⟨f4, ?_⟩
          rw [take_snoc ez, List.all_append, e3, List.all_cons, decide_eq_true cc]
          rfl
        · rw [if_neg (by rw [decide_eq_false cc]; decide)]
          have : ((tk.zip tb).all fun x => decide (0 ≤ x.1 ∧ x.1 ≤ (x.2.length : Int) - 1)) = false := by
            rw [List.all_eq_false]
            exact ⟨(b, ds), List.mem_of_getElem? ez, by rw [decide_eq_false cc]; decide⟩
          rw [this] at q
          exact q _ f4
      · obtain ⟨f3, e3⟩ := p
        have zl : (tk.zip tb).length = tk.length := by rw [List.length_zip]; omega
        rw [List.length_map, ← zl, List.take_length] at e3
        rw [e3] at q
        exact q _ f3
theorem ok_isf {f c Pt : Addr} {Ps : List Addr} {fd : FuncData} {k : Nat} (F : FunC K "is_floor" "is_floor" sIsf f fd (.ref c)) (TB : GxR.TabB base mg c Pt) (hP : Pt ∈ Ps) (T : TxtIsf P w K mg base Ps) : FnOk P w K mg base CX0 (k + 8) f fd ["riddle", "table", "floors", "taken"] (spIsf Ps) := by
  refine F.ok scIsf (fun vs H Q E h => ?_) (fun A outer s H vs Q E hr h => ?_)
  · obtain ⟨ri, ta, fd, ka, od, wds, many, hues, tb, tk, fl, rfl, _⟩ := h
    rfl
  · obtain ⟨ri, ta, fd, ka, od, wds, many, hues, tb, tk, fl, rfl, hrd, g, htb, gs, hfd, hk, hm, gk, hT, q⟩ := h
    refine ⟨_, (pss_cons (ps_set (i := 4) scIsf.nd rfl (Or.inr rfl) (pe_dget (hu_of hr) (pv 2) (pv 3) (fun _ _ => rfl)))
  (pss_cons (ps_if (pt_not (pt_truth (pe_cal T.c_broken (hr.mono (by omega)) (by rfl) (pa_cons (pv 0) (pa_cons (pe_cal T.c_standing (hr.mono (by omega)) (by rfl) (pa_cons (pv 1) (pa_cons (pv 3) pa_nil))) pa_nil))) (by intro _; rfl)))
  (pss_one (ps_ret (pe_cmpR op_le (pv 4) pe_int (nomark _)))) pss_nil)
  (pss_one (ps_ret (Gx.pe_allX (own := [("number", 5), ("after", 6)]) (g := gTup K 2 (gCons (gName 5) (gCons (gName 6) gNil))) (te := tOp (rI0 fun i j => .bl (decide (i ≤ j))) (tVar 4) (tOp (rI0 fun i j => .int (i + j)) (tC (.int 1)) (tDGet2 (tVar 2) (tVar 6) (tC (.int 0))))) hr (by rfl) T.m_all rfl scIsf.nd TB rfl (blkOk_by (own := [("number", 5), ("after", 6)]) (N := nIsf) (sc := defScope sIsf) (by decide +kernel)) ⟨rfl, by decide +kernel, rfl⟩ (pi_list (pe_cal T.c_mendings (hr.mono (by omega)) (by rfl) (pa_cons (pv 0) (pa_cons (pv 1) (pa_cons (pv 3) pa_nil)))))
   (fun _ _ _ _ _ _ hA => (pg_tup rfl (pgs_cons (pg_name (i := 5) scIsf.nd rfl (Or.inl rfl)) (pgs_cons (pg_name (i := 6) scIsf.nd rfl (Or.inl rfl)) pgs_nil)))) (fun _ _ _ _ _ _ hA => pts_nil) (fun _ _ _ _ _ _ hA => (pe_cmpR op_le (pv 4) (pe_op op_add pe_int (pe_dget2 (hu_of hA) (pv 2) (pv 6) pe_int ⟨by rfl, by rfl, by rfl, by rfl⟩)) (nomark _)))))))), ?_⟩
    have nfP : fd ∉ Ps := fun z => by
      obtain ⟨ps, e, _⟩ := hT fd z
      rw [hfd] at e
      cases e
    have hk' : H ka = some (.tup ((keyB tk).map kV)) := by rw [keyB_kV]; exact hk
    refine ⟨.ref fd, rfl, .ref ka, rfl, fd, .int (valL fl tk), rfl, .inr ⟨kvF fl, keyB tk, ka, .inr ⟨od, hfd⟩, rfl, hk', by rw [kvF_val, if_pos hm]⟩, ?_⟩
    have gf := standS_good gs gk
    have tl := gs.len
    have m6 := g.m6
    refine ⟨.ref ri, rfl, .ref ta, rfl, .ref ka, rfl, false, ta, ka, tb, tk, rfl, htb, .inr ⟨rfl, hk⟩, gk, by omega, hT, fun H1 fa f1 nfa hfa => ?_⟩
    refine ⟨ri, fa, _, wds, many, hues, rfl, hrd.mono (f1.tups hT), hfa, gf, g, f1.2, fun H2 lb f2 nlb hlb => ?_⟩
    have F2 := f1.trans f2
    refine ⟨_, .inl ⟨_, .inl (.inl hlb), rfl⟩, ?_⟩
    cases hb : broL (stand tb tk) wds wds.length with
    | nil =>
      refine iteT ?_
      have : isfM wds tb fl tk = decide (valL fl tk ≤ 0) := by
        unfold isfM
        rw [if_pos hb]
      rw [this] at q
      exact ⟨_, rfl, _, _, rfl, rfl, q _ F2⟩
    | cons kb rb =>
      refine iteF ?_
      have ef : isfM wds tb fl tk = (mendM wds tb tk).all fun m => decide (valL fl tk ≤ 1 + valL fl m.2) := by
        unfold isfM
        rw [if_neg (by rw [hb]; exact fun z => nomatch z)]
      rw [ef] at q
      have htb2 : IsTab (fun _ => False) H2 ta tb := htb.mono fun b xs _ z => (F2.seqs hT).2 _ _ z
      refine ⟨.ref ri, rfl, .ref ta, rfl, .ref ka, rfl, ri, ta, ka, wds, many, hues, tb, tk, rfl, hrd.mono (F2.tups hT), g, htb2, F2.tups hT _ _ hk, gk, gf, tl, F2.2, fun H3 lm ms f3 nlm hlm pms => ?_⟩
      have F3 := F2.trans f3
      have hT3 := F3.2
      have ml := pairedLen pms
      refine ⟨lm, rfl, ⟨_, .inl (.inl hlm)⟩, hT3 _ hP, fun H4 tb4 => ?_⟩
      have f4 := FrS.one hT3 hP tb4
      refine Gx.all_list (K := K) (a := lm) (xs := ms.map V.ref) (fun i H5 => FrS Ps H3 H5 ∧ ((mendM wds tb tk).take i).all (fun m => decide (valL fl tk ≤ 1 + valL fl m.2)) = true) ⟨f4, rfl⟩ (fun i H5 _ p => .inl (.inl ((p.1.seqs hT3).2 _ _ hlm))) (fun i x H5 hx p => ?_) (fun H5 p => ?_)
      · obtain ⟨m0, em0, rfl⟩ := map_get hx
        obtain ⟨⟨n, af⟩, emx, t, hm0, ht⟩ := pairedGetL pms em0
        have hm0 : H3 m0 = some (.tup [.int n, .ref t]) := hm0
        have ht : H3 t = some (.tup (af.map V.int)) := ht
        obtain ⟨f5, e5⟩ := p
        have t5 := f5.tups hT3
        have ht5 : H5 t = some (.tup ((keyB af).map kV)) := by rw [keyB_kV]; exact t5 _ _ ht
        have hfd5 := (F3.trans f5).1 fd _ nfP hfd
        refine ⟨m0, [.int n, .ref t], rfl, .inl (.inl (t5 _ _ hm0)), rfl, .int n, [.ref t], rfl, .ref t, [], rfl, rfl, rfl, yes_if ?_⟩
        refine ⟨.int _, rfl, .ref fd, rfl, fd, rfl, .inr ⟨kvF fl, .inr ⟨od, hfd5⟩⟩, .ref t, rfl, _, .inr ⟨kvF fl, keyB af, t, .inr ⟨od, hfd5⟩, rfl, ht5, rfl⟩, ?_⟩
        rw [kvF_get]
        refine ⟨_, _, rfl, rfl, _, _, rfl, rfl, _, rfl, ?_⟩
        by_cases cc : valL fl tk ≤ 1 + valL fl af
        · rw [if_pos (decide_eq_true cc)]
          refine ⟨f5, ?_⟩
          rw [take_snoc emx, List.all_append, e5, List.all_cons, decide_eq_true cc]
          rfl
        · rw [if_neg (by rw [decide_eq_false cc]; decide)]
          have : ((mendM wds tb tk).all fun m => decide (valL fl tk ≤ 1 + valL fl m.2)) = false := by
            rw [List.all_eq_false]
            exact ⟨(n, af), List.mem_of_getElem? emx, by rw [decide_eq_false cc]; decide⟩
          rw [this] at q
          exact q _ (F3.trans f5)
      · obtain ⟨f5, e5⟩ := p
        rw [List.length_map, ml, List.take_length] at e5
        rw [e5] at q
        exact q _ (F3.trans f5)
theorem ok_arf {f c Pt : Addr} {Ps : List Addr} {fd : FuncData} {k : Nat} (F : FunC K "are_floors" "are_floors" sArf f fd (.ref c)) (TB : GxR.TabB base mg c Pt) (hP : Pt ∈ Ps) (T : TxtArf P w K mg base Ps) : FnOk P w K mg base CX0 (k + 10) f fd ["riddle", "table", "floors"] (spArf Ps) := by
  refine F.ok scArf (fun vs H Q E h => ?_) (fun A outer s H vs Q E hr h => ?_)
  · obtain ⟨ri, ta, fd, wds, many, hues, tb, fl, rfl, _⟩ := h
    rfl
  · obtain ⟨ri, ta, fd, wds, many, hues, tb, fl, rfl, hrd, g, htb, gs, hfd, nfd, hT, q⟩ := h
    refine ⟨_, (pss_one (ps_ret (Gx.pe_allX (own := [("taken", 3)]) hr (by rfl) T.m_all rfl scArf.nd TB rfl (blkOk_by (own := [("taken", 3)]) (N := nArf) (sc := defScope sArf) (by decide +kernel)) ⟨rfl, by decide +kernel, rfl⟩ (pi_keysE (pv 2))
   (fun _ _ _ _ _ _ hA => (pg_name (i := 3) scArf.nd rfl (Or.inl rfl))) (fun _ _ _ _ _ _ hA => pts_nil) (fun _ _ _ _ _ _ hA => (pe_and (pe_cal T.c_is_taken (hA.mono (by omega)) (by rfl) (pa_cons (pv 1) (pa_cons (pv 3) pa_nil))) (pe_one (pe_cal T.c_is_floor (hA.mono (by omega)) (by rfl) (pa_cons (pv 0) (pa_cons (pv 1) (pa_cons (pv 2) (pa_cons (pv 3) pa_nil))))))))))), ?_⟩
    have tl := gs.len
    have m6 := g.m6
    have main : ∀ (H1 : Hp) (od : Obj), H1 fd = some (.frz od (.dT (kvF fl))) → (∀ b o, b ≠ fd → H b = some o → H1 b = some o) → Tabs Ps H1 → ∀ H2, GxR.Tabbed Pt H1 H2 →
        ∃ W : Nat → Nat → Hp → Prop, (∃ m, W 0 m H2) ∧ Gx.Turns (Itkt fd od (kvF fl)) (gName 3) tYes (tAndV (tCall (spIst Ps) [] E0 (tCons (tVar 1) (tCons (tVar 3) tNil))) (tCall (spIsf Ps) [] E0 (tCons (tVar 0) (tCons (tVar 1) (tCons (tVar 2) (tCons (tVar 3) tNil)))))) (List.map (fun x => x.snd) [(Str.ofString "taken", 3)]) (L2.start nArf [V.ref ri, V.ref ta, V.ref fd]) true (fun H => Q (.bl true) H) (fun H => Q (.bl false) H) W := by
      intro H1 od e1 k1 hT1 H2 tb2
      have f2 := FrS.one hT1 hP tb2
      have nTf : ∀ {b : Addr} {o : HO}, H b = some o → (∀ kvs, o ≠ .dT kvs) → (∀ od u, o ≠ .frz od u) → b ≠ fd := fun {b o} e n1 n2 z => by
        rcases hfd with h | ⟨od', h⟩
        · rw [z, h] at e
          exact n1 _ (Option.some.inj e).symm
        · rw [z, h] at e
          exact n2 _ _ (Option.some.inj e).symm
      have tu1 : Tups H H1 := fun b xs e => k1 b _ (nTf e (fun _ z => nomatch z) (fun _ _ z => nomatch z)) e
      have ls1 : ∀ b xs, H b = some (.lst xs) → H1 b = some (.lst xs) := fun b xs e => k1 b _ (nTf e (fun _ z => nomatch z) (fun _ _ z => nomatch z)) e
      have hrd1 := hrd.mono tu1
      have htb1 : IsTab (fun _ => False) H1 ta tb := htb.mono fun b xs _ z => ls1 _ _ z
      have fin : ∀ H3, FrS Ps H1 H3 → FrD Ps fd fl H H3 := fun H3 f3 => ⟨fun b o nb n e => f3.1 b o nb (k1 b o n e), f3.2, od, f3.1 fd _ nfd e1⟩
      refine Gx.all_keysT (Pv := fun i H3 => FrS Ps H1 H3 ∧ (fl.take i).all (fun x => istM tb x.1 && isfM wds tb fl x.1) = true) ⟨f2, rfl⟩ (fun i H3 p => p.1.1 fd _ nfd e1) (fun i kk v qa H3 ex hq p => ?_) (fun H3 p => ?_)
      · obtain ⟨f3, e3⟩ := p
        unfold kvF at ex
        rw [List.getElem?_map] at ex
        obtain ⟨x, hx, e⟩ := Option.map_eq_some_iff.mp ex
        cases e
        have xm := List.mem_of_getElem? hx
        rw [keyB_kV] at hq
        have htb3 : IsTab (fun _ => False) H3 ta tb := htb1.mono fun b xs _ z => (f3.seqs hT1).2 _ _ z
        have no : (istM tb x.1 && isfM wds tb fl x.1) = false → arfM wds tb fl = false := fun z => by
          unfold arfM
          rw [List.all_eq_false]
          exact ⟨x, xm, by rw [z]; decide⟩
        refine ⟨rfl, yes_if ?_⟩
        refine ⟨.ref ta, rfl, .ref qa, rfl, ta, qa, tb, x.1, rfl, htb3, hq, by omega, f3.2, fun H4 f4 => ⟨_, rfl, ?_⟩⟩
        have f14 := f3.trans f4
        cases c : istM tb x.1 with
        | false =>
          rw [if_neg (by decide)]
          refine ⟨false, rfl, ?_⟩
          rw [if_neg (by decide)]
          have := q H4 (fin H4 f14)
          rw [no (by rw [c]; rfl)] at this
          exact this
        | true =>
          rw [if_pos rfl]
          have gk := istM_good.mp c
          have htb4 : IsTab (fun _ => False) H4 ta tb := htb1.mono fun b xs _ z => (f14.seqs hT1).2 _ _ z
          refine ⟨.ref ri, rfl, .ref ta, rfl, .ref fd, rfl, .ref qa, rfl, ri, ta, fd, qa, od, wds, many, hues, tb, x.1, fl, rfl, hrd1.mono (f14.tups hT1), g, htb4, gs, f14.1 fd _ nfd e1, f4.tups f3.2 _ _ hq, List.mem_map.mpr ⟨x, xm, rfl⟩, gk, f14.2, fun H5 f5 => ⟨_, rfl, ?_⟩⟩
          have f15 := f14.trans f5
          cases cc : isfM wds tb fl x.1 with
          | true =>
            rw [if_pos rfl]
            refine ⟨f15, ?_⟩
            rw [take_snoc hx, List.all_append, e3, List.all_cons, c, cc]
            rfl
          | false =>
            rw [if_neg (by decide)]
            have := q H5 (fin H5 f15)
            rw [no (by rw [c, cc]; rfl)] at this
            exact this
      · obtain ⟨f3, e3⟩ := p
        have kl : (kvF fl).length = fl.length := by unfold kvF; rw [List.length_map]
        rw [kl, List.take_length] at e3
        have := q H3 (fin H3 f3)
        rw [show arfM wds tb fl = true from e3] at this
        exact this
    rcases id hfd with h | ⟨od, h⟩
    · refine ⟨.ref fd, rfl, fd, _, rfl, h, .inl ⟨trivial, fun od => ⟨fd, od, rfl, .inr ⟨kvF fl, upd_same, ?_⟩⟩⟩⟩
      have k1 : ∀ b o, b ≠ fd → H b = some o → upd H fd (.frz od (.dT (kvF fl))) b = some o := fun b o n e => by
        rw [upd_ne n]
        exact e
      have hT1 : Tabs Ps (upd H fd (.frz od (.dT (kvF fl)))) := hT.put nfd
      exact ⟨hT1 _ hP, fun H2 tb2 => main _ od upd_same k1 hT1 H2 tb2⟩
    · refine ⟨.ref fd, rfl, fd, _, rfl, h, .inr ⟨fd, od, rfl, .inr ⟨kvF fl, h, ?_⟩⟩⟩
      exact ⟨hT _ hP, fun H2 tb2 => main _ od h (fun _ _ _ e => e) hT H2 tb2⟩
end
end Rd

set_option autoImplicit false
set_option Elab.async false
set_option linter.all false
set_option maxRecDepth 100000
set_option maxHeartbeats 4000000
namespace Rd
open PySem PySem.Spec PyProof.Rows L2 Dt
abbrev sDue : Stmt := topS 27
abbrev nDue : List Str := ["riddle", "table", "floors", "taken", "there", "number", "later"]
theorem scDue : FnScope nDue ["riddle", "table", "floors"] (defScope sDue) := ⟨rfl, rfl, rfl, by decide +kernel, rfl, by decide +kernel, by decide +kernel⟩
/-- floors' tuples are of the table, each once -/
structure FlG (tb : List (List Int)) (fl : List (List Int × Int)) : Prop where
  nd : (fl.map (·.1)).Nodup
  good : ∀ x ∈ fl, GoodK tb x.1
theorem FlG.same {wds : List WD} {tb : List (List Int)} {fl : List (List Int × Int)} (g : FlG tb fl) : arfM wds tb fl = fl.all fun x => isfM wds tb fl x.1 := by
  unfold arfM
  have : ∀ l : List (List Int × Int), (∀ x ∈ l, GoodK tb x.1) → (l.all fun x => istM tb x.1 && isfM wds tb fl x.1) = l.all fun x => isfM wds tb fl x.1 := fun l => by
    induction l with
    | nil => exact fun _ => rfl
    | cons x r ih =>
      intro h
      rw [List.all_cons, List.all_cons, ih fun y hy => h y (List.mem_cons_of_mem _ hy), istM_good.mpr (h x List.mem_cons_self), Bool.true_and]
  exact this fl g.good
def badM (wds : List WD) (tb : List (List Int)) (fl : List (List Int × Int)) (v : Int) (ms : List (Int × List Int)) : List (Int × List Int) := ms.filter fun m => decide (v > 1 + valL fl m.2)
theorem bad_all {wds : List WD} {tb : List (List Int)} {fl : List (List Int × Int)} {v : Int} {ms : List (Int × List Int)} : (ms.all fun m => decide (v ≤ 1 + valL fl m.2)) = (badM wds tb fl v ms).isEmpty := by
  unfold badM
  induction ms with
  | nil => rfl
  | cons m r ih =>
    rw [List.all_cons, List.filter_cons]
    by_cases c : v > 1 + valL fl m.2
    · rw [decide_eq_true c, if_pos rfl, decide_eq_false (by omega)]
      rfl
    · rw [decide_eq_false c, if_neg (by decide), decide_eq_true (show v ≤ 1 + valL fl m.2 by omega), ih]
      rfl
theorem snoc_ne {α : Type} (l : List α) (a : α) : (l ++ [a]).isEmpty = false := by cases l <;> rfl
def spDuB : Sp := fun vs H Q _ => ∃ (ri ta fd : Addr) (wds : List WD) (many hues : Int) (tb : List (List Int)) (fl : List (List Int × Int)), vs = [.ref ri, .ref ta, .ref fd] ∧ IsRid H ri many hues wds ∧ GoodR many hues wds ∧ IsTab (fun _ => False) H ta tb ∧ GoodS many hues tb ∧ H fd = some (.dT (kvF fl)) ∧ FlG tb fl ∧
  ∀ H', Same H H' → Q (.bl (fl.all fun x => isfM wds tb fl x.1)) H'
structure TxtDuB (P : Program) (w : World) (K : PySem.W.Frag) (mg : Str → Option Value) (base : Heap) : Prop where
  c__law_kept : Cal P w K mg base 2 "_law_kept" ["riddle", "table", "taken"] spLkt
  c__law_next : Cal P w K mg base 2 "_law_next" ["riddle", "table", "taken"] spLnx
section
variable {P : Program} {w : World} {K : PySem.W.Frag} {mg : Str → Option Value} {base : Heap}
set_option maxHeartbeats 16000000 in
theorem ok_duB {f : Addr} {fd : FuncData} {k : Nat} (F : Fun K "_law_due" "_law_due" sDue f fd) (T : TxtDuB P w K mg base) : FnOk P w K mg base CX0 (k + 3) f fd ["riddle", "table", "floors"] spDuB := by
  refine F.ok scDue (fun vs H Q E h => ?_) (fun cdv A outer s H vs Q E hr h => ?_)
  · obtain ⟨ri, ta, fd, wds, many, hues, tb, fl, rfl, _⟩ := h
    rfl
  · obtain ⟨ri, ta, d, wds, many, hues, tb, fl, rfl, hrd, gr, htb, gs, hd, ok, q⟩ := h
    refine ⟨_, (pss_cons (ps_lock (ps_for PassesOwn.never rfl (pi_keysE (pv 2)) (pg_name (i := 3) scDue.nd rfl (Or.inr rfl))
  (pss_one (ps_if (pt_val (pe_cal T.c__law_kept (hr.mono (by omega)) (by rfl) (pa_cons (pv 0) (pa_cons (pv 1) (pa_cons (pv 3) pa_nil)))))
  (pss_one (ps_if (pt_cmpR op_gt (pe_dget (hu_of hr) (pv 2) (pv 3) (fun _ _ => rfl)) pe_int (nomark _))
  (pss_one (ps_ret pe_bl)) pss_nil)) (pss_cons (ps_setLc (i := 4) (g := gTup K 2 (gCons (gName 5) (gCons (gName 6) gNil))) (te := tVar 6) (own := [("number", 5), ("later", 6)]) rfl scDue.nd rfl rfl (sw_true rfl rfl rfl (by decide +kernel)) (pi_list (pe_cal T.c__law_next (hr.mono (by omega)) (by rfl) (pa_cons (pv 0) (pa_cons (pv 1) (pa_cons (pv 3) pa_nil))))) (blkOk_by (own := [("number", 5), ("later", 6)]) (N := nDue) (sc := defScope sDue) (by decide +kernel))
   (fun _ _ _ _ _ => (pg_tup rfl (pgs_cons (pg_name (i := 5) scDue.nd rfl (Or.inl rfl)) (pgs_cons (pg_name (i := 6) scDue.nd rfl (Or.inl rfl)) pgs_nil)))) (fun _ _ _ _ _ => pts_nil) (fun _ _ _ _ _ => (pv 6)))
  (pss_one (ps_if (pt_cmpR (op_neE hr.units) (pe_lc (tt := tTest (tOp (rI0 fun i j => .bl (decide (i > j))) (tDGet (tVar 2) (tVar 3)) (tOp (rI0 fun i j => .int (i + j)) (tC (.int 1)) (tDGet2 (tVar 2) (tVar 6) (tC (.int 0)))))) (te := tVar 6) (own := [("later", 6)]) rfl scDue.nd  (pi_list (pv 4)) (blkOk_by (own := [("later", 6)]) (N := nDue) (sc := defScope sDue) (by decide +kernel))
   (fun _ _ _ _ _ => (pg_name (i := 6) scDue.nd rfl (Or.inl rfl))) (fun _ _ _ _ _ => pts_one (pt_cmpR op_gt (pe_dget (hu_of hr) (pv 2) (pv 3) (fun _ _ => rfl)) (pe_op op_add pe_int (pe_dget2 (hu_of hr) (pv 2) (pv 6) pe_int ⟨by rfl, by rfl, by rfl, by rfl⟩)) (nomark _))) (fun _ _ _ _ _ => (pv 6))) (pe_lst pa_nil) (nomark _))
  (pss_one (ps_ret pe_bl)) pss_nil)))))))
  (pss_one (ps_ret pe_bl))), ?_⟩
    obtain ⟨das, hta, _, _, pr⟩ := id htb
    have m6 := gr.m6
    have gl := gs.len
    have dl := pairedLen pr
    refine ⟨d, _, hd, trivial, fun od => ?_⟩
    have K0 : ∀ b o, b ≠ d → H b = some o → upd H d (.frz od (.dT (kvF fl))) b = some o := fun b o n e => by rw [upd_ne n]; exact e
    have nT : ∀ {b : Addr} {xs : List V}, H b = some (.tup xs) → b ≠ d := fun e z => by rw [z, hd] at e; cases e
    have nL : ∀ {b : Addr} {xs : List V}, H b = some (.lst xs) → b ≠ d := fun e z => by rw [z, hd] at e; cases e
    have sq : Seqs H (upd H d (.frz od (.dT (kvF fl)))) := ⟨fun b xs e => K0 b _ (nT e) e, fun b xs e => K0 b _ (nL e) e⟩
    have rid1 := hrd.mono sq.1
    have tab1 := htb.seqs sq
    have hd1 := upd_same (H := H) (a := d) (o := .frz od (.dT (kvF fl)))
    have fin : ∀ Hx, Same (upd H d (.frz od (.dT (kvF fl)))) Hx → Same H (upd Hx d (.dT (kvF fl))) := fun Hx sx b o e => by
      by_cases c : b = d
      · subst c
        rw [hd] at e
        cases e
        exact upd_same
      · rw [upd_ne c]
        exact sx _ _ (K0 b o c e)
    refine ⟨.ref d, rfl, d, _, rfl, hd1, .inr ⟨d, od, rfl, .inr ⟨kvF fl, hd1, ?_⟩⟩⟩
    refine for_keysT (d := d) (o := od) (kvs := kvF fl) (fun j σ Hx => Same (upd H d (.frz od (.dT (kvF fl)))) Hx ∧ ((fl.take j).all fun x => isfM wds tb fl x.1) = true ∧ ∃ y3 y4, σ = [some (.ref ri), some (.ref ta), some (.ref d), y3, y4, none, none]) ⟨fun _ _ e => e, rfl, none, none, rfl⟩ (fun j σ Hx _ p => p.1 _ _ hd1) (fun j kk v qa σ Hx ex hq p => ?_) (fun σ Hx p => ?_)
    · obtain ⟨sx, al, y3, y4, rfl⟩ := p
      unfold kvF at ex
      rw [List.getElem?_map] at ex
      obtain ⟨x, hx, e⟩ := Option.map_eq_some_iff.mp ex
      cases e
      have xm := List.mem_of_getElem? hx
      have hqk := hq
      rw [keyB_kV] at hq
      have gk := ok.good x xm
      have hdx := sx _ _ hd1
      have xv := valF_mem ok.nd xm
      have getx : ∀ {Hy}, Same Hx Hy → DGet Hy d (.ref qa) (some (.int x.2)) := fun s => .inr ⟨kvF fl, keyB x.1, qa, .inr ⟨od, s _ _ hdx⟩, rfl, s _ _ hqk, by rw [kvF_val, if_pos (List.mem_map.mpr ⟨x, xm, rfl⟩), xv]⟩
      have ridT : ∀ {Hy}, Same Hx Hy → IsRid Hy ri many hues wds := fun s => rid1.mono (tups_same (sx.trans s))
      have tabT : ∀ {Hy}, Same Hx Hy → IsTab (fun _ => False) Hy ta tb := fun s => tab1.seqs (seqs_same (sx.trans s))
      have next : isfM wds tb fl x.1 = true → ((fl.take (j + 1)).all fun x => isfM wds tb fl x.1) = true := fun e => by
        rw [take_snoc hx, List.all_append, al, List.all_cons, e]
        rfl
      have stop : isfM wds tb fl x.1 = false → (fl.all fun x => isfM wds tb fl x.1) = false := fun e => by
        rw [List.all_eq_false]
        exact ⟨x, xm, by rw [e]; decide⟩
      refine ⟨.ref ri, rfl, .ref ta, rfl, .ref qa, rfl, ri, ta, qa, wds, many, hues, tb, x.1, rfl, ridT (fun _ _ e => e), gr, tabT (fun _ _ e => e), gs, hq, gk, fun H8 s8 => ⟨_, rfl, ite2 (fun kp => ?_) (fun kp => ?_)⟩⟩
      · have kp := of_decide_eq_true kp
        have ei : isfM wds tb fl x.1 = decide (x.2 ≤ 0) := by
          unfold isfM
          rw [if_pos kp, xv]
        refine ⟨.ref d, rfl, .ref qa, rfl, d, .int x.2, rfl, getx s8, x.2, 0, rfl, rfl, _, rfl, ite2 (fun c => ?_) (fun c => ?_)⟩
        · have c := of_decide_eq_true c
          rw [stop (by rw [ei, decide_eq_false (by omega)])] at q
          exact ⟨s8 _ _ hdx, q _ (fin _ (sx.trans s8))⟩
        · have c : ¬ x.2 > 0 := fun z => c (decide_eq_true z)
          exact ⟨sx.trans s8, next (by rw [ei, decide_eq_true (by omega)]), _, _, rfl⟩
      · have kp : broL (stand tb x.1) wds wds.length ≠ [] := fun z => kp (decide_eq_true z)
        have ei : isfM wds tb fl x.1 = (badM wds tb fl x.2 (mendM wds tb x.1)).isEmpty := by
          unfold isfM
          rw [if_neg kp, xv]
          exact bad_all
        refine ⟨.ref ri, rfl, .ref ta, rfl, .ref qa, rfl, ri, ta, qa, wds, many, hues, tb, x.1, rfl, ridT s8, gr, tabT s8, gs, s8 _ _ hq, gk, fun Hb lm ms s9 nlm hlm pms => ⟨lm, rfl, ⟨_, .inl (.inl hlm)⟩, fun C nC => ?_⟩⟩
        have s09 := s8.trans s9
        have ml8 : ms.length ≤ 8 := by
          rw [pairedLen pms]
          unfold mendM
          rw [List.length_map]
          refine Nat.le_trans (List.length_filter_le _ _) ?_
          have e8 := gr.eight
          have : (broL (stand tb x.1) wds wds.length).length ≤ wds.length := by
            unfold broL
            rw [List.length_map]
            exact Nat.le_trans (List.length_filter_le _ _) (by rw [List.length_range]; exact Nat.le_refl _)
          omega
        refine lc_list (K := K) (a := lm) (xs := ms.map V.ref) (fun i Hm => Same Hb Hm ∧ ∃ ls : List Addr, Hm C = some (.lst (ls.map V.ref)) ∧ Paired (fun a (m : Int × List Int) => Hm a = some (.tup (m.2.map V.int))) ls ((mendM wds tb x.1).take i) ∧ ls.length = i) ⟨same_upd nC, [], upd_same, .nil, rfl⟩ (fun i Hm _ p => .inl (.inl (p.1 _ _ hlm))) (fun i z Hm hz p => ?_) (fun Hm p => ?_)
        · obtain ⟨sm, ls, hC, pl, ll⟩ := p
          obtain ⟨m0, em0, rfl⟩ := map_get hz
          obtain ⟨m, em, u, h1, h2⟩ := pairedGetL pms em0
          have il : i < ms.length := (List.getElem?_eq_some_iff.mp em0).1
          have tuC : Tups Hm (upd Hm C (.lst (ls.map V.ref ++ [V.ref u]))) := tups_upd fun xs e => by rw [hC] at e; cases e
          refine ⟨m0, _, rfl, .inl (.inl (sm _ _ h1)), rfl, .int m.1, [.ref u], rfl, .ref u, [], rfl, rfl, rfl, yes_if ?_⟩
          refine ⟨.ref u, rfl, _, hC, by rw [List.length_map]; exact small1000 (by omega), same_put sm nC, ls ++ [u], by rw [upd_same, List.map_append]; rfl, ?_, by rw [List.length_append, ll]; rfl⟩
          rw [take_snoc em]
          exact pairedSnoc (pairedMap (fun _ _ e => tuC _ _ e) pl) (tuC _ _ (sm _ _ h2))
        · obtain ⟨sm, ls, hC, pl, ll⟩ := p
          rw [List.length_map, pairedLen pms, List.take_length] at pl
          rw [List.length_map] at ll
          have s010 := s09.trans sm
          refine ⟨.ref C, rfl, C, rfl, ⟨_, .inl (.inl hC)⟩, fun D nD => ?_⟩
          refine lc_list (K := K) (a := C) (xs := ls.map V.ref) (fun i Hn => Same Hm Hn ∧ ∃ zs : List V, Hn D = some (.lst zs) ∧ zs.length ≤ i ∧ zs.isEmpty = (badM wds tb fl x.2 ((mendM wds tb x.1).take i)).isEmpty) ⟨same_upd nD, [], upd_same, Nat.le_refl _, rfl⟩ (fun i Hn _ p => .inl (.inl (p.1 _ _ hC))) (fun i z Hn hz p => ?_) (fun Hn p => ?_)
          · obtain ⟨sn, zs, hD, zl, ze⟩ := p
            obtain ⟨u, eu, rfl⟩ := map_get hz
            obtain ⟨m, em, hu⟩ := pairedGetL pl eu
            have hu : Hm u = some (.tup (m.2.map V.int)) := hu
            have il : i < ls.length := (List.getElem?_eq_some_iff.mp eu).1
            have s11 := s010.trans sn
            have hdn := s11 _ _ hdx
            refine ⟨rfl, ?_⟩
            refine ⟨.ref d, rfl, .ref qa, rfl, d, .int x.2, rfl, getx s11, .ref d, rfl, d, rfl, .inr ⟨_, .inr ⟨od, hdn⟩⟩, .ref u, rfl, _, .inr ⟨kvF fl, keyB m.2, u, .inr ⟨od, hdn⟩, rfl, by rw [keyB_kV]; exact sn _ _ hu, rfl⟩, ?_⟩
            rw [kvF_get]
            have bm : badM wds tb fl x.2 ((mendM wds tb x.1).take (i + 1)) = badM wds tb fl x.2 ((mendM wds tb x.1).take i) ++ (if x.2 > 1 + valL fl m.2 then [m] else []) := by
              unfold badM
              rw [take_snoc em, List.filter_append]
              congr 1
              by_cases c : x.2 > 1 + valL fl m.2
              · simp [c]
              · simp [c]
            refine ⟨1, _, rfl, rfl, x.2, _, rfl, rfl, _, rfl, ite2 (fun c => ?_) (fun c => ?_)⟩
            · have c := of_decide_eq_true c
              refine ⟨.ref u, rfl, zs, hD, small1000 (by omega), same_put sn nD, zs ++ [.ref u], upd_same, by rw [List.length_append]; exact Nat.succ_le_succ zl, ?_⟩
              rw [bm, if_pos c, snoc_ne, snoc_ne]
            · have c : ¬ x.2 > 1 + valL fl m.2 := fun z => c (decide_eq_true z)
              refine ⟨sn, zs, hD, by omega, ?_⟩
              rw [bm, if_neg c, List.append_nil]
              exact ze
          · obtain ⟨sn, zs, hD, zl, ze⟩ := p
            rw [List.length_map, pairedLen pl, List.take_length] at ze
            refine ⟨(by show 0 ≤ sizeLine; decide), fun e ne => ?_⟩
            have se := same_upd (o := .lst []) ne
            have S := ((sx.trans s010).trans sn).trans se
            refine ⟨D, e, zs, rfl, rfl, .inl (.inl (se _ _ hD)), .inl (.inl upd_same), _, rfl, ite2 (fun c => ?_) (fun c => ?_)⟩
            · have c : zs.isEmpty = false := by simpa using c
              rw [stop (by rw [ei, ← ze, c])] at q
              exact ⟨se _ _ (sn _ _ (s010 _ _ hdx)), q _ (fin _ S)⟩
            · have c : zs.isEmpty = true := by simpa using c
              exact ⟨S, next (by rw [ei, ← ze, c]), _, _, rfl⟩
    · obtain ⟨sx, al, y3, y4, rfl⟩ := p
      rw [show (kvF fl).length = fl.length from List.length_map _, List.take_length] at al
      rw [al] at q
      exact ⟨sx _ _ hd1, q _ (fin _ sx)⟩
end
end Rd

set_option autoImplicit false
set_option Elab.async false
set_option linter.all false
set_option maxRecDepth 100000
set_option maxHeartbeats 4000000
namespace Rd
open PySem PySem.Spec PyProof.Rows L2 Dt
/-- a key and the list of what it leads to -/
def IsNx (wds : List WD) (tb : List (List Int)) (Av : Addr → Prop) (H : Hp) (kv : List Key × V) (g : List Int) : Prop := kv.1 = keyB g ∧ ∃ (l : Addr) (ms : List Addr), kv.2 = .ref l ∧ ¬ Av l ∧ H l = some (.lst (ms.map V.ref)) ∧ Paired (IsMd H) ms (mendM wds tb g)
section
variable {wds : List WD} {tb : List (List Int)} {Av : Addr → Prop} {H H' : Hp}
theorem IsNx.mono {kv : List Key × V} {g : List Int} (tu : Tups H H') (k : ∀ b xs, ¬ Av b → H b = some (.lst xs) → H' b = some (.lst xs)) (h : IsNx wds tb Av H kv g) : IsNx wds tb Av H' kv g := by
  obtain ⟨h1, l, ms, h2, h3, h4, h5⟩ := h
  exact ⟨h1, l, ms, h2, h3, k _ _ h3 h4, pairedMap (fun _ _ z => z.mono tu) h5⟩
theorem nx_keys : ∀ {kvs : List (List Key × V)} {gs : List (List Int)}, Paired (IsNx wds tb Av H) kvs gs → kvs.map (·.1) = gs.map keyB
  | _, _, .nil => rfl
  | _, _, .cons h t => by rw [List.map_cons, List.map_cons, nx_keys t, h.1]
theorem nx_at {g : List Int} : ∀ {kvs : List (List Key × V)} {gs : List (List Int)}, Paired (IsNx wds tb Av H) kvs gs → gs.Nodup → g ∈ gs → ∃ (l : Addr) (ms : List Addr), valV kvs (keyB g) = some (.ref l) ∧ ¬ Av l ∧ H l = some (.lst (ms.map V.ref)) ∧ Paired (IsMd H) ms (mendM wds tb g)
  | _, _, .nil, _, m => nomatch m
  | _, _, .cons (a := kv) (b := d) h t, nd, m => by
    rw [List.nodup_cons] at nd
    obtain ⟨h1, l, ms, h2, h3⟩ := h
    rcases List.mem_cons.mp m with z | z
    · subst z
      exact ⟨l, ms, by rw [valV_pos h1, h2], h3⟩
    · have ne : ¬ kv.1 = keyB g := fun q => nd.1 (by
        have := keyB_inj (h1.symm.trans q)
        rw [this]
        exact z)
      rw [valV_neg ne]
      exact nx_at t nd.2 z
theorem nx_is {kvs : List (List Key × V)} {gs : List (List Int)} {a : List Int} (p : Paired (IsNx wds tb Av H) kvs gs) : (valV kvs (keyB a)).isSome = decide (a ∈ gs) := by
  have k := nx_keys p
  by_cases m : a ∈ gs
  · rw [decide_eq_true m]
    have : keyB a ∈ kvs.map (·.1) := by
      rw [k]
      exact List.mem_map.mpr ⟨a, m, rfl⟩
    cases e : valV kvs (keyB a) with
    | some v => rfl
    | none => exact (valV_not e this).elim
  · rw [decide_eq_false m]
    cases e : valV kvs (keyB a) with
    | none => rfl
    | some v =>
      have q := valV_in e
      rw [k] at q
      obtain ⟨b, hb, eb⟩ := List.mem_map.mp q
      rw [← keyB_inj eb] at m
      exact (m hb).elim
end
theorem IsNx.any {wds : List WD} {tb : List (List Int)} {Av : Addr → Prop} {H : Hp} {kv : List Key × V} {g : List Int} (h : IsNx wds tb Av H kv g) : IsNx wds tb (fun _ => False) H kv g := by
  obtain ⟨h1, l, ms, h2, _, h4, h5⟩ := h
  exact ⟨h1, l, ms, h2, id, h4, h5⟩
theorem valV_snoc {κ : Type} [DecidableEq κ] {k : κ} {v : V} : ∀ {kvs : List (κ × V)}, valV kvs k = none → valV (kvs ++ [(k, v)]) k = some v
  | [], _ => valV_pos rfl
  | kv :: r, h => by
    by_cases c : kv.1 = k
    · rw [valV_pos c] at h
      cases h
    · rw [valV_neg c] at h
      rw [List.cons_append, valV_neg c]
      exact valV_snoc h
theorem pairedUnsnoc {α β : Type} {F : α → β → Prop} {a : α} {b : β} : ∀ {l : List α} {m : List β}, Paired F (l ++ [a]) (m ++ [b]) → l.length = m.length → Paired F l m ∧ F a b
  | [], [], .cons r .nil, _ => ⟨.nil, r⟩
  | [], _ :: _, _, e => by cases e
  | _ :: _, [], _, e => by cases e
  | x :: l, y :: m, h, e => by
    cases h with
    | cons r t =>
      obtain ⟨h1, h2⟩ := pairedUnsnoc t (Nat.succ.inj e)
      exact ⟨.cons r h1, h2⟩
/-- all that can be come to -/
structure AllK (wds : List WD) (tb : List (List Int)) (gs : List (List Int)) : Prop where
  nd : gs.Nodup
  good : ∀ g ∈ gs, GoodK tb g
  shut : ∀ g ∈ gs, ∀ m ∈ mendM wds tb g, m.2 ∈ gs
  start : zerosI tb.length ∈ gs
/-- on the way: those that wait beside -/
structure AllW (wds : List WD) (tb : List (List Int)) (gs ps : List (List Int)) : Prop where
  nd : gs.Nodup
  good : ∀ g ∈ gs, GoodK tb g
  wait : ∀ g ∈ ps, GoodK tb g
  shut : ∀ g ∈ gs, ∀ m ∈ mendM wds tb g, m.2 ∈ gs ∨ m.2 ∈ ps
  start : zerosI tb.length ∈ gs ∨ zerosI tb.length ∈ ps
theorem AllW.few {wds : List WD} {tb : List (List Int)} {gs ps : List (List Int)} (h : AllW wds tb gs ps) : gs.length ≤ prodL (tb.map List.length) := box_few h.nd fun t ht => good_box (h.good t ht)
theorem AllW.old {wds : List WD} {tb : List (List Int)} {gs ps : List (List Int)} {t : List Int} (h : AllW wds tb gs (ps ++ [t])) (m : t ∈ gs) : AllW wds tb gs ps where
  nd := h.nd
  good := h.good
  wait := fun g hg => h.wait g (List.mem_append_left _ hg)
  shut := fun g hg x hx => by
    rcases h.shut g hg x hx with z | z
    · exact .inl z
    · rcases List.mem_append.mp z with z | z
      · exact .inr z
      · rw [List.mem_singleton.mp z]; exact .inl m
  start := by
    rcases h.start with z | z
    · exact .inl z
    · rcases List.mem_append.mp z with z | z
      · exact .inr z
      · rw [List.mem_singleton.mp z]; exact .inl m
theorem AllW.new {wds : List WD} {tb : List (List Int)} {gs ps : List (List Int)} {t : List Int} (h : AllW wds tb gs (ps ++ [t])) (n : t ∉ gs) : AllW wds tb (gs ++ [t]) (ps ++ (mendM wds tb t).map (·.2)) where
  nd := List.nodup_append.mpr ⟨h.nd, List.nodup_cons.mpr ⟨List.not_mem_nil, List.nodup_nil⟩, fun b hb c hc => by
    rw [List.mem_singleton.mp hc]
    exact fun z => n (z ▸ hb)⟩
  good := fun g hg => by
    rcases List.mem_append.mp hg with z | z
    · exact h.good g z
    · rw [List.mem_singleton.mp z]
      exact h.wait t (List.mem_append_right _ List.mem_cons_self)
  wait := fun g hg => by
    rcases List.mem_append.mp hg with z | z
    · exact h.wait g (List.mem_append_left _ z)
    · obtain ⟨m, hm, rfl⟩ := List.mem_map.mp z
      exact mend_good (h.wait t (List.mem_append_right _ List.mem_cons_self)) hm
  shut := fun g hg x hx => by
    rcases List.mem_append.mp hg with y | y
    · rcases h.shut g y x hx with z | z
      · exact .inl (List.mem_append_left _ z)
      · rcases List.mem_append.mp z with z | z
        · exact .inr (List.mem_append_left _ z)
        · exact .inl (List.mem_append_right _ z)
    · rw [List.mem_singleton.mp y] at hx
      exact .inr (List.mem_append_right _ (List.mem_map.mpr ⟨x, hx, rfl⟩))
  start := by
    rcases h.start with z | z
    · exact .inl (List.mem_append_left _ z)
    · rcases List.mem_append.mp z with z | z
      · exact .inr (List.mem_append_left _ z)
      · exact .inl (List.mem_append_right _ z)
theorem AllW.done {wds : List WD} {tb : List (List Int)} {gs : List (List Int)} (h : AllW wds tb gs []) : AllK wds tb gs := ⟨h.nd, h.good, fun g hg m hm => (h.shut g hg m hm).elim id (fun z => nomatch z), h.start.elim id (fun z => nomatch z)⟩
theorem mend_few {wds : List WD} {tb : List (List Int)} {many hues : Int} (g : GoodR many hues wds) (t : List Int) : (mendM wds tb t).length ≤ 8 := by
  unfold mendM
  rw [List.length_map]
  refine Nat.le_trans (List.length_filter_le _ _) ?_
  have e8 := g.eight
  have : (broL (stand tb t) wds wds.length).length ≤ wds.length := by
    unfold broL
    rw [List.length_map]
    exact Nat.le_trans (List.length_filter_le _ _) (by rw [List.length_range]; exact Nat.le_refl _)
  omega
def spLal : Sp := fun vs H Q _ => ∃ (ri ta : Addr) (wds : List WD) (many hues : Int) (tb : List (List Int)), vs = [.ref ri, .ref ta] ∧ IsRid H ri many hues wds ∧ GoodR many hues wds ∧ IsTab (fun _ => False) H ta tb ∧ GoodS many hues tb ∧ prodL (tb.map List.length) ≤ 5000 ∧
  ∀ H' d kvs gs, Same H H' → H d = none → H' d = some (.dT kvs) → Paired (IsNx wds tb (fun _ => False) H') kvs gs → AllK wds tb gs → Q (.ref d) H'
structure TxtLal (P : Program) (w : World) (K : PySem.W.Frag) (mg : Str → Option Value) (base : Heap) : Prop where
  m_len : mg "len" = none
  c__law_next : Cal P w K mg base 2 "_law_next" ["riddle", "table", "taken"] spLnx
section
variable {P : Program} {w : World} {K : PySem.W.Frag} {mg : Str → Option Value} {base : Heap}
set_option maxHeartbeats 16000000 in
theorem ok_lal {f : Addr} {fd : FuncData} {k : Nat} (F : Fun K "_law_all" "_law_all" sLal f fd) (T : TxtLal P w K mg base) : FnOk P w K mg base CX0 (k + 3) f fd ["riddle", "table"] spLal := by
  refine F.ok scLal (fun vs H Q E h => ?_) (fun cdv A outer s H vs Q E hr h => ?_)
  · obtain ⟨ri, ta, wds, many, hues, tb, rfl, _⟩ := h
    rfl
  · obtain ⟨ri, ta, wds, many, hues, tb, rfl, hrd, g, htb, gs0, hp, q⟩ := h
    refine ⟨_, (pss_cons (ps_set (i := 2) scLal.nd rfl (Or.inl rfl) (pe_op op_repU (pe_tup (pa_cons pe_int pa_nil)) (pe_callB call_len_seq (by rfl) T.m_len (by decide +kernel) (pa_cons (pv 1) pa_nil))))
  (pss_cons (ps_set (i := 3) scLal.nd rfl (Or.inl rfl) pe_dnewT)
  (pss_cons (ps_set (i := 4) scLal.nd rfl (Or.inl rfl) (pe_lst (pa_cons (pv 2) pa_nil)))
  (pss_cons (ps_while PassesOwn.never (pt_cmpR (op_neE hr.units) (pv 4) (pe_lst pa_nil) (nomark _))
  (pss_cons (ps_set (i := 5) scLal.nd rfl (Or.inl rfl) (pe_bm0 PySem.F.plainAttrs_list PySem.F.slot_list_pop PySem.F.type_list_pop mt_pop (pv 4)))
  (pss_one (ps_if (pt_cmp (pc_dnotin (hu_of hr) (pv 5) (pv 3)))
  (pss_cons (ps_dput (hu_of hr) (pv 3) (pv 5) (pe_cal T.c__law_next (hr.mono (by omega)) (by rfl) (pa_cons (pv 0) (pa_cons (pv 1) (pa_cons (pv 5) pa_nil)))) rfl)
  (pss_one (ps_expr (pe_bm PySem.F.plainAttrs_list PySem.F.slot_list_extend PySem.F.type_list_extend mt_extend (pv 4) (pa_cons (pe_lc (g := gTup K 2 (gCons (gName 6) (gCons (gName 7) gNil))) (te := tVar 7) (own := [("number", 6), ("later", 7)]) rfl scLal.nd  (pi_list (pe_dget (hu_of hr) (pv 3) (pv 5) (fun _ _ => rfl))) (blkOk_by (own := [("number", 6), ("later", 7)]) (N := nLal) (sc := defScope sLal) (by decide +kernel))
   (fun _ _ _ _ _ => (pg_tup rfl (pgs_cons (pg_name (i := 6) scLal.nd rfl (Or.inl rfl)) (pgs_cons (pg_name (i := 7) scLal.nd rfl (Or.inl rfl)) pgs_nil)))) (fun _ _ _ _ _ => pts_nil) (fun _ _ _ _ _ => (pv 7))) pa_nil))))) pss_nil))))
  (pss_one (ps_ret (pv 3))))))), ?_⟩
    obtain ⟨das, hta, _, _, pr⟩ := id htb
    have dl := pairedLen pr
    have gl := gs0.len
    have m1 := g.m1
    have m6 := g.m6
    have tN : many.toNat = tb.length := by omega
    -- the start
    refine ⟨(by show 1 ≤ sizeLine; decide), fun p np => ?_⟩
    have s1 := same_upd (o := .tup [V.int 0]) np
    refine ⟨.ref ta, rfl, ta, _, rfl, .inl (.inl (.inl (s1 _ _ hta))), ?_⟩
    rw [List.length_map, show ((das.length : Nat) : Int) = many by omega]
    refine rep0 upd_same m1 m6 fun z H2 s2 hz => ?_
    rw [tN] at hz
    have S2 := s1.trans s2
    clear s1 s2 np
    -- found
    intro fo nfo
    have nfo0 := S2.free nfo
    have S3 := S2.trans (same_upd (o := .dT []) nfo)
    have hz3 := same_upd (o := .dT []) nfo _ _ hz
    have hfo3 := upd_same (H := H2) (a := fo) (o := .dT [])
    generalize upd H2 fo (.dT []) = H3 at S3 hz3 hfo3
    -- waiting
    refine ⟨.ref z, rfl, (by show 1 ≤ sizeLine; decide), fun wl nwl => ?_⟩
    have nwl0 := S3.free nwl
    have s4 := same_upd (o := .lst [V.ref z]) nwl
    have S4 := S3.trans s4
    have hz4 := s4 _ _ hz3
    have hfo4 := s4 _ _ hfo3
    have hwl4 := upd_same (H := H3) (a := wl) (o := .lst [V.ref z])
    have nwf : wl ≠ fo := fun y => by rw [y, hfo3] at nwl; cases nwl
    generalize upd H3 wl (.lst [V.ref z]) = H4 at S4 hz4 hfo4 hwl4
    clear s4 hfo3 hz3 nwl S3 hz nfo S2
    rw [keyB_kV] at hz4
    refine ⟨fun m σ Hx => ∃ (gs ps : List (List Int)) (kvs : List (List Key × V)) (as : List Addr), m = 9 * (5000 - gs.length) + ps.length ∧ Same H Hx ∧ AllW wds tb gs ps ∧ ps.length ≤ 1 + 8 * gs.length ∧ Hx fo = some (.dT kvs) ∧ Paired (IsNx wds tb (fun b => b = wl) Hx) kvs gs ∧ Hx wl = some (.lst (as.map V.ref)) ∧ Paired (IsRow Hx) as ps ∧
      ∃ y5 y6 y7, σ = [some (.ref ri), some (.ref ta), some (.ref z), some (.ref fo), some (.ref wl), y5, y6, y7], ⟨_, [], [zerosI tb.length], [], [z], rfl, S4, ⟨List.nodup_nil, (fun _ y => nomatch y), fun g hg => ?_, (fun _ y => nomatch y), .inr List.mem_cons_self⟩, Nat.le_refl _, hfo4, .nil, hwl4, .cons (show IsRow H4 z (zerosI tb.length) from hz4) .nil, none, none, none, rfl⟩, ?_⟩
    · rw [List.mem_singleton.mp hg]
      exact zerosS_good gs0
    clear S4 hfo4 hwl4 hz4
    rintro m σ Hm ⟨gs, ps, kvs, as, rfl, Sm, W, pw, hfo, pk, hwl, pas, y5, y6, y7, rfl⟩
    have few := Nat.le_trans W.few hp
    have al := pairedLen pas
    have kl := pairedLen pk
    refine ⟨.ref wl, rfl, (by show 0 ≤ sizeLine; decide), fun x1 nx1 => ?_⟩
    have sx := same_upd (o := .lst []) nx1
    refine ⟨wl, x1, _, rfl, rfl, .inl (.inl (sx _ _ hwl)), .inl (.inl upd_same), _, rfl, ite2 (fun c => ?_) (fun c => ?_)⟩
    · -- one more
      obtain ⟨ps, t, rfl⟩ : ∃ ps' t, ps = ps' ++ [t] := by
        rcases List.eq_nil_or_concat ps with e | ⟨l, b, e⟩
        · subst e
          cases as with
          | nil => exact absurd c (by simp)
          | cons x r => cases al
        · exact ⟨l, b, by rw [e, List.concat_eq_append]⟩
      obtain ⟨as, ua, rfl⟩ : ∃ as' u, as = as' ++ [u] := by
        rcases List.eq_nil_or_concat as with e | ⟨l, b, e⟩
        · subst e
          rw [List.length_append] at al
          cases al
        · exact ⟨l, b, by rw [e, List.concat_eq_append]⟩
      rw [List.length_append, List.length_append] at al
      have al : as.length = ps.length := Nat.succ.inj al
      obtain ⟨pas1, hua⟩ := pairedUnsnoc pas al
      have hua : Hm ua = some (.tup (t.map V.int)) := hua
      rw [List.length_append] at pw
      have pw : ps.length + 1 ≤ 1 + 8 * gs.length := pw
      have nwl1 : x1 ≠ wl := fun y => by rw [y, hwl] at nx1; cases nx1
      refine ⟨fun σ' Hx => ∃ (gs' ps' : List (List Int)) (kvs' : List (List Key × V)) (as' : List Addr), 9 * (5000 - gs'.length) + ps'.length < 9 * (5000 - gs.length) + (ps.length + 1) ∧ Same H Hx ∧ AllW wds tb gs' ps' ∧ ps'.length ≤ 1 + 8 * gs'.length ∧ Hx fo = some (.dT kvs') ∧ Paired (IsNx wds tb (fun b => b = wl) Hx) kvs' gs' ∧ Hx wl = some (.lst (as'.map V.ref)) ∧ Paired (IsRow Hx) as' ps' ∧
        ∃ y5 y6 y7, σ' = [some (.ref ri), some (.ref ta), some (.ref z), some (.ref fo), some (.ref wl), y5, y6, y7], fun σ' H' ⟨gs', ps', kvs', as', q1, q2⟩ => ⟨_, by rw [List.length_append]; exact q1, gs', ps', kvs', as', rfl, q2⟩, ?_⟩
      refine ⟨.ref wl, rfl, .inl ⟨rfl, _, .inl (.inl (sx _ _ hwl))⟩, wl, _, .ref ua, rfl, rfl, sx _ _ hwl, ?_, ?_⟩
      · rw [List.length_map, List.length_append, List.map_append, List.getElem?_append_right (by rw [List.length_map]; exact Nat.le_refl _), List.length_map]
        simp
      rw [show ((as ++ [ua]).map V.ref).dropLast = as.map V.ref by rw [List.map_append]; exact List.dropLast_concat]
      have hwx := sx _ _ hwl
      have hfx := sx _ _ hfo
      have tuW : Tups (upd Hm x1 (.lst [])) (upd (upd Hm x1 (.lst [])) wl (.lst (as.map V.ref))) := tups_upd fun xs e => by rw [hwx] at e; cases e
      have S1 : Same H (upd (upd Hm x1 (.lst [])) wl (.lst (as.map V.ref))) := same_put (Sm.trans sx) nwl0
      have hf1 : upd (upd Hm x1 (.lst [])) wl (.lst (as.map V.ref)) fo = some (.dT kvs) := by rw [upd_ne (Ne.symm nwf)]; exact hfx
      have hw1 : upd (upd Hm x1 (.lst [])) wl (.lst (as.map V.ref)) wl = some (.lst (as.map V.ref)) := upd_same
      have hu1 := tuW _ _ (sx _ _ hua)
      have pk1 : Paired (IsNx wds tb (fun b => b = wl) (upd (upd Hm x1 (.lst [])) wl (.lst (as.map V.ref)))) kvs gs := pairedMap (fun _ _ (y : IsNx wds tb (fun b => b = wl) Hm _ _) => y.mono ((tups_same sx).trans tuW) fun b xs n e => by rw [upd_ne n]; exact sx _ _ e) pk
      have pa1 : Paired (IsRow (upd (upd Hm x1 (.lst [])) wl (.lst (as.map V.ref)))) as ps := pairedMap (fun _ _ (e : IsRow Hm _ _) => tuW _ _ (sx _ _ e)) pas1
      generalize upd (upd Hm x1 (.lst [])) wl (.lst (as.map V.ref)) = H1 at S1 hf1 hw1 hu1 pk1 pa1
      clear tuW hwx hfx sx nx1 hwl hfo pk pas pas1 hua Sm nwl1
      have gk : GoodK tb t := W.wait t (List.mem_append_right _ List.mem_cons_self)
      have hu1' : H1 ua = some (.tup ((keyB t).map kV)) := by rw [keyB_kV]; exact hu1
      refine ⟨.ref ua, rfl, .ref fo, rfl, fo, _, rfl, DGet.t hf1 hu1', _, rfl, ?_⟩
      rw [nx_is pk1]
      by_cases m : t ∈ gs
      · rw [decide_eq_true m]
        exact iteF ⟨gs, ps, kvs, as, by omega, S1, W.old m, by omega, hf1, pk1, hw1, pa1, _, _, _, rfl⟩
      · rw [decide_eq_false m]
        refine iteT ?_
        have W2 := W.new m
        have few2 := Nat.le_trans W2.few hp
        rw [List.length_append] at few2
        have few2 : gs.length + 1 ≤ 5000 := few2
        refine ⟨.ref ri, rfl, .ref ta, rfl, .ref ua, rfl, ri, ta, ua, wds, many, hues, tb, t, rfl, hrd.mono (tups_same S1), g, htb.seqs (seqs_same S1), gs0, hu1, gk, fun Hb lm ms s9 nlm hlm pms => ?_⟩
        have nlf : lm ≠ fo := fun y => by rw [y, hf1] at nlm; cases nlm
        have nlw : lm ≠ wl := fun y => by rw [y, hw1] at nlm; cases nlm
        have vn : valV kvs (keyB t) = none := by
          have y := nx_is (a := t) pk1
          rw [decide_eq_false m] at y
          cases e : valV kvs (keyB t) with
          | none => rfl
          | some v => rw [e] at y; cases y
        refine ⟨.ref fo, rfl, .ref ua, rfl, fo, _, rfl, DPut.t (s9 _ _ hf1) (s9 _ _ hu1') (Nat.lt_of_le_of_lt (show kvs.length ≤ 5000 by omega) (by decide)), ?_⟩
        rw [putK_new _ vn]
        have hfb := s9 _ _ hf1
        have tuF : Tups Hb (upd Hb fo (.dT (kvs ++ [(keyB t, .ref lm)]))) := tups_upd fun xs e => by rw [hfb] at e; cases e
        have liF : ∀ b xs, Hb b = some (.lst xs) → upd Hb fo (.dT (kvs ++ [(keyB t, .ref lm)])) b = some (.lst xs) := fun b xs e => by
          rw [upd_ne (fun y => by rw [y, hfb] at e; cases e)]
          exact e
        have S2 : Same H (upd Hb fo (.dT (kvs ++ [(keyB t, .ref lm)]))) := same_put (S1.trans s9) nfo0
        have hf2 := upd_same (H := Hb) (a := fo) (o := .dT (kvs ++ [(keyB t, .ref lm)]))
        have hw2 := liF _ _ (s9 _ _ hw1)
        have hl2 := liF _ _ hlm
        have hu2 := tuF _ _ (s9 _ _ hu1')
        have pm2 := pairedMap (fun _ _ (y : IsMd Hb _ _) => y.mono tuF) pms
        have pk2 : Paired (IsNx wds tb (fun b => b = wl) (upd Hb fo (.dT (kvs ++ [(keyB t, .ref lm)])))) (kvs ++ [(keyB t, .ref lm)]) (gs ++ [t]) := pairedSnoc (pairedMap (fun _ _ (y : IsNx wds tb (fun b => b = wl) H1 _ _) => y.mono ((tups_same s9).trans tuF) fun b xs _ e => liF _ _ (s9 _ _ e)) pk1) ⟨rfl, lm, ms, rfl, nlw, hl2, pm2⟩
        have pa2 := pairedMap (fun _ _ (e : IsRow H1 _ _) => tuF _ _ (s9 _ _ e)) pa1
        generalize upd Hb fo (.dT (kvs ++ [(keyB t, .ref lm)])) = H2 at S2 hf2 hw2 hl2 hu2 pm2 pk2 pa2
        clear tuF liF hfb nlm hlm pms s9 pk1 pa1 hu1 hu1' hf1 hw1 S1
        have vt : valV (kvs ++ [(keyB t, V.ref lm)]) (keyB t) = some (.ref lm) := by
          exact valV_snoc vn
        have m8 := mend_few (tb := tb) g t
        have ml := pairedLen pm2
        refine ⟨.ref wl, rfl, .inl ⟨rfl, _, .inl (.inl hw2)⟩, .ref fo, rfl, .ref ua, rfl, fo, .ref lm, rfl, by have y := DGet.t hf2 hu2; rw [vt] at y; exact y, lm, rfl, ⟨_, .inl (.inl hl2)⟩, fun C nC => ?_⟩
        have nCw : C ≠ wl := fun y => by rw [y, hw2] at nC; cases nC
        refine lc_list (K := K) (a := lm) (xs := ms.map V.ref) (fun i Hm => Same H2 Hm ∧ ∃ ls : List Addr, Hm C = some (.lst (ls.map V.ref)) ∧ Paired (IsRow Hm) ls (((mendM wds tb t).take i).map (·.2)) ∧ ls.length = i) ⟨same_upd nC, [], upd_same, .nil, rfl⟩ (fun i Hm _ p => .inl (.inl (p.1 _ _ hl2))) (fun i x Hm hx p => ?_) (fun Hm p => ?_)
        · obtain ⟨sm, ls, hC, pl, ll⟩ := p
          obtain ⟨m0, em0, rfl⟩ := map_get hx
          obtain ⟨mm, em, u, h1, h2⟩ := pairedGetL pm2 em0
          have il : i < ms.length := (List.getElem?_eq_some_iff.mp em0).1
          have tuC : Tups Hm (upd Hm C (.lst (ls.map V.ref ++ [V.ref u]))) := tups_upd fun xs e => by rw [hC] at e; cases e
          refine ⟨m0, _, rfl, .inl (.inl (sm _ _ h1)), rfl, .int mm.1, [.ref u], rfl, .ref u, [], rfl, rfl, rfl, yes_if ?_⟩
          refine ⟨.ref u, rfl, _, hC, by rw [List.length_map]; exact small1000 (by omega), same_put sm nC, ls ++ [u], by rw [upd_same, List.map_append]; rfl, ?_, by rw [List.length_append, ll]; rfl⟩
          rw [take_snoc em, List.map_append]
          exact pairedSnoc (pairedMap (fun _ _ e => tuC _ _ e) pl) (tuC _ _ (sm _ _ h2))
        · obtain ⟨sm, ls, hC, pl, ll⟩ := p
          rw [List.length_map, ml, List.take_length] at pl
          rw [List.length_map] at ll
          have hwm := sm _ _ hw2
          refine ⟨wl, C, _, _, rfl, rfl, hwm, hC, by rw [List.length_map, List.length_map]; exact Nat.le_trans (show as.length + ls.length ≤ 50000 by omega) (by decide), ?_⟩
          have tuE : Tups Hm (upd Hm wl (.lst (as.map V.ref ++ ls.map V.ref))) := tups_upd fun xs e => by rw [hwm] at e; cases e
          refine ⟨gs ++ [t], ps ++ (mendM wds tb t).map (·.2), _, as ++ ls, ?_, same_put (S2.trans sm) nwl0, W2, ?_, by rw [upd_ne (Ne.symm nwf)]; exact sm _ _ hf2, ?_, by rw [upd_same, List.map_append], ?_, _, _, _, rfl⟩
          · rw [List.length_append, List.length_append, List.length_map]
            show 9 * (5000 - (gs.length + 1)) + (ps.length + (mendM wds tb t).length) < 9 * (5000 - gs.length) + (ps.length + 1)
            omega
          · rw [List.length_append, List.length_append, List.length_map]
            show ps.length + (mendM wds tb t).length ≤ 1 + 8 * (gs.length + 1)
            omega
          · exact pairedMap (fun _ _ (y : IsNx wds tb (fun b => b = wl) H2 _ _) => y.mono ((tups_same sm).trans tuE) fun b xs n e => by rw [upd_ne n]; exact sm _ _ e) pk2
          · exact pairedApp (pairedMap (fun _ _ (e : IsRow H2 _ _) => tuE _ _ (sm _ _ e)) pa2) (pairedMap (fun _ _ (e : IsRow Hm _ _) => tuE _ _ e) pl)
    · -- done
      have e0 : ps = [] := by
        cases as with
        | nil => exact List.length_eq_zero_iff.mp al.symm
        | cons x r => exact absurd rfl c
      subst e0
      exact ⟨.ref fo, rfl, q _ fo kvs gs (Sm.trans sx) nfo0 (sx _ _ hfo) (pairedMap (fun _ _ (y : IsNx wds tb (fun b => b = wl) Hm _ _) => (y.mono (tups_same sx) fun b xs _ e => sx _ _ e).any) pk) W.done⟩
end
end Rd

set_option autoImplicit false
set_option Elab.async false
set_option linter.all false
set_option maxRecDepth 100000
set_option maxHeartbeats 4000000
namespace Rd
open PySem PySem.Spec PyProof.Rows L2 Dt
abbrev sLmd : Stmt := topS 28
abbrev nLmd : List Str := ["riddle", "table", "most", "every", "found", "taken", "number", "later"]
theorem scLmd : FnScope nLmd ["riddle", "table", "most"] (defScope sLmd) := ⟨rfl, rfl, rfl, by decide +kernel, rfl, by decide +kernel, by decide +kernel⟩
theorem sum_bump {tk ps : List Int} {p : Nat} (hp : p < tk.length) (h : (p : Int) ∈ ps) : tk.sum < (bumpM tk ps).sum := by
  have key : ∀ (n : Nat) (a b : List Int), a.length = n → b.length = n → (∀ i : Nat, i < n → a.getD i 0 ≤ b.getD i 0) → a.sum ≤ b.sum := fun n => by
    induction n with
    | zero =>
      intro a b ha hb _
      rw [List.length_eq_zero_iff.mp ha, List.length_eq_zero_iff.mp hb]
      exact Int.le_refl _
    | succ n ih =>
      intro a b ha hb h
      match a, b with
      | x :: a, y :: b =>
        have h0 : x ≤ y := h 0 (Nat.succ_pos _)
        have h1 := ih a b (Nat.succ.inj ha) (Nat.succ.inj hb) fun i hi => h (i + 1) (Nat.succ_lt_succ hi)
        rw [List.sum_cons, List.sum_cons]
        omega
  have more : ∀ (p n : Nat) (a b : List Int), a.length = n → b.length = n → (∀ i : Nat, i < n → a.getD i 0 ≤ b.getD i 0) → p < n → a.getD p 0 < b.getD p 0 → a.sum < b.sum := fun p => by
    induction p with
    | zero =>
      intro n a b ha hb h hp hl
      cases n with
      | zero => omega
      | succ n =>
        match a, b with
        | x :: a, y :: b =>
          have h0 : x < y := hl
          have h1 := key n a b (Nat.succ.inj ha) (Nat.succ.inj hb) fun i hi => h (i + 1) (Nat.succ_lt_succ hi)
          rw [List.sum_cons, List.sum_cons]
          omega
    | succ p ih =>
      intro n a b ha hb h hp hl
      cases n with
      | zero => omega
      | succ n =>
        match a, b with
        | x :: a, y :: b =>
          have h0 : x ≤ y := h 0 (Nat.succ_pos _)
          have h1 := ih n a b (Nat.succ.inj ha) (Nat.succ.inj hb) (fun i hi => h (i + 1) (Nat.succ_lt_succ hi)) (by omega) hl
          rw [List.sum_cons, List.sum_cons]
          omega
  refine more p tk.length tk (bumpM tk ps) rfl (bumpM_len tk ps) (fun i hi => ?_) hp ?_
  · rw [bumpM_get hi]
    split <;> omega
  · rw [bumpM_get hp, if_pos h]
    omega
theorem mend_sum {wds : List WD} {tb : List (List Int)} {many hues : Int} (gr : GoodR many hues wds) (gs : GoodS many hues tb) {t : List Int} (gk : GoodK tb t) {m : Int × List Int} (h : m ∈ mendM wds tb t) : t.sum < m.2.sum := by
  obtain ⟨h1, h2, h3⟩ := mend_mem h
  obtain ⟨n, en, wd, hw, _⟩ := broL_in'.mp h1
  have g := gr.each wd (List.mem_of_getElem? hw)
  rw [h3, en, plc_at' hw]
  have o := g.one
  cases hp : wd.1 with
  | nil => rw [hp] at o; cases o
  | cons p r =>
    have a := g.pl p (by rw [hp]; exact List.mem_cons_self)
    have gl := gs.len
    have kl := gk.len
    refine sum_bump (p := p.toNat) (by omega) ?_
    rw [Int.toNat_of_nonneg a.1]
    exact List.mem_cons_self
theorem kvF_putB {es : List (List Int × Int)} {a : List Int} {x : Int} : putK (kvF es) (keyB a) (.int x) = kvF (putE es a x) := by
  unfold putK putE kvF
  have c : (es.map fun e => (keyB e.1, V.int e.2)).any (fun kv => decide (kv.1 = keyB a)) = es.any fun e => decide (e.1 = a) := by
    rw [List.any_map]
    refine congrArg (fun p => es.any p) (funext fun e => ?_)
    show decide (keyB e.1 = keyB a) = decide (e.1 = a)
    by_cases h : e.1 = a
    · rw [decide_eq_true h, decide_eq_true (by rw [h])]
    · rw [decide_eq_false h, decide_eq_false (fun z => h (keyB_inj z))]
  rw [c]
  split
  · rw [List.map_map, List.map_map]
    refine List.map_congr_left fun e _ => ?_
    show (if keyB e.1 = keyB a then (keyB e.1, V.int x) else (keyB e.1, V.int e.2)) = (keyB (if e.1 = a then (e.1, x) else e).1, V.int (if e.1 = a then (e.1, x) else e).2)
    by_cases h : e.1 = a
    · rw [if_pos h, if_pos (by rw [h])]
    · rw [if_neg h, if_neg (fun z => h (keyB_inj z))]
  · rw [List.map_append]
    rfl
theorem pairedRevB {α β : Type} {F : α → β → Prop} : ∀ {l : List α} {m : List β}, Paired F l m → Paired F l.reverse m.reverse
  | _, _, .nil => .nil
  | _, _, .cons r t => by
    rw [List.reverse_cons, List.reverse_cons]
    exact pairedSnoc (pairedRevB t) r
def spLmd : Sp := fun vs H Q _ => ∃ (ri ta : Addr) (most : Int) (wds : List WD) (many hues : Int) (tb : List (List Int)), vs = [.ref ri, .ref ta, .int most] ∧ IsRid H ri many hues wds ∧ GoodR many hues wds ∧ IsTab (fun _ => False) H ta tb ∧ GoodS many hues tb ∧ prodL (tb.map List.length) ≤ 5000 ∧
  ∀ H' d fl, Same H H' → H d = none → H' d = some (.dT (kvF fl)) → FlG tb fl → fl ≠ [] → Q (.ref d) H'
structure TxtLmd (P : Program) (w : World) (K : PySem.W.Frag) (mg : Str → Option Value) (base : Heap) : Prop where
  m_sorted : mg "sorted" = none
  m_sum : mg "sum" = none
  m_min : mg "min" = none
  c__law_all : Cal P w K mg base 3 "_law_all" ["riddle", "table"] spLal
  c__law_kept : Cal P w K mg base 2 "_law_kept" ["riddle", "table", "taken"] spLkt
section
variable {P : Program} {w : World} {K : PySem.W.Frag} {mg : Str → Option Value} {base : Heap}
set_option maxHeartbeats 16000000 in
theorem ok_lmd {f : Addr} {fd : FuncData} {k : Nat} (F : Fun K "_law_made" "_law_made" sLmd f fd) (T : TxtLmd P w K mg base) : FnOk P w K mg base CX0 (k + 4) f fd ["riddle", "table", "most"] spLmd := by
  refine F.ok scLmd (fun vs H Q E h => ?_) (fun cdv A outer s H vs Q E hr h => ?_)
  · obtain ⟨ri, ta, most, wds, many, hues, tb, rfl, _⟩ := h
    rfl
  · obtain ⟨ri, ta, most, wds, many, hues, tb, rfl, hrd, g, htb, gs0, hp, q⟩ := h
    refine ⟨_, (pss_cons (ps_set (i := 3) scLmd.nd rfl (Or.inl rfl) (pe_cal T.c__law_all (hr.mono (by omega)) (by rfl) (pa_cons (pv 0) (pa_cons (pv 1) pa_nil))))
  (pss_cons (ps_set (i := 4) scLmd.nd rfl (Or.inr rfl) pe_dnewT)
  (pss_cons (ps_for PassesOwn.never rfl (pi_list (pe_revL (pe_sortedSum rfl (by rfl) T.m_sorted (by rfl) T.m_sum (pa_cons (pv 3) pa_nil)))) (pg_name (i := 5) scLmd.nd rfl (Or.inl rfl))
  (pss_cons (ps_dput (hu_of hr) (pv 4) (pv 5) (pe_callB (cr_min rfl) (by rfl) T.m_min (by decide +kernel) (pa_cons (pe_op op_cat (pe_lst (pa_cons (pv 2) pa_nil)) (pe_lc (g := gTup K 2 (gCons (gName 6) (gCons (gName 7) gNil))) (te := tOp (rI0 fun i j => .int (i + j)) (tC (.int 1)) (tDGet (tVar 4) (tVar 7))) (own := [("number", 6), ("later", 7)]) rfl scLmd.nd  (pi_list (pe_dget (hu_of hr) (pv 3) (pv 5) (fun _ _ => rfl))) (blkOk_by (own := [("number", 6), ("later", 7)]) (N := nLmd) (sc := defScope sLmd) (by decide +kernel))
   (fun _ _ _ _ _ => (pg_tup rfl (pgs_cons (pg_name (i := 6) scLmd.nd rfl (Or.inl rfl)) (pgs_cons (pg_name (i := 7) scLmd.nd rfl (Or.inl rfl)) pgs_nil)))) (fun _ _ _ _ _ => pts_nil) (fun _ _ _ _ _ => (pe_op op_add pe_int (pe_dget (hu_of hr) (pv 4) (pv 7) (fun _ _ => rfl)))))) pa_nil)) rfl)
  (pss_one (ps_if (pt_val (pe_cal T.c__law_kept (hr.mono (by omega)) (by rfl) (pa_cons (pv 0) (pa_cons (pv 1) (pa_cons (pv 5) pa_nil)))))
  (pss_one (ps_dput (hu_of hr) (pv 4) (pv 5) pe_int rfl)) pss_nil))))
  (pss_one (ps_ret (pv 4)))))), ?_⟩
    have m1 := g.m1
    have m6 := g.m6
    -- every
    refine ⟨.ref ri, rfl, .ref ta, rfl, ri, ta, wds, many, hues, tb, rfl, hrd, g, htb, gs0, hp, fun H1 ev kvs gs s1 nev hev pk A => ?_⟩
    -- found
    intro fo nfo
    have nfo0 := s1.free nfo
    have s2 := same_upd (o := .dT []) nfo
    have S2 := s1.trans s2
    have hfo2 := upd_same (H := H1) (a := fo) (o := .dT [])
    have hev2 := s2 _ _ hev
    have pk2 := pairedMap (fun _ _ (y : IsNx wds tb (fun _ => False) H1 _ _) => y.mono (tups_same s2) fun b xs _ e => s2 _ _ e) pk
    have nfe : fo ≠ ev := fun y => by rw [y, hev] at nfo; cases nfo
    generalize upd H1 fo (.dT []) = H2 at S2 hfo2 hev2 pk2
    clear s2 nfo pk hev s1
    have ndg := A.nd
    refine ⟨.ref ev, rfl, ev, kvs, gs, rfl, .inl hev2, nx_keys pk2, fun qs hs p3 pq pm so np3 => ?_⟩
    have s3 := same_upd (o := .lst (qs.map V.ref)) np3
    refine ⟨p3, _, rfl, .inl (.inl upd_same), fun p4 np4 => ?_⟩
    have s34 := s3.trans (same_upd (o := .lst (qs.map V.ref).reverse) np4)
    have hp4 := upd_same (H := upd H2 p3 (.lst (qs.map V.ref))) (a := p4) (o := .lst (qs.map V.ref).reverse)
    rw [← List.map_reverse] at hp4 s34 ⊢
    have S4 := S2.trans s34
    have hfo4 := s34 _ _ hfo2
    have hev4 := s34 _ _ hev2
    have pk4 := pairedMap (fun _ _ (y : IsNx wds tb (fun _ => False) H2 _ _) => y.mono (tups_same s34) fun b xs _ e => s34 _ _ e) pk2
    have pq4 : Paired (fun q g => upd (upd H2 p3 (.lst (qs.map V.ref))) p4 (.lst (qs.reverse.map V.ref)) q = some (.tup (g.map V.int))) qs.reverse hs.reverse := pairedRevB (pairedMap (fun _ _ e => s34 _ _ e) pq)
    have n4f : p4 ≠ fo := fun y => by rw [y, s3 _ _ hfo2] at np4; cases np4
    generalize upd (upd H2 p3 (.lst (qs.map V.ref))) p4 (.lst (qs.reverse.map V.ref)) = H4 at hp4 S4 hfo4 hev4 pk4 pq4 ⊢
    clear s34 s3 np3 np4 pq pk2 hev2 hfo2 S2
    have rso : hs.reverse.Pairwise fun x y => y.sum ≤ x.sum := List.pairwise_reverse.mpr so
    have rpm : hs.reverse.Perm gs := (List.reverse_perm _).trans pm
    generalize qs.reverse = qr at hp4 pq4 ⊢
    generalize hs.reverse = rs at pq4 rso rpm
    clear so pm
    have rnd : rs.Nodup := rpm.symm.nodup ndg
    have rl : rs.length ≤ 5000 := by
      rw [rpm.length_eq]
      exact Nat.le_trans (box_few A.nd fun t ht => good_box (A.good t ht)) hp
    have ql := pairedLen pq4
    have keep : ∀ Hx, (∀ b o, b ≠ fo → H4 b = some o → Hx b = some o) → Same H Hx := fun Hx k b o e => k b o (fun y => by rw [y, nfo0] at e; cases e) (S4 b o e)
    refine ⟨p4, rfl, ⟨_, .inl (.inl hp4)⟩, ?_⟩
    refine for_list (K := K) (a := p4) (xs := qr.map V.ref) (fun j σ Hx => (∀ b o, b ≠ fo → H4 b = some o → Hx b = some o) ∧ (∃ fl, Hx fo = some (.dT (kvF fl)) ∧ fl.map (·.1) = rs.take j) ∧ ∃ y5 y6 y7, σ = [some (.ref ri), some (.ref ta), some (.int most), some (.ref ev), some (.ref fo), y5, y6, y7]) ⟨fun _ _ _ e => e, ⟨[], hfo4, rfl⟩, none, none, none, rfl⟩ (fun j σ Hx _ p => .inl (.inl (p.1 _ _ n4f hp4))) (fun j x σ Hx hx p => ?_) (fun σ Hx p => ?_)
    · obtain ⟨kx, ⟨fl, hfx, fk⟩, y5, y6, y7, rfl⟩ := p
      obtain ⟨u, eu, rfl⟩ := map_get hx
      obtain ⟨t, et, hu⟩ := pairedGetL pq4 eu
      have hu : H4 u = some (.tup (t.map V.int)) := hu
      have tm : t ∈ gs := rpm.mem_iff.mp (List.mem_of_getElem? et)
      have gk := A.good t tm
      obtain ⟨l, ms, vl, _, hl, pms⟩ := nx_at pk4 A.nd tm
      have jl : j < rs.length := (List.getElem?_eq_some_iff.mp et).1
      have nT : ∀ {b : Addr} {xs : List V}, H4 b = some (.tup xs) → b ≠ fo := fun e z => by rw [z, hfo4] at e; cases e
      have nL : ∀ {b : Addr} {xs : List V}, H4 b = some (.lst xs) → b ≠ fo := fun e z => by rw [z, hfo4] at e; cases e
      have fll : fl.length ≤ 5000 := by
        have e := congrArg List.length fk
        rw [List.length_map, List.length_take] at e
        omega
      have seen : ∀ m ∈ mendM wds tb t, m.2 ∈ fl.map (·.1) := fun m hm => by
        have hs := mend_sum g gs0 gk hm
        have mg : m.2 ∈ rs := rpm.mem_iff.mpr (A.shut t tm m hm)
        obtain ⟨i, hi⟩ := List.getElem?_of_mem mg
        have il : i < rs.length := (List.getElem?_eq_some_iff.mp hi).1
        rw [fk]
        have ij : i < j := by
          rcases Nat.lt_trichotomy i j with c | c | c
          · exact c
          · subst c
            rw [hi] at et
            cases et
            omega
          · have z := List.pairwise_iff_getElem.mp rso j i jl il c
            rw [(List.getElem?_eq_some_iff.mp et).2, (List.getElem?_eq_some_iff.mp hi).2] at z
            omega
        exact List.mem_of_getElem? (i := i) (by rw [List.getElem?_take, if_pos ij]; exact hi)
      have tn : t ∉ fl.map (·.1) := fun z => by
        rw [fk] at z
        obtain ⟨i, hi⟩ := List.getElem?_of_mem z
        rw [List.getElem?_take] at hi
        split at hi
        · rename_i c
          have il : i < rs.length := (List.getElem?_eq_some_iff.mp hi).1
          have := (List.getElem?_inj il rnd).mp (hi.trans et.symm)
          omega
        · cases hi
      have m8 := mend_few (tb := tb) g t
      have ml := pairedLen pms
      -- the least
      refine ⟨.int most, rfl, (by show 1 ≤ sizeLine; decide), fun la nla => ?_⟩
      have sa := same_upd (o := .lst [V.int most]) nla
      have ua := (keyB_kV t).symm ▸ hu
      have hux := kx _ _ (nT hu) hu
      have hux' : Hx u = some (.tup ((keyB t).map kV)) := by rw [keyB_kV]; exact hux
      have hevx := kx _ _ (fun y => nfe y.symm) hev4
      have hlx := kx _ _ (nL hl) hl
      refine ⟨.ref ev, rfl, .ref u, rfl, ev, .ref l, rfl, by have y := DGet.t (sa _ _ hevx) (sa _ _ hux'); rw [vl] at y; exact y, l, rfl, ⟨_, .inl (.inl (sa _ _ hlx))⟩, fun C nC => ?_⟩
      refine lc_list (K := K) (a := l) (xs := ms.map V.ref) (fun i Hm => Same (upd Hx la (.lst [V.int most])) Hm ∧ ∃ zs : List Int, Hm C = some (.lst (zs.map V.int)) ∧ zs.length = i) ⟨same_upd nC, [], upd_same, rfl⟩ (fun i Hm _ p => .inl (.inl (p.1 _ _ (sa _ _ hlx)))) (fun i z Hm hz p => ?_) (fun Hm p => ?_)
      · obtain ⟨sm, zs, hC, zl⟩ := p
        obtain ⟨m0, em0, rfl⟩ := map_get hz
        obtain ⟨m, em, u2, h1, h2⟩ := pairedGetL pms em0
        have il : i < ms.length := (List.getElem?_eq_some_iff.mp em0).1
        have h1x := sm _ _ (sa _ _ (kx _ _ (nT h1) h1))
        have h2x := sm _ _ (sa _ _ (kx _ _ (nT h2) h2))
        refine ⟨m0, _, rfl, .inl (.inl h1x), rfl, .int m.1, [.ref u2], rfl, .ref u2, [], rfl, rfl, rfl, yes_if ?_⟩
        have dg := DGet.t (sm _ _ (sa _ _ hfx)) (show Hm u2 = some (.tup ((keyB m.2).map kV)) by rw [keyB_kV]; exact h2x)
        rw [kvF_val, if_pos (seen m (List.mem_of_getElem? em))] at dg
        exact ⟨.ref fo, rfl, .ref u2, rfl, fo, _, rfl, dg, 1, _, rfl, rfl, _, hC, by rw [List.length_map]; exact small1000 (by omega), same_put sm nC, zs ++ [1 + valL fl m.2], by rw [upd_same, List.map_append]; rfl, by rw [List.length_append, zl]; rfl⟩
      · obtain ⟨sm, zs, hC, zl⟩ := p
        have S5 := sa.trans sm
        refine ⟨la, C, _, _, rfl, rfl, sm _ _ upd_same, hC, by rw [List.length_map]; exact Nat.le_trans (show 1 + zs.length ≤ 1000 by rw [zl, List.length_map]; omega) (by decide), fun p5 np5 => ?_⟩
        have s5 := same_upd (o := .lst ([V.int most] ++ zs.map V.int)) np5
        have S6 := S5.trans s5
        refine ⟨p5, most :: zs, rfl, .inl (.inl upd_same), Nat.succ_pos _, fun v _ _ => ?_⟩
        have hf6 := S6 _ _ hfx
        have hu6 := S6 _ _ hux'
        have hu6r := S6 _ _ hux
        have k6 : ∀ b o, b ≠ fo → H4 b = some o → upd Hm p5 (.lst ([V.int most] ++ zs.map V.int)) b = some o := fun b o n e => S6 _ _ (kx b o n e)
        generalize upd Hm p5 (.lst ([V.int most] ++ zs.map V.int)) = H6 at hf6 hu6 hu6r k6
        clear S6 s5 np5 S5 sm hC hevx hlx hux hux' nC sa nla hfx kx
        refine ⟨.ref fo, rfl, .ref u, rfl, fo, _, rfl, DPut.t hf6 hu6 (Nat.lt_of_le_of_lt (show (kvF fl).length ≤ 5000 by unfold kvF; rw [List.length_map]; exact fll) (by decide)), ?_⟩
        rw [kvF_putB]
        have fk2 : (putE fl t v).map (·.1) = rs.take (j + 1) := by rw [putE_keys, if_neg tn, fk, take_snoc et]
        have tu7 : Tups H6 (upd H6 fo (.dT (kvF (putE fl t v)))) := tups_upd fun xs e => by rw [hf6] at e; cases e
        have k7 : ∀ b o, b ≠ fo → H4 b = some o → upd H6 fo (.dT (kvF (putE fl t v))) b = some o := fun b o n e => by rw [upd_ne n]; exact k6 b o n e
        have hf7 := upd_same (H := H6) (a := fo) (o := .dT (kvF (putE fl t v)))
        have hu7 := tu7 _ _ hu6
        have hu7r := tu7 _ _ hu6r
        generalize upd H6 fo (.dT (kvF (putE fl t v))) = H7 at k7 hf7 hu7 hu7r
        clear tu7 hf6 hu6 hu6r k6
        have S7 := keep H7 k7
        refine ⟨.ref ri, rfl, .ref ta, rfl, .ref u, rfl, ri, ta, u, wds, many, hues, tb, t, rfl, hrd.mono (tups_same S7), g, htb.seqs (seqs_same S7), gs0, hu7r, gk, fun H8 s8 => ⟨_, rfl, ite2 (fun kp => ?_) (fun kp => ?_)⟩⟩
        · refine ⟨.ref fo, rfl, .ref u, rfl, fo, _, rfl, DPut.t (s8 _ _ hf7) (s8 _ _ hu7) (Nat.lt_of_le_of_lt (show (kvF (putE fl t v)).length ≤ 5000 by
            have e := congrArg List.length fk2
            rw [List.length_map, List.length_take] at e
            unfold kvF
            rw [List.length_map]
            omega) (by decide)), ?_⟩
          rw [kvF_putB]
          refine ⟨fun b o n e => by rw [upd_ne n]; exact s8 _ _ (k7 b o n e), ⟨putE (putE fl t v) t 0, upd_same, ?_⟩, _, _, _, rfl⟩
          rw [putE_keys, if_pos (by rw [fk2, take_snoc et]; exact List.mem_append_right _ List.mem_cons_self), fk2]
        · exact ⟨fun b o n e => s8 _ _ (k7 b o n e), ⟨_, s8 _ _ hf7, fk2⟩, _, _, _, rfl⟩
    · obtain ⟨kx, ⟨fl, hfx, fk⟩, y5, y6, y7, rfl⟩ := p
      rw [List.length_map, ql, List.take_length] at fk
      refine ⟨.ref fo, rfl, q Hx fo fl (keep Hx kx) nfo0 hfx ⟨by rw [fk]; exact rnd, fun x hx => ?_⟩ fun e => ?_⟩
      · have : x.1 ∈ rs := by rw [← fk]; exact List.mem_map.mpr ⟨x, hx, rfl⟩
        exact A.good x.1 (rpm.mem_iff.mp this)
      · rw [e] at fk
        have z := rpm.mem_iff.mpr A.start
        rw [← fk] at z
        cases z
end
end Rd

set_option autoImplicit false
set_option Elab.async false
set_option linter.all false
set_option maxRecDepth 100000
set_option maxHeartbeats 4000000
namespace Rd
open PySem PySem.Spec PyProof.Rows L2 Dt
abbrev sLdn : Stmt := topS 29
abbrev nLdn : List Str := ["tape", "table", "found", "turn", "draws"]
theorem scLdn : FnScope nLdn ["tape", "table"] (defScope sLdn) := ⟨rfl, rfl, rfl, by decide +kernel, rfl, by decide +kernel, by decide +kernel⟩
abbrev sBnt : Stmt := topS 30
abbrev nBnt : List Str := ["tape", "table", "floors", "found", "keys", "one", "way", "draws"]
theorem scBnt : FnScope nBnt ["tape", "table", "floors"] (defScope sBnt) := ⟨rfl, rfl, rfl, by decide +kernel, rfl, by decide +kernel, by decide +kernel⟩
/-- a table of so many draws at the most -/
def Brief (tb : List (List Int)) : Prop := ∀ ds ∈ tb, 1 ≤ ds.length ∧ ds.length ≤ 5000
theorem drawn_lc {K : PySem.W.Frag} {H1 : Hp} {tp ta C : Addr} {tb : List (List Int)} {g : TG} {te : TE} {vs : List Nat} {σ : L2.St} {Q : Hp → Prop} (hT : Tape H1 tp) (htb : IsTab (· = tp) H1 ta tb) (nC : H1 C = none) (hl : tb.length ≤ 999) (one : Brief tb)
    (hs : ∀ (d : Addr) (ds : List Int) (H2 : Hp) (R : V → Hp → Prop), Taped tp H1 H2 → H2 d = some (.lst (ds.map V.int)) → 1 ≤ ds.length → ds.length ≤ 5000 → (∀ x H3, Taped tp H2 H3 → 0 ≤ x → x < (ds.length : Int) → R (.int x) H3) → g (.ref d) (wipe σ vs) H2 fun σ2 H3 => wipe σ2 vs = wipe σ vs ∧ te σ2 H3 R)
    (q : ∀ H2 t, Taped tp H1 H2 → GoodK tb t → H2 C = some (.lst (t.map V.int)) → Q H2) :
    ∃ W : Nat → Nat → Hp → Prop, (∃ m, W 0 m (upd H1 C (.lst []))) ∧ ∀ i m H, W i m H →
      ((Itl K ta).stop i H ∧ Q H) ∨ ((Itl K ta).go i H ∧ ∃ Nx : Hp → Prop, (∀ H', Nx H' → ∃ m', m' < m ∧ W (i + 1) m' H') ∧ ∀ x H', (Itl K ta).yld i H x H' → g x (wipe σ vs) H' fun σ2 H2 => wipe σ2 vs = wipe σ vs ∧ tYes σ2 H2 fun b H3 =>
        if b = true then te σ2 H3 fun y H4 => ∃ acc, H4 C = some (.lst acc) ∧ acc.length < sizeLine ∧ Nx (upd H4 C (.lst (acc ++ [y]))) else Nx H3) := by
  obtain ⟨das, hta, nta, nda, pr⟩ := htb
  have dl := pairedLen pr
  have nCt := hT.new nC
  refine lc_list (K := K) (a := ta) (xs := das.map V.ref) (fun i Hx => Taped tp H1 Hx ∧ ∃ t : List Int, Hx C = some (.lst (t.map V.int)) ∧ t.length = i ∧ ∀ p : Nat, p < i → 0 ≤ t.getD p 0 ∧ t.getD p 0 < ((tb.getD p []).length : Int)) ⟨(Taped.refl hT).put nC nCt, [], upd_same, rfl, fun p hp => by omega⟩ (fun i Hx _ p => .inl (.inl (p.1.1 _ _ nta hta))) (fun i x Hx hx p => ?_) (fun Hx p => ?_)
  · obtain ⟨D, t, hC, tl, at_⟩ := p
    obtain ⟨d, ed, rfl⟩ := map_get hx
    obtain ⟨ds, eds, hd⟩ := pairedGetL pr ed
    have hd : H1 d = some (.lst (ds.map V.int)) := hd
    have il : i < tb.length := (List.getElem?_eq_some_iff.mp eds).1
    have o := one ds (List.mem_of_getElem? eds)
    have z := hs d ds Hx (fun y H4 => ∃ acc, H4 C = some (.lst acc) ∧ acc.length < sizeLine ∧ (Taped tp H1 (upd H4 C (.lst (acc ++ [y]))) ∧ ∃ t : List Int, upd H4 C (.lst (acc ++ [y])) C = some (.lst (t.map V.int)) ∧ t.length = i + 1 ∧ ∀ p : Nat, p < i + 1 → 0 ≤ t.getD p 0 ∧ t.getD p 0 < ((tb.getD p []).length : Int))) D (D.1 _ _ (nda d (List.mem_of_getElem? ed)) hd) o.1 o.2 fun x H3 D3 x0 x1 => ?_
    · exact z
    · refine ⟨_, D3.1 _ _ nCt hC, by rw [List.length_map]; exact small1000 (by omega), (D.trans D3).put nC nCt, t ++ [x], by rw [upd_same, List.map_append]; rfl, by rw [List.length_append, tl]; rfl, fun p hp => ?_⟩
      by_cases c : p < i
      · have e : (t ++ [x]).getD p 0 = t.getD p 0 := by
          rw [List.getD_eq_getElem?_getD, List.getElem?_append_left (by omega), List.getD_eq_getElem?_getD]
        rw [e]
        exact at_ p c
      · obtain rfl : p = i := by omega
        have e : (t ++ [x]).getD p 0 = x := by
          rw [List.getD_eq_getElem?_getD, List.getElem?_append_right (by omega), tl, Nat.sub_self]
          rfl
        have e2 : tb.getD p [] = ds := by rw [List.getD_eq_getElem?_getD, eds]; rfl
        rw [e, e2]
        exact ⟨x0, x1⟩
  · obtain ⟨D, t, hC, tl, at_⟩ := p
    rw [List.length_map, dl] at tl at_
    exact q Hx t D ⟨tl, at_⟩ hC
/-- put into floors -/
theorem FlG.put {tb : List (List Int)} {fl : List (List Int × Int)} (h : FlG tb fl) {t : List Int} (g : GoodK tb t) (x : Int) : FlG tb (putE fl t x) := by
  refine ⟨putE_nodup h.nd, fun e he => ?_⟩
  have m : e.1 ∈ (putE fl t x).map (·.1) := List.mem_map.mpr ⟨e, he, rfl⟩
  rw [putE_keys] at m
  split at m
  · obtain ⟨y, hy, ey⟩ := List.mem_map.mp m
    rw [← ey]
    exact h.good y hy
  · rcases List.mem_append.mp m with m | m
    · obtain ⟨y, hy, ey⟩ := List.mem_map.mp m
      rw [← ey]
      exact h.good y hy
    · rw [List.mem_singleton.mp m]
      exact g
theorem putE_len (fl : List (List Int × Int)) (t : List Int) (x : Int) : (putE fl t x).length ≤ fl.length + 1 := by
  have e := congrArg List.length (putE_keys (es := fl) (a := t) (x := x))
  rw [List.length_map] at e
  rw [e]
  split
  · rw [List.length_map]; omega
  · rw [List.length_append, List.length_map]; exact Nat.le_refl _
def spLdn : Sp := fun vs H Q _ => ∃ (tp ta : Addr) (tb : List (List Int)), vs = [.ref tp, .ref ta] ∧ Tape H tp ∧ IsTab (· = tp) H ta tb ∧ tb.length ≤ 999 ∧ Brief tb ∧
  ∀ H' d fl, Taped tp H H' → H d = none → H' d = some (.dT (kvF fl)) → FlG tb fl → fl.length ≤ 6 → Q (.ref d) H'
/-- whatever keys of this table: their hashes are apart -/
def ApK (P : Program) (w : World) (tb : List (List Int)) : Prop := ∀ ts : List (List Int), ts.Nodup → (∀ t ∈ ts, GoodK tb t) → (ts.map fun t => tupleKeyHash (mixKind P w) (keyB t)).Nodup
def spBnt (P : Program) (w : World) : Sp := fun vs H Q _ => ∃ (tp ta fd : Addr) (tb : List (List Int)) (fl : List (List Int × Int)), vs = [.ref tp, .ref ta, .ref fd] ∧ Tape H tp ∧ IsTab (· = tp) H ta tb ∧ 1 ≤ tb.length ∧ tb.length ≤ 999 ∧ Brief tb ∧ ApK P w tb ∧ Rd H fd (.dT (kvF fl)) ∧ FlG tb fl ∧ fl ≠ [] ∧ fl.length ≤ 5000 ∧
  ∀ H' d fl', Taped tp H H' → H d = none → H' d = some (.dT (kvF fl')) → FlG tb fl' → fl'.length ≤ fl.length + 1 → Q (.ref d) H'
structure TxtLdn (P : Program) (w : World) (K : PySem.W.Frag) (mg : Str → Option Value) (base : Heap) : Prop where
  m_range : mg "range" = none
  m_tuple : mg "tuple" = none
  m_len : mg "len" = none
  c__law_digit : Cal P w K mg base 1 "_law_digit" ["tape", "many"] spDig
structure TxtBnt (P : Program) (w : World) (K : PySem.W.Frag) (mg : Str → Option Value) (base : Heap) : Prop where
  m_dict : mg "dict" = none
  m_sorted : mg "sorted" = none
  m_tuple : mg "tuple" = none
  m_len : mg "len" = none
  m_int : mg "int" = none
  c__law_digit : Cal P w K mg base 1 "_law_digit" ["tape", "many"] spDig
section
variable {P : Program} {w : World} {K : PySem.W.Frag} {mg : Str → Option Value} {base : Heap}
set_option maxHeartbeats 16000000 in
theorem ok_ldn {f : Addr} {fd : FuncData} {k : Nat} (F : Fun K "_law_drawn" "_law_drawn" sLdn f fd) (T : TxtLdn P w K mg base) : FnOk P w K mg base CX0 (k + 2) f fd ["tape", "table"] spLdn := by
  refine F.ok scLdn (fun vs H Q E h => ?_) (fun cdv A outer s H vs Q E hr h => ?_)
  · obtain ⟨tp, ta, tb, rfl, _⟩ := h
    rfl
  · obtain ⟨tp, ta, tb, rfl, hT, htb, tl, one, q⟩ := h
    refine ⟨_, (pss_cons (ps_set (i := 2) scLdn.nd rfl (Or.inl rfl) pe_dnewT)
  (pss_cons (ps_for PassesOwn.never rfl (pi_range1 (by rfl) T.m_range (pa_cons (pe_op op_add pe_int (pe_cal T.c__law_digit (hr.mono (by omega)) (by rfl) (pa_cons (pv 0) (pa_cons pe_int pa_nil)))) pa_nil)) (pg_name (i := 3) scLdn.nd rfl (Or.inl rfl))
  (pss_one (ps_dput (hu_of hr) (pv 2) (pe_callTy call_tuple_of (by rfl) T.m_tuple (by decide +kernel) (pa_cons (pe_lc (te := tCall spDig [] E0 (tCons (tVar 0) (tCons (tCB (rLen K) (tCons (tVar 4) tNil)) tNil))) (own := [("draws", 4)]) rfl scLdn.nd  (pi_list (pv 1)) (blkOk_by (own := [("draws", 4)]) (N := nLdn) (sc := defScope sLdn) (by decide +kernel))
   (fun _ _ _ _ _ => (pg_name (i := 4) scLdn.nd rfl (Or.inl rfl))) (fun _ _ _ _ _ => pts_nil) (fun _ _ _ _ _ => (pe_cal T.c__law_digit (hr.mono (by omega)) (by rfl) (pa_cons (pv 0) (pa_cons (pe_callB call_len_seq (by rfl) T.m_len (by decide +kernel) (pa_cons (pv 4) pa_nil)) pa_nil))))) pa_nil)) (pe_op op_sub (pe_cal T.c__law_digit (hr.mono (by omega)) (by rfl) (pa_cons (pv 0) (pa_cons pe_int pa_nil))) pe_int) rfl)))
  (pss_one (ps_ret (pv 2))))), ?_⟩
    obtain ⟨das, hta, nta, _, _⟩ := id htb
    intro fo nfo
    have nft := hT.new nfo
    have D1 := (Taped.refl hT).put (o := .dT []) nfo nft
    have hf1 := upd_same (H := H) (a := fo) (o := .dT [])
    generalize upd H fo (.dT []) = H1 at D1 hf1
    refine ⟨.ref tp, rfl, tp, 5, rfl, D1.2, by decide, by decide, fun H2 n D2 n0 n1 => ⟨2, n, rfl, rfl, 2 + n, rfl, by omega, by omega, ?_⟩⟩
    refine for_range (lo := 0) (n := (2 + n).toNat) (fun i σ Hx => Taped tp H Hx ∧ (∃ fl, Hx fo = some (.dT (kvF fl)) ∧ FlG tb fl ∧ fl.length ≤ i) ∧ ∃ y3, σ = [some (.ref tp), some (.ref ta), some (.ref fo), y3, none]) ⟨D1.trans D2, ⟨[], D2.1 _ _ nft hf1, ⟨List.nodup_nil, fun _ y => nomatch y⟩, Nat.le_refl _⟩, none, rfl⟩ (fun i σ Hx hi p => ?_) (fun σ Hx p => ?_)
    · obtain ⟨Dx, ⟨fl, hfx, ok, fll⟩, y3, rfl⟩ := p
      refine ⟨.ref tp, rfl, tp, 7, rfl, Dx.2, by decide, by decide, fun H3 v D3 v0 v1 => ⟨v, 3, rfl, rfl, .ref fo, rfl, ?_⟩⟩
      have Dy := Dx.trans D3
      refine ⟨.ref ta, rfl, ta, rfl, ⟨_, .inl (.inl (Dy.1 _ _ nta hta))⟩, fun C nC => ?_⟩
      refine drawn_lc Dy.2 (htb.taped Dy) nC tl one (fun d ds H4 R D4 hd o1 o2 r => ?_) fun H4 t D4 gk hC => ?_
      · refine ⟨rfl, .ref tp, rfl, .ref d, rfl, d, _, rfl, .inl (.inl (.inl hd)), tp, _, rfl, D4.2, by rw [List.length_map]; omega, by rw [List.length_map]; exact log_small (by omega) (by omega), fun H5 x D5 x0 x1 => r x H5 D5 x0 (by rw [List.length_map] at x1; exact x1)⟩
      · refine ⟨C, _, rfl, .inl ⟨.inl (.inl hC), fun l nl => ?_⟩⟩
        have hf4 := D4.1 _ _ nft (D3.1 _ _ nft hfx)
        have sl := same_upd (o := .tup (t.map V.int)) nl
        have hl := upd_same (H := H4) (a := l) (o := .tup (t.map V.int))
        have D5 := (Dy.trans D4).same sl
        refine ⟨fo, _, rfl, DPut.t (sl _ _ hf4) (show upd H4 l (HO.tup (t.map V.int)) l = some (HO.tup ((keyB t).map kV)) by rw [keyB_kV]; exact hl) (Nat.lt_of_le_of_lt (show (kvF fl).length ≤ 1000 by unfold kvF; rw [List.length_map]; omega) (by decide)), ?_⟩
        rw [kvF_putB]
        exact ⟨D5.put nfo nft, ⟨_, upd_same, ok.put gk _, Nat.le_trans (putE_len _ _ _) (Nat.succ_le_succ fll)⟩, _, rfl⟩
    · obtain ⟨Dx, ⟨fl, hfx, ok, fll⟩, y3, rfl⟩ := p
      exact ⟨.ref fo, rfl, q Hx fo fl Dx nfo hfx ok (by omega)⟩
theorem units66 {k : Nat} {A : Around} (r : Room k A) : A.units + 66 < cLine := by have := r.un; omega
theorem FlG.drop {tb : List (List Int)} {fl : List (List Int × Int)} (h : FlG tb fl) (p : List Int × Int → Bool) : FlG tb (fl.filter p) := ⟨h.nd.sublist ((List.filter_sublist).map _), fun x hx => h.good x (List.mem_filter.mp hx).1⟩
theorem kvF_drop {fl : List (List Int × Int)} {a : List Int} : dropK (kvF fl) (keyB a) = kvF (fl.filter fun x => decide (x.1 ≠ a)) := by
  unfold dropK kvF
  rw [List.filter_map]
  refine congrArg (List.map _) (congrArg (fun p => List.filter p fl) (funext fun x => ?_))
  show decide (keyB x.1 ≠ keyB a) = decide (x.1 ≠ a)
  rw [Bool.eq_iff_iff, decide_eq_true_iff, decide_eq_true_iff]
  exact not_congr ⟨fun z => keyB_inj z, fun z => by rw [z]⟩
set_option maxHeartbeats 16000000 in
theorem ok_bnt {f : Addr} {fd : FuncData} {k : Nat} (F : Fun K "_law_bent" "_law_bent" sBnt f fd) (T : TxtBnt P w K mg base) : FnOk P w K mg base CX0 (k + 2) f fd ["tape", "table", "floors"] (spBnt P w) := by
  refine F.ok scBnt (fun vs H Q E h => ?_) (fun cdv A outer s H vs Q E hr h => ?_)
  · obtain ⟨tp, ta, fd, tb, fl, rfl, _⟩ := h
    rfl
  · obtain ⟨tp, ta, fd, tb, fl, rfl, hT, htb, t1, tl, one, ap, hfd, ok, ne, few, q⟩ := h
    refine ⟨_, (pss_cons (ps_set (i := 3) scBnt.nd rfl (Or.inl rfl) (pe_callTy (call_dictDT (hu8_of hr)) (by rfl) T.m_dict (by decide +kernel) (pa_cons (pv 2) pa_nil)))
  (pss_cons (ps_set (i := 4) scBnt.nd rfl (Or.inl rfl) (pe_callB (cr_sortedTI rfl (units66 hr)) (by rfl) T.m_sorted (by decide +kernel) (pa_cons (pv 3) pa_nil)))
  (pss_cons (ps_set (i := 5) scBnt.nd rfl (Or.inl rfl) (pe_ix ix_list (pv 4) (pe_cal T.c__law_digit (hr.mono (by omega)) (by rfl) (pa_cons (pv 0) (pa_cons (pe_callB call_len_seq (by rfl) T.m_len (by decide +kernel) (pa_cons (pv 4) pa_nil)) pa_nil))) (fun _ _ => rfl)))
  (pss_cons (ps_set (i := 6) scBnt.nd rfl (Or.inl rfl) (pe_cal T.c__law_digit (hr.mono (by omega)) (by rfl) (pa_cons (pv 0) (pa_cons pe_int pa_nil))))
  (C8.pss_cut (ps_if (pt_cmpR op_lt (pv 6) pe_int (nomark _))
  (pss_one (ps_dput (hu_of hr) (pv 3) (pv 5) (pe_op op_add (pe_dget (hu_of hr) (pv 3) (pv 5) (fun _ _ => rfl)) (pe_ix ix_list (pe_lst (pa_cons pe_int (pa_cons (pe_un un_neg pe_int) pa_nil))) (pv 6) (fun _ _ => rfl))) rfl)) (pss_one (ps_if (pt_cmpR op_eq (pv 6) pe_int (nomark _))
  (pss_one (ps_expr (pe_bm PySem.F.plainAttrs_dict PySem.F.slot_dict_pop PySem.F.type_dict_pop (mt_pop1T (hu_of hr)) (pv 3) (pa_cons (pv 5) pa_nil)))) (pss_one (ps_if (pt_cmpR op_eq (pv 6) pe_int (nomark _))
  (pss_one (ps_dput (hu_of hr) (pv 3) (pe_callTy call_tuple_of (by rfl) T.m_tuple (by decide +kernel) (pa_cons (pe_lc (te := tCall spDig [] E0 (tCons (tVar 0) (tCons (tCB (rLen K) (tCons (tVar 7) tNil)) tNil))) (own := [("draws", 7)]) rfl scBnt.nd  (pi_list (pv 1)) (blkOk_by (own := [("draws", 7)]) (N := nBnt) (sc := defScope sBnt) (by decide +kernel))
   (fun _ _ _ _ _ => (pg_name (i := 7) scBnt.nd rfl (Or.inl rfl))) (fun _ _ _ _ _ => pts_nil) (fun _ _ _ _ _ => (pe_cal T.c__law_digit (hr.mono (by omega)) (by rfl) (pa_cons (pv 0) (pa_cons (pe_callB call_len_seq (by rfl) T.m_len (by decide +kernel) (pa_cons (pv 7) pa_nil)) pa_nil))))) pa_nil)) (pe_cal T.c__law_digit (hr.mono (by omega)) (by rfl) (pa_cons (pv 0) (pa_cons pe_int pa_nil))) rfl)) (pss_one (ps_if (pt_cmpR op_eq (pv 6) pe_int (nomark _))
  (pss_one (ps_dput (hu_of hr) (pv 3) (pv 5) (pe_op op_sub (pe_cal T.c__law_digit (hr.mono (by omega)) (by rfl) (pa_cons (pv 0) (pa_cons pe_int pa_nil))) pe_int) rfl)) pss_nil)))))))
  (pss_one (ps_ret (pe_ix ix_list (pe_lst (pa_cons (pv 3) (pa_cons pe_dnewT pa_nil))) (pe_callTy call_int1 (by rfl) T.m_int (by decide +kernel) (pa_cons (pe_cmpR op_eq (pv 6) pe_int (nomark _)) pa_nil)) (fun _ _ => rfl))))))))), ?_⟩
    obtain ⟨das, hta, nta, _, _⟩ := id htb
    -- found
    refine ⟨.ref fd, rfl, fd, kvF fl, rfl, hfd, ?_, fun fo nfo => ?_⟩
    · have y := ap (fl.map (·.1)) ok.nd fun t ht => by
        obtain ⟨x, hx, rfl⟩ := List.mem_map.mp ht
        exact ok.good x hx
      unfold kvF
      rw [List.map_map] at y ⊢
      exact y
    have nft := hT.new nfo
    have D1 := (Taped.refl hT).put (o := .dT (kvF fl)) nfo nft
    have hf1 := upd_same (H := H) (a := fo) (o := .dT (kvF fl))
    generalize upd H fo (.dT (kvF fl)) = H1 at D1 hf1
    -- keys
    refine ⟨.ref fo, rfl, fo, kvF fl, fl.map (·.1), rfl, .inl hf1, by unfold kvF; rw [List.map_map, List.map_map]; rfl, fun t ht e => ?_, fun qs gs p pq pm np => ?_⟩
    · obtain ⟨x, hx, rfl⟩ := List.mem_map.mp ht
      have y := (ok.good x hx).len
      rw [e] at y
      have : tb.length = 0 := y.symm
      omega
    have sp := same_upd (o := .lst (qs.map V.ref)) np
    have D2 := D1.same sp
    have hf2 := sp _ _ hf1
    have hp2 := upd_same (H := H1) (a := p) (o := .lst (qs.map V.ref))
    have npt := D1.2.new np
    have pq2 := pairedMap (fun _ _ e => sp _ _ e) pq
    generalize upd H1 p (.lst (qs.map V.ref)) = H2 at D2 hf2 hp2 pq2
    clear sp np pq hf1 D1
    have ql : qs.length = fl.length := by rw [pairedLen pq2, pm.length_eq, List.length_map]
    have f1 : 1 ≤ fl.length := by
      cases fl with
      | nil => exact absurd rfl ne
      | cons x r => exact Nat.succ_pos _
    -- one
    refine ⟨.ref p, rfl, .ref tp, rfl, .ref p, rfl, p, _, rfl, .inl (.inl (.inl hp2)), tp, _, rfl, D2.2, by rw [List.length_map]; omega, by rw [List.length_map]; exact log_small (by omega) (by omega), fun H3 d D3 d0 d1 => ?_⟩
    rw [List.length_map] at d1
    obtain ⟨u, eu⟩ : ∃ u, qs[d.toNat]? = some u := ⟨_, List.getElem?_eq_getElem (by omega)⟩
    obtain ⟨g, eg, hu2⟩ := pairedGetL pq2 eu
    have hu2 : H2 u = some (.tup (g.map V.int)) := hu2
    have gm : g ∈ fl.map (·.1) := pm.mem_iff.mp (List.mem_of_getElem? eg)
    have gk : GoodK tb g := by
      obtain ⟨x, hx, rfl⟩ := List.mem_map.mp gm
      exact ok.good x hx
    refine ⟨p, _, d, .ref u, rfl, rfl, .inl (.inl (D3.1 _ _ npt hp2)), atI_of d0 eu, ?_⟩
    -- way
    have D4 := D2.trans D3
    have nut : u ≠ tp := fun z => by
      obtain ⟨_, _, e, _⟩ := D2.2
      rw [z, e] at hu2
      cases hu2
    refine ⟨.ref tp, rfl, tp, 6, rfl, D4.2, by decide, by decide, fun H5 way D5 w0 w1 => ?_⟩
    have D6 := D4.trans D5
    have hf6 := D5.1 _ _ nft (D3.1 _ _ nft hf2)
    have hu6 := D5.1 _ _ nut (D3.1 _ _ nut hu2)
    have hu6' : H5 u = some (.tup ((keyB g).map kV)) := by rw [keyB_kV]; exact hu6
    clear D4 D5 D3 D2 hp2 hf2 pq2 eu eg hu2
    refine ⟨fun σ Hx => (∃ fl', Taped tp H Hx ∧ Hx fo = some (.dT (kvF fl')) ∧ FlG tb fl' ∧ fl'.length ≤ fl.length + 1) ∧ σ = [some (.ref tp), some (.ref ta), some (.ref fd), some (.ref fo), some (.ref p), some (.ref u), some (.int way), none], ?_, ?_⟩
    · have szk : (kvF fl).length < sizeLine := Nat.lt_of_le_of_lt (show (kvF fl).length ≤ 5000 by unfold kvF; rw [List.length_map]; exact few) (by decide)
      refine ⟨.int way, rfl, way, 2, rfl, rfl, _, rfl, ite2 (fun c => ?_) (fun c => ?_)⟩
      · have c := of_decide_eq_true c
        have dg := DGet.t hf6 hu6'
        rw [kvF_val, if_pos gm] at dg
        refine ⟨.ref fo, rfl, .ref u, rfl, fo, _, rfl, dg, 2, rfl, (by show 2 ≤ sizeLine; decide), fun l nl => ?_⟩
        have sl := same_upd (o := .lst [V.int 1, .int (-2)]) nl
        obtain ⟨cc, hc⟩ : ∃ cc, atI [V.int 1, .int (-2)] way = some (.int cc) := by
          have : way = 0 ∨ way = 1 := by omega
          rcases this with rfl | rfl
          · exact ⟨1, rfl⟩
          · exact ⟨-2, rfl⟩
        refine ⟨.int way, rfl, l, _, way, .int cc, rfl, rfl, .inl (.inl upd_same), hc, _, _, rfl, rfl, .ref fo, rfl, .ref u, rfl, fo, _, rfl, DPut.t (sl _ _ hf6) (sl _ _ hu6') szk, ?_⟩
        rw [kvF_putB]
        exact ⟨⟨_, (D6.same sl).put nfo nft, upd_same, ok.put gk _, putE_len _ _ _⟩, rfl⟩
      · refine ⟨.int way, rfl, rfl, _, rfl, ite2 (fun c2 => ?_) (fun c2 => ?_)⟩
        · refine ⟨.ref fo, rfl, .inr (.inr (.inl ⟨rfl, .inr ⟨_, hf6⟩⟩)), .ref u, rfl, fo, _, _, u, .int (valL fl g), rfl, rfl, hf6, hu6', by rw [kvF_val, if_pos gm], ?_⟩
          rw [kvF_drop]
          exact ⟨⟨_, D6.put nfo nft, upd_same, ok.drop _, Nat.le_trans (List.length_filter_le _ _) (Nat.le_succ _)⟩, rfl⟩
        · refine ⟨.int way, rfl, rfl, _, rfl, ite2 (fun c3 => ?_) (fun c3 => ?_)⟩
          · refine ⟨.ref tp, rfl, tp, 4, rfl, D6.2, by decide, by decide, fun H7 v D7 v0 v1 => ⟨.ref fo, rfl, ?_⟩⟩
            have D8 := D6.trans D7
            refine ⟨.ref ta, rfl, ta, rfl, ⟨_, .inl (.inl (D8.1 _ _ nta hta))⟩, fun C nC => ?_⟩
            refine drawn_lc D8.2 (htb.taped D8) nC tl one (fun d ds H4 R D4 hd o1 o2 r => ?_) fun H9 t D9 gt hC => ?_
            · refine ⟨rfl, .ref tp, rfl, .ref d, rfl, d, _, rfl, .inl (.inl (.inl hd)), tp, _, rfl, D4.2, by rw [List.length_map]; omega, by rw [List.length_map]; exact log_small (by omega) (by omega), fun H5 x D5 x0 x1 => r x H5 D5 x0 (by rw [List.length_map] at x1; exact x1)⟩
            · refine ⟨C, _, rfl, .inl ⟨.inl (.inl hC), fun l nl => ?_⟩⟩
              have sl := same_upd (o := .tup (t.map V.int)) nl
              have hl := upd_same (H := H9) (a := l) (o := .tup (t.map V.int))
              refine ⟨fo, _, rfl, DPut.t (sl _ _ (D9.1 _ _ nft (D7.1 _ _ nft hf6))) (show upd H9 l (HO.tup (t.map V.int)) l = some (HO.tup ((keyB t).map kV)) by rw [keyB_kV]; exact hl) szk, ?_⟩
              rw [kvF_putB]
              exact ⟨⟨_, ((D8.trans D9).same sl).put nfo nft, upd_same, ok.put gt _, putE_len _ _ _⟩, rfl⟩
          · refine ⟨.int way, rfl, rfl, _, rfl, ite2 (fun c4 => ?_) (fun c4 => ?_)⟩
            · refine ⟨.ref tp, rfl, tp, 9, rfl, D6.2, by decide, by decide, fun H7 v D7 v0 v1 => ⟨v, 3, rfl, rfl, .ref fo, rfl, .ref u, rfl, fo, _, rfl, DPut.t (D7.1 _ _ nft hf6) (D7.1 _ _ nut hu6') szk, ?_⟩⟩
              rw [kvF_putB]
              exact ⟨⟨_, (D6.trans D7).put nfo nft, upd_same, ok.put gk _, putE_len _ _ _⟩, rfl⟩
            · exact ⟨⟨fl, D6, hf6, ok, Nat.le_succ _⟩, rfl⟩
    clear D6 hf6 hu6 hu6'
    rintro σ Hx ⟨⟨fl', Dx, hfx, ok', le'⟩, rfl⟩
    refine ⟨.ref fo, rfl, fun e ne' => ?_⟩
    have s1 := same_upd (o := .dT []) ne'
    refine ⟨(by show 2 ≤ sizeLine; decide), fun l nl => ?_⟩
    have s2 := same_upd (o := .lst [V.ref fo, .ref e]) nl
    refine ⟨.int way, rfl, rfl, .inr ⟨_, rfl, l, _, _, if decide (V.int way = V.int 5) = true then .ref e else .ref fo, rfl, rfl, .inl (.inl upd_same), ?_, ?_⟩⟩
    · split <;> rfl
    · have D9 := (Dx.same s1).same s2
      split
      · exact q _ e [] D9 (Dx.free ne') (s2 _ _ upd_same) ⟨List.nodup_nil, fun _ y => nomatch y⟩ (Nat.zero_le _)
      · exact q _ fo fl' D9 nfo (s2 _ _ (s1 _ _ hfx)) ok' le'
end
end Rd

set_option autoImplicit false
set_option Elab.async false
set_option linter.all false
set_option maxRecDepth 100000
set_option maxHeartbeats 4000000
namespace Rd
open PySem PySem.Spec PyProof.Rows L2 Dt
abbrev sWid : Stmt := topS 31
abbrev nWid : List Str := ["tape", "hue", "riddle", "table", "floors", "turn", "one", "handed", "found", "draws"]
theorem scWid : FnScope nWid ["tape"] (defScope sWid) := ⟨rfl, rfl, rfl, by decide +kernel, rfl, by decide +kernel, by decide +kernel⟩
/-- three lists of hues -/
def tbX (hue : Int) : List (List Int) := [List.replicate 60 hue, List.replicate 10 (1 - hue), List.replicate 10 hue]
theorem good_tbX {hue : Int} (h : hue = 0 ∨ hue = 1) : GoodS 3 2 (tbX hue) := by
  refine ⟨rfl, fun ds hd => ?_, fun ds hd z hz => ?_⟩
  · simp only [tbX, List.mem_cons, List.not_mem_nil, or_false] at hd
    rcases hd with rfl | rfl | rfl <;> rw [List.length_replicate] <;> omega
  · simp only [tbX, List.mem_cons, List.not_mem_nil, or_false] at hd
    rcases hd with rfl | rfl | rfl <;> have := (List.mem_replicate.mp hz).2 <;> omega
theorem len_tbX {hue : Int} : (tbX hue).map List.length = [60, 10, 10] := by
  show [(List.replicate 60 hue).length, (List.replicate 10 (1 - hue)).length, (List.replicate 10 hue).length] = _
  rw [List.length_replicate, List.length_replicate, List.length_replicate]
theorem brief_of {tb : List (List Int)} {l : List Nat} (e : tb.map List.length = l) (h : ∀ n ∈ l, 1 ≤ n ∧ n ≤ 5000) : Brief tb := fun ds hd => h _ (by rw [← e]; exact List.mem_map.mpr ⟨ds, hd, rfl⟩)
theorem ap_tbX {P : Program} {w : World} {hue : Int} : ApK P w (tbX hue) := fun ts nd h => hash_apart boxVw nd fun t ht => by
  have z := good_box (h t ht)
  rw [len_tbX] at z
  exact z
theorem goodK3 {hue a b c : Int} (h1 : 0 ≤ a ∧ a < 60) (h2 : 0 ≤ b ∧ b < 10) (h3 : 0 ≤ c ∧ c < 10) : GoodK (tbX hue) [a, b, c] := by
  refine ⟨rfl, fun p hp => ?_⟩
  have : p = 0 ∨ p = 1 ∨ p = 2 := by
    have : p < 3 := hp
    omega
  rcases this with rfl | rfl | rfl
  · show 0 ≤ a ∧ a < ((List.replicate 60 hue).length : Int)
    rw [List.length_replicate]
    exact h1
  · show 0 ≤ b ∧ b < ((List.replicate 10 (1 - hue)).length : Int)
    rw [List.length_replicate]
    exact h2
  · show 0 ≤ c ∧ c < ((List.replicate 10 hue).length : Int)
    rw [List.length_replicate]
    exact h3
def wdX (hue : Int) : List WD := [([0, 2], [[hue, hue]])]
theorem good_wdX {hue : Int} (h : hue = 0 ∨ hue = 1) : GoodR 3 2 (wdX hue) := by
  rcases h with rfl | rfl
  all_goals
    refine ⟨by decide, by decide, by decide, by decide, by decide, fun wd hw => ?_⟩
    simp only [wdX, List.mem_cons, List.not_mem_nil, or_false] at hw
    subst hw
    refine ⟨by decide, by decide, ?_, by decide, by decide, ?_⟩ <;> decide
theorem units70 {k : Nat} {A : Around} (r : Room k A) : A.units + 70 < cLine := by have := r.un; omega
def spWiX (Ps : List Addr) : Sp := fun vs H Q _ => ∃ (tp : Addr), vs = [.ref tp] ∧ Tape H tp ∧ Tabs Ps H ∧ ∀ H', FrT tp Ps H H' → Q (.bl true) H'
structure TxtWiX (P : Program) (w : World) (K : PySem.W.Frag) (mg : Str → Option Value) (base : Heap) (Ps : List Addr) : Prop where
  m_range : mg "range" = none
  m_dict : mg "dict" = none
  m_list : mg "list" = none
  m_bool : mg "bool" = none
  m_isinstance : mg "isinstance" = none
  c__law_digit : Cal P w K mg base 1 "_law_digit" ["tape", "many"] spDig
  c__law_due : Cal P w K mg base 3 "_law_due" ["riddle", "table", "floors"] spDuB
  c_are_floors : Cal P w K mg base 10 "are_floors" ["riddle", "table", "floors"] (spArf Ps)
theorem rep_readI {m i : Nat} {te : TE} {hue : Int} {σ : L2.St} {H : Hp} {Q : V → Hp → Prop} (hs : ∀ R : VK, R (.int hue) H → te σ H R) (hm : m ≤ 2000) (q : ∀ H' p, Same H H' → H p = none → H' p = some (.lst ((List.replicate m hue).map V.int)) → Q (.ref p) H') : tOp rRep (tLst (tCons te tNil)) (tC (.int (m : Int))) σ H Q := by
  refine hs _ ⟨(by show 1 ≤ sizeLine; decide), fun l nl => ?_⟩
  have s1 := same_upd (o := .lst [V.int hue]) nl
  refine ⟨l, (m : Int), [.int hue], rfl, rfl, upd_same, by omega, by omega, ?_, fun p np => ?_⟩
  · show 1 * ((m : Int)).toNat ≤ sizeLine
    rw [Int.toNat_natCast]
    exact Nat.le_trans (show 1 * m ≤ 2000 by omega) (by decide)
  · refine q _ p (s1.trans (same_upd np)) (s1.free np) ?_
    rw [upd_same, Int.toNat_natCast, rep_flat V.int hue m]
section
variable {P : Program} {w : World} {K : PySem.W.Frag} {mg : Str → Option Value} {base : Heap}
set_option maxHeartbeats 16000000 in
theorem ok_wiX {f : Addr} {Ps : List Addr} {fd : FuncData} {k : Nat} (F : Fun K "_law_wide_right" "_law_wide_right" sWid f fd) (T : TxtWiX P w K mg base Ps) : FnOk P w K mg base CX0 (k + 11) f fd ["tape"] (spWiX Ps) := by
  refine F.ok scWid (fun vs H Q E h => ?_) (fun cdv A outer s H vs Q E hr h => ?_)
  · obtain ⟨tp, rfl, _⟩ := h
    rfl
  · obtain ⟨tp, rfl, ht, hT, q⟩ := h
    refine ⟨_, (pss_cons (ps_set (i := 1) scWid.nd rfl (Or.inl rfl) (pe_cal T.c__law_digit (hr.mono (by omega)) (by rfl) (pa_cons (pv 0) (pa_cons pe_int pa_nil))))
  (C8.pss_cut (ps_set (i := 2) scWid.nd rfl (Or.inl rfl) (pe_tup (pa_cons pe_int (pa_cons pe_int (pa_cons (pe_tup (pa_cons (pe_tup (pa_cons (pe_tup (pa_cons pe_int (pa_cons pe_int pa_nil))) (pa_cons (pe_tup (pa_cons (pe_tup (pa_cons (pv 1) (pa_cons (pv 1) pa_nil))) pa_nil)) pa_nil))) pa_nil)) pa_nil)))))
  (C8.pss_cut (ps_set (i := 3) scWid.nd rfl (Or.inl rfl) (pe_lst (pa_cons (pe_op op_rep (pe_lst (pa_cons (pv 1) pa_nil)) pe_int) (pa_cons (pe_op op_rep (pe_lst (pa_cons (pe_op op_sub pe_int (pv 1)) pa_nil)) pe_int) (pa_cons (pe_op op_rep (pe_lst (pa_cons (pv 1) pa_nil)) pe_int) pa_nil)))))
  (C8.pss_cut (ps_set (i := 4) scWid.nd rfl (Or.inl rfl) (pe_disp2T (hu_of hr) (pe_tup (pa_cons pe_int (pa_cons pe_int (pa_cons pe_int pa_nil)))) (pe_op op_add pe_int (pe_cal T.c__law_digit (hr.mono (by omega)) (by rfl) (pa_cons (pv 0) (pa_cons pe_int pa_nil)))) (pe_tup (pa_cons pe_int (pa_cons pe_int (pa_cons pe_int pa_nil)))) (pe_cal T.c__law_digit (hr.mono (by omega)) (by rfl) (pa_cons (pv 0) (pa_cons pe_int pa_nil)))))
  (pss_cons (ps_for PassesOwn.never rfl (pi_range1 (by rfl) T.m_range (pa_cons (pe_cal T.c__law_digit (hr.mono (by omega)) (by rfl) (pa_cons (pv 0) (pa_cons pe_int pa_nil))) pa_nil)) (pg_name (i := 5) scWid.nd rfl (Or.inl rfl))
  (pss_cons (ps_set (i := 6) scWid.nd rfl (Or.inl rfl) (pe_tup (pa_cons (pe_cal T.c__law_digit (hr.mono (by omega)) (by rfl) (pa_cons (pv 0) (pa_cons pe_int pa_nil))) (pa_cons (pe_cal T.c__law_digit (hr.mono (by omega)) (by rfl) (pa_cons (pv 0) (pa_cons pe_int pa_nil))) (pa_cons (pe_cal T.c__law_digit (hr.mono (by omega)) (by rfl) (pa_cons (pv 0) (pa_cons pe_int pa_nil))) pa_nil)))))
  (pss_one (ps_dput (hu_of hr) (pv 4) (pv 6) (pe_op op_sub pe_int (pe_cal T.c__law_digit (hr.mono (by omega)) (by rfl) (pa_cons (pv 0) (pa_cons pe_int pa_nil)))) rfl))))
  (C8.pss_cut (ps_set (i := 7) scWid.nd rfl (Or.inl rfl) (pe_lst (pa_cons (pe_callTy (call_dictDT (hu8_of hr)) (by rfl) T.m_dict (by decide +kernel) (pa_cons (pv 4) pa_nil)) (pa_cons (pe_lc (te := tCB (rListO K) (tCons (tVar 9) tNil)) (own := [("draws", 9)]) rfl scWid.nd  (pi_list (pv 3)) (blkOk_by (own := [("draws", 9)]) (N := nWid) (sc := defScope sWid) (by decide +kernel))
   (fun _ _ _ _ _ => (pg_name (i := 9) scWid.nd rfl (Or.inl rfl))) (fun _ _ _ _ _ => pts_nil) (fun _ _ _ _ _ => (pe_callTy call_list_of (by rfl) T.m_list (by decide +kernel) (pa_cons (pv 9) pa_nil)))) pa_nil))))
  (pss_cons (ps_set (i := 8) scWid.nd rfl (Or.inl rfl) (pe_cal T.c_are_floors (hr.mono (by omega)) (by rfl) (pa_cons (pv 2) (pa_cons (pe_ix ix_list (pv 7) pe_int (fun _ _ => rfl)) (pa_cons (pe_ix ix_list (pv 7) pe_int (fun _ _ => rfl)) pa_nil)))))
  (pss_cons (ps_if (PW.pt (pw_or (pt_not (pt_val (pe_callB call_isi (by rfl) T.m_isinstance (by decide +kernel) (pa_cons (pv 8) (pa_cons (pe_bltn (v := .ty "bool") (by rfl) T.m_bool (by decide +kernel) rfl) pa_nil))))) (pw_or (pt_cmpR op_ne (pv 8) (pe_cal T.c__law_due (hr.mono (by omega)) (by rfl) (pa_cons (pv 2) (pa_cons (pv 3) (pa_cons (pv 4) pa_nil)))) (nomark _)) (pw_or1 (pt_cmpR (op_neDT (units70 hr)) (pv 7) (pe_lst (pa_cons (pv 4) (pa_cons (pv 3) pa_nil))) (nomark _))))))
  (pss_one (ps_ret pe_bl)) pss_nil)
  (pss_one (ps_ret (pe_cmpR op_isBl (pe_cal T.c_are_floors (hr.mono (by omega)) (by rfl) (pa_cons (pv 2) (pa_cons (pv 3) (pa_cons pe_dnewT pa_nil)))) pe_bl (nomark _)))))))))))), ?_⟩
    refine ⟨.ref tp, rfl, tp, 2, rfl, ht, by decide, by decide, fun H1 hue D1 h0 h1 => ?_⟩
    have hh : hue = 0 ∨ hue = 1 := by omega
    refine ⟨fun σ Hc => ∃ (ri : Addr), Taped tp H Hc ∧ IsRid Hc ri 3 2 (wdX hue) ∧ σ = [some (.ref tp), some (.int hue), some (.ref ri), none, none, none, none, none, none, none], ?_, ?_⟩
    · refine ⟨(by show 2 ≤ sizeLine; decide), fun t1 n1 => ?_⟩
      have s1 := same_upd (o := .tup [V.int 0, .int 2]) n1
      have e1 : upd H1 t1 (.tup [V.int 0, .int 2]) t1 = some (.tup [V.int 0, .int 2]) := upd_same
      generalize upd H1 t1 _ = G1 at s1 e1
      refine ⟨.int hue, rfl, .int hue, rfl, (by show 2 ≤ sizeLine; decide), fun t2 n2 => ?_⟩
      have s2 := same_upd (o := .tup [V.int hue, .int hue]) n2
      have e2 : upd G1 t2 (.tup [V.int hue, .int hue]) t2 = some (.tup [V.int hue, .int hue]) := upd_same
      generalize upd G1 t2 _ = G2 at s2 e2
      refine ⟨(by show 1 ≤ sizeLine; decide), fun t3 n3 => ?_⟩
      have s3 := same_upd (o := .tup [V.ref t2]) n3
      have e3 : upd G2 t3 (.tup [V.ref t2]) t3 = some (.tup [V.ref t2]) := upd_same
      generalize upd G2 t3 _ = G3 at s3 e3
      refine ⟨(by show 2 ≤ sizeLine; decide), fun t4 n4 => ?_⟩
      have s4 := same_upd (o := .tup [V.ref t1, .ref t3]) n4
      have e4 : upd G3 t4 (.tup [V.ref t1, .ref t3]) t4 = some (.tup [V.ref t1, .ref t3]) := upd_same
      generalize upd G3 t4 _ = G4 at s4 e4
      refine ⟨(by show 1 ≤ sizeLine; decide), fun t5 n5 => ?_⟩
      have s5 := same_upd (o := .tup [V.ref t4]) n5
      have e5 : upd G4 t5 (.tup [V.ref t4]) t5 = some (.tup [V.ref t4]) := upd_same
      generalize upd G4 t5 _ = G5 at s5 e5
      refine ⟨(by show 3 ≤ sizeLine; decide), fun ri n6 => ?_⟩
      have s6 := same_upd (o := .tup [V.int 3, .int 2, .ref t5]) n6
      exact ⟨ri, D1.same (s1.trans (s2.trans (s3.trans (s4.trans (s5.trans s6))))), ⟨t5, [t4], upd_same, s6 _ _ e5, .cons ⟨t1, t3, [t2], s6 _ _ (s5 _ _ e4), (s2.trans (s3.trans (s4.trans (s5.trans s6)))) _ _ e1, (s4.trans (s5.trans s6)) _ _ e3, .cons ((s3.trans (s4.trans (s5.trans s6))) _ _ e2) .nil⟩ .nil⟩, rfl⟩
    clear D1
    rintro σ H2 ⟨ri, D2, rid2, rfl⟩
    have gr := good_wdX hh
    have gs := good_tbX hh
    -- table
    refine ⟨fun σ Hc => ∃ (ta : Addr), Taped tp H Hc ∧ IsRid Hc ri 3 2 (wdX hue) ∧ IsTab (· = tp) Hc ta (tbX hue) ∧ σ = [some (.ref tp), some (.int hue), some (.ref ri), some (.ref ta), none, none, none, none, none, none], ?_, ?_⟩
    · refine rep_readI (m := 60) (i := 1) (hue := hue) (fun R r => ⟨_, rfl, r⟩) (by decide) fun G1 p1 s1 n1 e1 => ?_
      refine rep_readI (m := 10) (i := 1) (hue := 1 - hue) (fun R r => ⟨.int hue, rfl, 1, hue, rfl, rfl, r⟩) (by decide) fun G2 p2 s2 n2 e2 => ?_
      refine rep_readI (m := 10) (i := 1) (hue := hue) (fun R r => ⟨_, rfl, r⟩) (by decide) fun G3 p3 s3 n3 e3 => ?_
      refine ⟨(by show 3 ≤ sizeLine; decide), fun ta n4 => ?_⟩
      have s4 := same_upd (o := .lst [V.ref p1, .ref p2, .ref p3]) n4
      have S4 := s1.trans (s2.trans (s3.trans s4))
      refine ⟨ta, D2.same S4, rid2.mono (tups_same S4), ⟨[p1, p2, p3], upd_same, D2.2.new (s1.free (s2.free (s3.free n4))), fun d hd => ?_, .cons (s2.trans (s3.trans s4) _ _ e1) (.cons (s3.trans s4 _ _ e2) (.cons (s4 _ _ e3) .nil))⟩, rfl⟩
      simp only [List.mem_cons, List.not_mem_nil, or_false] at hd
      rcases hd with rfl | rfl | rfl
      · exact D2.2.new n1
      · exact D2.2.new (s1.free n2)
      · exact D2.2.new (s1.free (s2.free n3))
    clear D2 rid2
    rintro σ H3 ⟨ta, D3, rid3, tab3, rfl⟩
    -- floors
    refine ⟨fun σ Hc => ∃ (fd : Addr) (fl : List (List Int × Int)), Taped tp H Hc ∧ H fd = none ∧ IsRid Hc ri 3 2 (wdX hue) ∧ IsTab (· = tp) Hc ta (tbX hue) ∧ Hc fd = some (.dT (kvF fl)) ∧ FlG (tbX hue) fl ∧ fl.length ≤ 2 ∧ σ = [some (.ref tp), some (.int hue), some (.ref ri), some (.ref ta), some (.ref fd), none, none, none, none, none], ?_, ?_⟩
    · intro fd nfd
      refine ⟨(by show 3 ≤ sizeLine; decide), fun t1 n1 => ?_⟩
      have nft := D3.2.new nfd
      have nfd0 := D3.free nfd
      have Da := D3.put (o := .dT []) nfd0 nft
      have hfa := upd_same (H := H3) (a := fd) (o := .dT [])
      have ra := rid3.mono (tups_same (same_upd (o := .dT []) nfd))
      have ta_ := tab3.seqs (seqs_same (same_upd (o := .dT []) nfd))
      generalize upd H3 fd (.dT []) = Ga at Da hfa ra ta_ n1 ⊢
      have s1 := same_upd (o := .tup [V.int 0, .int 0, .int 0]) n1
      have hb := upd_same (H := Ga) (a := t1) (o := .tup [V.int 0, .int 0, .int 0])
      have Db := Da.same s1
      have hfb := s1 _ _ hfa
      have rb := ra.mono (tups_same s1)
      have tb_ := ta_.seqs (seqs_same s1)
      generalize upd Ga t1 _ = Gb at s1 hb Db hfb rb tb_
      refine ⟨.ref tp, rfl, tp, 2, rfl, Db.2, by decide, by decide, fun Gc v Dc v0 v1 => ⟨1, v, rfl, rfl, (by show 3 ≤ sizeLine; decide), fun t2 n2 => ?_⟩⟩
      have s2 := same_upd (o := .tup [V.int 1, .int 0, .int 1]) n2
      have hc := upd_same (H := Gc) (a := t2) (o := .tup [V.int 1, .int 0, .int 1])
      have n1t : t1 ≠ tp := fun z => by
        obtain ⟨_, _, e, _⟩ := Db.2
        rw [z, e] at hb
        cases hb
      have n2t : t2 ≠ tp := Dc.2.new n2
      have Dd := (Db.trans Dc).same s2
      have hbd := s2 _ _ (Dc.1 _ _ n1t hb)
      have hfd := s2 _ _ (Dc.1 _ _ nft hfb)
      have rd := (rb.mono (Dc.tups Db.2)).mono (tups_same s2)
      have td := (tb_.taped Dc).seqs (seqs_same s2)
      generalize upd Gc t2 _ = Gd at s2 hc Dd hbd hfd rd td
      refine ⟨.ref tp, rfl, tp, 2, rfl, Dd.2, by decide, by decide, fun Ge u De u0 u1 => ⟨t1, t2, keyB [0, 0, 0], keyB [1, 0, 1], rfl, rfl, De.1 _ _ nft hfd, De.1 _ _ n1t hbd, De.1 _ _ n2t hc, fd, [([0, 0, 0], 1 + v), ([1, 0, 1], u)], (Dd.trans De).put nfd0 nft, nfd0, (rd.mono (De.tups Dd.2)).mono (tups_upd fun xs e => by rw [De.1 _ _ nft hfd] at e; cases e), (td.taped De).mono fun b xs n e => by rw [upd_ne (fun y => by rw [y, De.1 _ _ nft hfd] at e; cases e)]; exact e, upd_same, ⟨?_, fun x hx => ?_⟩, Nat.le_refl _, rfl⟩⟩
      · show List.Nodup [[(0 : Int), 0, 0], [1, 0, 1]]
        decide
      · simp only [List.mem_cons, List.not_mem_nil, or_false] at hx
        rcases hx with rfl | rfl
        · exact goodK3 (by decide) (by decide) (by decide)
        · exact goodK3 (by decide) (by decide) (by decide)
    clear D3 rid3 tab3
    rintro σ H4 ⟨fd, fl, D4, nfd, rid4, tab4, hfd4, ok4, fl2, rfl⟩
    have nft : fd ≠ tp := ht.new nfd
    -- more floors
    refine ⟨.ref tp, rfl, tp, 11, rfl, D4.2, by decide, by decide, fun H5 n D5 n0 n1 => ⟨n, rfl, by omega, by omega, ?_⟩⟩
    refine for_range (lo := 0) (n := n.toNat) (fun i σ Hx => ∃ fl, Taped tp H Hx ∧ IsRid Hx ri 3 2 (wdX hue) ∧ IsTab (· = tp) Hx ta (tbX hue) ∧ Hx fd = some (.dT (kvF fl)) ∧ FlG (tbX hue) fl ∧ fl.length ≤ 2 + i ∧ ∃ y5 y6, σ = [some (.ref tp), some (.int hue), some (.ref ri), some (.ref ta), some (.ref fd), y5, y6, none, none, none]) ⟨fl, D4.trans D5, rid4.mono (D5.tups D4.2), tab4.taped D5, D5.1 _ _ nft hfd4, ok4, fl2, none, none, rfl⟩ (fun i σ Hx hi p => ?_) (fun σ Hx p => ?_)
    · obtain ⟨fl, Dx, ridx, tabx, hfx, ok, fll, y5, y6, rfl⟩ := p
      refine ⟨.ref tp, rfl, tp, 60, rfl, Dx.2, by decide, by decide, fun Ha a Da a0 a1 => ⟨.ref tp, rfl, tp, 10, rfl, Da.2, by decide, by decide, fun Hb b Db b0 b1 => ⟨.ref tp, rfl, tp, 10, rfl, Db.2, by decide, by decide, fun Hc c Dc c0 c1 => ⟨(by show 3 ≤ sizeLine; decide), fun t nt => ?_⟩⟩⟩⟩
      have D3 := (Da.trans Db).trans Dc
      have st := same_upd (o := .tup [V.int a, .int b, .int c]) nt
      have ht' := upd_same (H := Hc) (a := t) (o := .tup [V.int a, .int b, .int c])
      have ntt : t ≠ tp := Dc.2.new nt
      have De := (Dx.trans D3).same st
      have hfe := st _ _ (D3.1 _ _ nft hfx)
      have re := (ridx.mono (D3.tups Dx.2)).mono (tups_same st)
      have te := (tabx.taped D3).seqs (seqs_same st)
      generalize upd Hc t _ = He at st ht' De hfe re te
      refine ⟨.ref tp, rfl, tp, 5, rfl, De.2, by decide, by decide, fun Hg v Dg v0 v1 => ⟨2, v, rfl, rfl, .ref fd, rfl, .ref t, rfl, fd, _, rfl, DPut.t (k := keyB [a, b, c]) (Dg.1 _ _ nft hfe) (Dg.1 _ _ ntt ht') (Nat.lt_of_le_of_lt (show (kvF fl).length ≤ 1000 by unfold kvF; rw [List.length_map]; omega) (by decide)), ?_⟩⟩
      rw [kvF_putB]
      exact ⟨_, (De.trans Dg).put nfd nft, (re.mono (Dg.tups De.2)).mono (tups_upd fun xs e => by rw [Dg.1 _ _ nft hfe] at e; cases e), (te.taped Dg).mono fun b xs n e => by rw [upd_ne (fun y => by rw [y, Dg.1 _ _ nft hfe] at e; cases e)]; exact e, upd_same, ok.put (goodK3 ⟨a0, a1⟩ ⟨b0, b1⟩ ⟨c0, c1⟩) _, by have := putE_len fl [a, b, c] (2 - v); omega, _, _, rfl⟩
    clear D4 rid4 tab4 hfd4 ok4 fl2 D5
    obtain ⟨fl, D6, rid6, tab6, hf6, ok, fll, y5, y6, rfl⟩ := p
    have hT6 := D6.tabs ht hT
    have f6 := FrT.taped ht hT D6
    have nfP : ∀ {Hy : Hp}, Tabs Ps Hy → Hy fd = some (.dT (kvF fl)) → fd ∉ Ps := fun {Hy} h e z => by
      obtain ⟨ps, y, _⟩ := h fd z
      rw [e] at y
      cases y
    dsimp only
    -- handed
    refine ⟨fun σ Hc => ∃ (hA d C : Addr), Taped tp H Hc ∧ IsRid Hc ri 3 2 (wdX hue) ∧ IsTab (· = tp) Hc ta (tbX hue) ∧ Hc fd = some (.dT (kvF fl)) ∧ H d = none ∧ d ≠ fd ∧ Hc d = some (.dT (kvF fl)) ∧ Hc hA = some (.lst [.ref d, .ref C]) ∧ IsTab (fun _ => False) Hc C (tbX hue) ∧ σ = [some (.ref tp), some (.int hue), some (.ref ri), some (.ref ta), some (.ref fd), y5, y6, some (.ref hA), none, none], ?_, ?_⟩
    · refine ⟨.ref fd, rfl, fd, kvF fl, rfl, .inl hf6, ?_, fun d nd => ?_⟩
      · have y := ap_tbX (P := P) (w := w) (hue := hue) (fl.map (·.1)) ok.nd fun t ht => by
          obtain ⟨x, hx, rfl⟩ := List.mem_map.mp ht
          exact ok.good x hx
        unfold kvF
        rw [List.map_map] at y ⊢
        exact y
      have s1 := same_upd (o := .dT (kvF fl)) nd
      have hd := upd_same (H := Hx) (a := d) (o := .dT (kvF fl))
      have ndf : d ≠ fd := fun z => by rw [z, hf6] at nd; cases nd
      have nd0 := D6.free nd
      obtain ⟨das, hta, nta, nda, pr⟩ := id (tab6.seqs (seqs_same s1))
      refine ⟨.ref ta, rfl, ta, rfl, ⟨_, .inl (.inl hta)⟩, fun C nC => ?_⟩
      have dl := pairedLen pr
      have tl := gs.len
      refine copy_tab hta pr nC (by omega) (fun d ds H2 R hd r => ⟨rfl, .ref d, rfl, d, _, rfl, .inl (.inl (.inl hd)), r⟩) fun H9 cs s9 hC pc => ⟨(by show 2 ≤ sizeLine; decide), fun l nl => ?_⟩
      have s10 := same_upd (o := .lst [V.ref d, .ref C]) nl
      have S := s1.trans (s9.trans s10)
      exact ⟨l, d, C, D6.same S, rid6.mono (tups_same S), tab6.seqs (seqs_same S), S _ _ hf6, nd0, ndf, (s9.trans s10) _ _ hd, upd_same, ⟨cs, s10 _ _ hC, fun z => z, fun _ _ z => z, pairedMap (fun _ _ e => s10 _ _ e) pc⟩, rfl⟩
    clear D6 rid6 tab6 hf6 hT6 f6
    rintro σ H7 ⟨hA, d, C, D7, rid7, tab7, hf7, nd0, ndf, hd7, hA7, tabC, rfl⟩
    have hT7 := D7.tabs ht hT
    have f7 := FrT.taped ht hT D7
    have ndP : d ∉ Ps := fun z => by
      obtain ⟨ps, y, _⟩ := hT7 d z
      rw [hd7] at y
      cases y
    have ndt : d ≠ tp := ht.new nd0
    -- found
    refine ⟨.ref ri, rfl, .ref hA, rfl, hA, _, 1, .ref C, rfl, rfl, .inl (.inl hA7), atI_nat (j := 1) rfl, .ref hA, rfl, hA, _, 0, .ref d, rfl, rfl, .inl (.inl hA7), atI_nat (j := 0) rfl, ri, C, d, wdX hue, 3, 2, tbX hue, fl, rfl, rid7, gr, tabC, gs, .inl hd7, ndP, hT7, fun H8 f8 => ?_⟩
    have L8 : ∀ b xs, H7 b = some (.lst xs) → H8 b = some (.lst xs) := fun b xs e => f8.1 b _ (hT7.lst e) (fun z => by rw [z, hd7] at e; cases e) e
    have U8 : Tups H7 H8 := fun b xs e => f8.1 b _ (hT7.tup e) (fun z => by rw [z, hd7] at e; cases e) e
    have hf8 := f8.1 fd _ (nfP hT7 hf7) (Ne.symm ndf) hf7
    obtain ⟨od, hd8⟩ := f8.2.2
    have rid8 := rid7.mono U8
    have tab8 : IsTab (fun _ => False) H8 ta (tbX hue) := tab7.none.mono fun b xs _ e => L8 _ _ e
    have tabC8 : IsTab (fun _ => False) H8 C (tbX hue) := tabC.mono fun b xs _ e => L8 _ _ e
    have hA8 := L8 _ _ hA7
    have F8 : FrT tp Ps H H8 := ⟨fun b o n m e => f8.1 b o m (fun z => by rw [z, nd0] at e; cases e) (f7.keep b o n m e), by
      obtain ⟨x, y, e, r⟩ := f7.tape
      exact ⟨x, y, L8 _ _ e, r⟩, f8.2.1⟩
    rw [ok.same]
    refine ⟨.bl _, rfl, .bl _, .ty "bool", .type "bool", .type "bool", true, rfl, .ty _, .base (.bl _), kit_ty (by decide +kernel), true, rfl, iteF ?_⟩
    refine ⟨.bl _, rfl, .ref ri, rfl, .ref ta, rfl, .ref fd, rfl, ri, ta, fd, wdX hue, 3, 2, tbX hue, fl, rfl, rid8, gr, tab8, gs, hf8, ok, fun H9 s9 => ⟨rfl, false, by rw [decide_eq_true rfl]; rfl, iteF ?_⟩⟩
    refine ⟨.ref hA, rfl, .ref fd, rfl, .ref ta, rfl, (by show 2 ≤ sizeLine; decide), fun l nl => ?_⟩
    have s10 := s9.trans (same_upd (o := .lst [V.ref fd, .ref ta]) nl)
    have F10 := F8.same s10
    refine ⟨hA, l, d, fd, C, ta, kvF fl, listsD (tbX hue), rfl, rfl, .inl (.inl (s10 _ _ hA8)), .inl (.inl upd_same), .inr ⟨od, s10 _ _ hd8⟩, .inl (s10 _ _ hf8), fun kk v m => ?_, dpTab (tabC8.seqs (seqs_same s10)), dpTab (tab8.seqs (seqs_same s10)), shpLs _, by rw [eqvLs], false, rfl, iteF ?_⟩
    · obtain ⟨x, _, e⟩ := List.mem_map.mp m
      cases e
      exact ⟨_, rfl⟩
    refine ⟨.ref ri, rfl, .ref ta, rfl, fun e ne => ?_⟩
    have s11 := same_upd (o := .dT []) ne
    have s12 := s10.trans s11
    have F12 := F10.same s11
    have neP : e ∉ Ps := F10.tabs.new ne
    have he0 : H e = none := F10.free ne
    refine ⟨ri, ta, e, wdX hue, 3, 2, tbX hue, [], rfl, rid8.mono (tups_same s12), gr, tab8.seqs (seqs_same s12), gs, .inl upd_same, neP, F12.tabs, fun H13 f13 => ?_⟩
    refine ⟨true, true, rfl, rfl, q _ ⟨fun b o n m z => f13.1 b o m (fun y => by rw [y, he0] at z; cases z) (F12.keep b o n m z), ?_, f13.2.1⟩⟩
    obtain ⟨x, y, e1, r⟩ := F12.tape
    exact ⟨x, y, f13.1 tp _ (F12.tabs.lst e1) (fun z => ht.new he0 z.symm) e1, r⟩
end
end Rd

set_option autoImplicit false
set_option Elab.async false
set_option linter.all false
set_option maxRecDepth 100000
set_option maxHeartbeats 4000000
namespace Rd
open PySem PySem.Spec PyProof.Rows L2 Dt
abbrev sLaw : Stmt := topS 32
abbrev nLaw : List Str := ["script", "start", "tape", "riddle", "table", "floors", "turn", "one", "handed", "found", "taken", "draws"]
theorem scLaw : FnScope nLaw ["script"] (defScope sLaw) := ⟨rfl, rfl, rfl, by decide +kernel, rfl, by decide +kernel, by decide +kernel⟩
theorem prodL_powB {m : Nat} : ∀ {l : List Nat}, (∀ n ∈ l, n ≤ m) → prodL l ≤ m ^ l.length
  | [], _ => Nat.le_refl 1
  | n :: r, h => by
    show n * prodL r ≤ m ^ (r.length + 1)
    rw [Nat.pow_succ, Nat.mul_comm]
    exact Nat.mul_le_mul (prodL_powB fun x hx => h x (List.mem_cons_of_mem _ hx)) (h n List.mem_cons_self)
theorem FlG.few {tb : List (List Int)} {fl : List (List Int × Int)} (h : FlG tb fl) : fl.length ≤ prodL (tb.map List.length) := by
  have z := box_few h.nd fun t ht => good_box (by
    obtain ⟨x, hx, rfl⟩ := List.mem_map.mp ht
    exact h.good x hx)
  rwa [List.length_map] at z
/-- so many draws at the most, by how many places -/
def mostV (n : Nat) : Nat := if n ≤ 4 then 3 else 2
theorem ap_small {P : Program} {w : World} {tb : List (List Int)} (h1 : 1 ≤ tb.length) (h6 : tb.length ≤ 6) (h : ∀ ds ∈ tb, ds.length ≤ mostV tb.length) : ApK P w tb := by
  have box : ∀ l : List Nat, l.length = tb.length → (∀ n ∈ l, n = mostV tb.length) → ∀ t, GoodK tb t → t ∈ boxL l := fun l el hl t g => by
    refine box_mem (by rw [g.len, el]) fun p hp => ?_
    have pl : p < tb.length := by omega
    have a := g.at_ p pl
    have e : l.getD p 0 = mostV tb.length := by
      rw [List.getD_eq_getElem?_getD, List.getElem?_eq_getElem hp]
      exact hl _ (List.getElem_mem hp)
    have b := h (tb.getD p []) (by rw [List.getD_eq_getElem?_getD, List.getElem?_eq_getElem pl]; exact List.getElem_mem pl)
    rw [e]
    omega
  intro ts nd ht
  have : tb.length = 1 ∨ tb.length = 2 ∨ tb.length = 3 ∨ tb.length = 4 ∨ tb.length = 5 ∨ tb.length = 6 := by omega
  rcases this with e | e | e | e | e | e
  · exact hash_apart boxV1 nd fun t m => box _ (by rw [e]; rfl) (by rw [e]; decide) t (ht t m)
  · exact hash_apart boxV2 nd fun t m => box _ (by rw [e]; rfl) (by rw [e]; decide) t (ht t m)
  · exact hash_apart boxV3 nd fun t m => box _ (by rw [e]; rfl) (by rw [e]; decide) t (ht t m)
  · exact hash_apart boxV4 nd fun t m => box _ (by rw [e]; rfl) (by rw [e]; decide) t (ht t m)
  · exact hash_apart boxV5 nd fun t m => box _ (by rw [e]; rfl) (by rw [e]; decide) t (ht t m)
  · exact hash_apart boxV6 nd fun t m => box _ (by rw [e]; rfl) (by rw [e]; decide) t (ht t m)
theorem LI.frd {K : PySem.W.Frag} {a d : Addr} {xs : List V} {Ps : List Addr} {tp : Addr} {H H' : Hp} {kvs : List (List Key × V)} {fl : List (List Int × Int)} (L : LI K a xs Ps tp H) (hd : H d = some (.dT kvs)) (f : FrD Ps d fl H H') : LI K a xs Ps tp H' := by
  refine ⟨?_, f.2.1, ?_, L.far⟩
  · obtain ⟨x, y, e, r⟩ := L.tape
    exact ⟨x, y, f.1 _ _ (L.tabs.lst e) (fun z => by rw [z, hd] at e; cases e) e, r⟩
  · rcases L.scr with (h | ⟨o, h⟩) | h
    · exact .inl (.inl (f.1 _ _ (L.tabs.lst h) (fun z => by rw [z, hd] at h; cases h) h))
    · exact .inl (.inr ⟨o, f.1 _ _ (fun z => by obtain ⟨ps, q, _⟩ := L.tabs a z; rw [h] at q; cases q) (fun z => by rw [z, hd] at h; cases h) h⟩)
    · exact .inr h
def IsPK (H : Hp) (p : Addr) (kv : List Key × V) : Prop := ∃ b, H b = some (.tup (kv.1.map kV)) ∧ H p = some (.tup [.ref b, kv.2])
theorem IsPK.mono {H H' : Hp} {p : Addr} {kv : List Key × V} (t : Tups H H') (h : IsPK H p kv) : IsPK H' p kv := let ⟨b, e1, e2⟩ := h; ⟨b, t _ _ e1, t _ _ e2⟩
structure TxtL (P : Program) (w : World) (K : PySem.W.Frag) (mg : Str → Option Value) (base : Heap) (Ps : List Addr) : Prop where
  m_len : mg "len" = none
  m_range : mg "range" = none
  m_max : mg "max" = none
  m_min : mg "min" = none
  m_list : mg "list" = none
  m_dict : mg "dict" = none
  m_bool : mg "bool" = none
  m_isinstance : mg "isinstance" = none
  c__law_tape : Cal P w K mg base 1 "_law_tape" ["script", "start"] (spTap K)
  c__law_digit : Cal P w K mg base 1 "_law_digit" ["tape", "many"] spDig
  c__law_riddle : Cal P w K mg base 3 "_law_riddle" ["tape", "small"] spRid
  c__law_table : Cal P w K mg base 2 "_law_table" ["tape", "riddle", "most"] spTab
  c__law_wide_right : Cal P w K mg base 11 "_law_wide_right" ["tape"] (spWiX Ps)
  c__law_made : Cal P w K mg base 4 "_law_made" ["riddle", "table", "most"] spLmd
  c__law_bent : Cal P w K mg base 2 "_law_bent" ["tape", "table", "floors"] (spBnt P w)
  c__law_drawn : Cal P w K mg base 2 "_law_drawn" ["tape", "table"] spLdn
  c__law_due : Cal P w K mg base 3 "_law_due" ["riddle", "table", "floors"] spDuB
  c_are_floors : Cal P w K mg base 10 "are_floors" ["riddle", "table", "floors"] (spArf Ps)
set_option maxHeartbeats 16000000 in
theorem body_law {P : Program} {w : World} {K : PySem.W.Frag} {mg : Str → Option Value} {base : Heap} {Ps : List Addr} {fa : Addr} {cdv : Value} {callerA : Around} {s : Shared} {H : Hp} {a : Addr} {ns : List Int} (T : TxtL P w K mg base Ps) (hl : ns.length ≤ 63) (hT : Tabs Ps H) (hS : SqL K H a (ns.map V.int))
    (hr : Room 11 (callerA.deeper (envOfC (Str.ofString "law") (defScope sLaw) s.heap.objs.size fa cdv))) :
    ∃ t, PSs (cxOf CX0 P w K mg base nLaw (Str.ofString "law") (defScope sLaw) fa cdv callerA [] s H (fun _ _ _ => False)).nox (defBody sLaw) t ∧ t { nx := fun _ _ => False, rt := fun v _ => v = .bl true } (start nLaw [.ref a]) H := by
  refine ⟨_, (pss_cons (ps_for PassesOwn.never rfl (pi_range1 (by rfl) T.m_range (pa_cons (pe_callB (call_max2 rfl) (by rfl) T.m_max (by decide +kernel) (pa_cons pe_int (pa_cons (pe_callB (call_min2 rfl) (by rfl) T.m_min (by decide +kernel) (pa_cons pe_int (pa_cons (pe_callB call_len_seq (by rfl) T.m_len (by decide +kernel) (pa_cons (pv 0) pa_nil)) pa_nil))) pa_nil))) pa_nil)) (pg_name (i := 1) scLaw.nd rfl (Or.inl rfl))
  (pss_cons (ps_set (i := 2) scLaw.nd rfl (Or.inl rfl) (pe_cal T.c__law_tape (hr.mono (by omega)) (by rfl) (pa_cons (pv 0) (pa_cons (pv 1) pa_nil))))
  (pss_cons (ps_set (i := 3) scLaw.nd rfl (Or.inl rfl) (pe_cal T.c__law_riddle (hr.mono (by omega)) (by rfl) (pa_cons (pv 2) (pa_cons (pe_cmpR op_eq (pe_cal T.c__law_digit (hr.mono (by omega)) (by rfl) (pa_cons (pv 2) (pa_cons pe_int pa_nil))) pe_int (nomark _)) pa_nil))))
  (C8.pss_cut (ps_set (i := 4) scLaw.nd rfl (Or.inl rfl) (pe_cal T.c__law_table (hr.mono (by omega)) (by rfl) (pa_cons (pv 2) (pa_cons (pv 3) (pa_cons (pe_ix ix_list (pe_lst (pa_cons pe_int (pa_cons pe_int (pa_cons pe_int (pa_cons pe_int (pa_cons pe_int (pa_cons pe_int (pa_cons pe_int pa_nil)))))))) (pe_ix ix_tup (pv 3) pe_int (fun _ _ => rfl)) (fun _ _ => rfl)) pa_nil)))))
  (C8.pss_cut (ps_if (pt_not (pt_val (pe_cal T.c__law_wide_right (hr.mono (by omega)) (by rfl) (pa_cons (pv 2) pa_nil))))
  (pss_one (ps_ret pe_bl)) pss_nil)
  (C8.pss_cut (ps_set (i := 5) scLaw.nd rfl (Or.inr rfl) (pe_cal T.c__law_made (hr.mono (by omega)) (by rfl) (pa_cons (pv 3) (pa_cons (pv 4) (pa_cons (pe_cal T.c__law_digit (hr.mono (by omega)) (by rfl) (pa_cons (pv 2) (pa_cons pe_int pa_nil))) pa_nil)))))
  (pss_one (ps_for PassesOwn.never rfl (pi_range1 (by rfl) T.m_range (pa_cons pe_int pa_nil)) (pg_name (i := 6) scLaw.nd rfl (Or.inl rfl))
  (pss_cons (ps_set (i := 7) scLaw.nd rfl (Or.inl rfl) (pv 5))
  (C8.pss_cut (ps_if (pt_cmpR op_gt (pv 6) pe_int (nomark _))
  (pss_one (ps_set (i := 7) scLaw.nd rfl (Or.inl rfl) (pe_cal T.c__law_bent (hr.mono (by omega)) (by rfl) (pa_cons (pv 2) (pa_cons (pv 4) (pa_cons (pv 5) pa_nil)))))) pss_nil)
  (C8.pss_cut (ps_if (pt_cmpR op_gt (pv 6) pe_int (nomark _))
  (pss_one (ps_set (i := 7) scLaw.nd rfl (Or.inl rfl) (pe_cal T.c__law_bent (hr.mono (by omega)) (by rfl) (pa_cons (pv 2) (pa_cons (pv 4) (pa_cons (pe_orD (pv 7) (pe_one (pv 5))) pa_nil)))))) pss_nil)
  (C8.pss_cut (ps_if (pt_cmpR op_eq (pv 6) pe_int (nomark _))
  (pss_one (ps_lock (ps_set (i := 7) scLaw.nd rfl (Or.inl rfl) (pe_callTy (call_dictPT rfl (hu8_of hr)) (by rfl) T.m_dict (by decide +kernel) (pa_cons (pe_lc (te := tTup (tCons (tVar 10) (tCons (tOp (rI0 fun i j => .int (i + j)) (tDGet (tVar 5) (tVar 10)) (tC (.int 1))) tNil))) (own := [("taken", 10)]) rfl scLaw.nd  (pi_keysE (pv 5)) (blkOk_by (own := [("taken", 10)]) (N := nLaw) (sc := defScope sLaw) (by decide +kernel))
   (fun _ _ _ _ _ => (pg_name (i := 10) scLaw.nd rfl (Or.inl rfl))) (fun _ _ _ _ _ => pts_nil) (fun _ _ _ _ _ => (pe_tup (pa_cons (pv 10) (pa_cons (pe_op op_add (pe_dget (hu_of hr) (pv 5) (pv 10) (fun _ _ => rfl)) pe_int) pa_nil))))) pa_nil))))) pss_nil)
  (C8.pss_cut (ps_if (pt_cmpR op_eq (pv 6) pe_int (nomark _))
  (pss_one (ps_set (i := 7) scLaw.nd rfl (Or.inl rfl) (pe_cal T.c__law_drawn (hr.mono (by omega)) (by rfl) (pa_cons (pv 2) (pa_cons (pv 4) pa_nil))))) pss_nil)
  (C8.pss_cut (ps_set (i := 8) scLaw.nd rfl (Or.inl rfl) (pe_lst (pa_cons (pe_callTy (call_dictDT (hu8_of hr)) (by rfl) T.m_dict (by decide +kernel) (pa_cons (pv 7) pa_nil)) (pa_cons (pe_lc (te := tCB (rListO K) (tCons (tVar 11) tNil)) (own := [("draws", 11)]) rfl scLaw.nd  (pi_list (pv 4)) (blkOk_by (own := [("draws", 11)]) (N := nLaw) (sc := defScope sLaw) (by decide +kernel))
   (fun _ _ _ _ _ => (pg_name (i := 11) scLaw.nd rfl (Or.inl rfl))) (fun _ _ _ _ _ => pts_nil) (fun _ _ _ _ _ => (pe_callTy call_list_of (by rfl) T.m_list (by decide +kernel) (pa_cons (pv 11) pa_nil)))) pa_nil))))
  (pss_cons (ps_set (i := 9) scLaw.nd rfl (Or.inl rfl) (pe_cal T.c_are_floors (hr.mono (by omega)) (by rfl) (pa_cons (pv 3) (pa_cons (pe_ix ix_list (pv 8) pe_int (fun _ _ => rfl)) (pa_cons (pe_ix ix_list (pv 8) pe_int (fun _ _ => rfl)) pa_nil)))))
  (pss_one (ps_if (PW.pt (pw_or (pt_not (pt_val (pe_callB call_isi (by rfl) T.m_isinstance (by decide +kernel) (pa_cons (pv 9) (pa_cons (pe_bltn (v := .ty "bool") (by rfl) T.m_bool (by decide +kernel) rfl) pa_nil))))) (pw_or (pt_cmpR op_ne (pv 9) (pe_cal T.c__law_due (hr.mono (by omega)) (by rfl) (pa_cons (pv 3) (pa_cons (pv 4) (pa_cons (pv 7) pa_nil)))) (nomark _)) (pw_or1 (pt_cmpR (op_neDT (units70 hr)) (pv 8) (pe_lst (pa_cons (pv 7) (pa_cons (pv 4) pa_nil))) (nomark _))))))
  (pss_one (ps_ret pe_bl)) pss_nil)))))))))))))))))
  (pss_one (ps_ret pe_bl))), ?_⟩
  refine ⟨.ref a, rfl, a, _, rfl, .inl hS, 2, _, rfl, 1, _, rfl, ?_⟩
  rw [List.length_map]
  obtain ⟨c1, c5⟩ : 1 ≤ (if (if (ns.length : Int) < 2 then (ns.length : Int) else 2) > 1 then (if (ns.length : Int) < 2 then (ns.length : Int) else 2) else 1) ∧ (if (if (ns.length : Int) < 2 then (ns.length : Int) else 2) > 1 then (if (ns.length : Int) < 2 then (ns.length : Int) else 2) else 1) ≤ 2 := by split <;> split <;> omega
  generalize (if (if (ns.length : Int) < 2 then (ns.length : Int) else 2) > 1 then (if (ns.length : Int) < 2 then (ns.length : Int) else 2) else 1) = cells at c1 c5
  refine ⟨cells, rfl, by omega, by omega, for_range (lo := 0) (n := cells.toNat) (fun i σ H2 => Tabs Ps H2 ∧ SqL K H2 a (ns.map V.int) ∧ ∃ y1 y2 y3 y4 y5 y6 y7 y8 y9, σ = [some (.ref a), y1, y2, y3, y4, y5, y6, y7, y8, y9, none, none]) ⟨hT, hS, none, none, none, none, none, none, none, none, none, rfl⟩ (fun i σ H2 hi p => ?_) (fun σ H2 p => ?_)⟩
  · obtain ⟨hT2, hS2, y1, y2, y3, y4, y5, y6, y7, y8, y9, rfl⟩ := p
    -- tape
    refine ⟨.ref a, rfl, .int (0 + (i : Int)), rfl, a, ns, _, rfl, hS2, hl, by omega, by omega, fun H3 tp s3 ntp tp3 => ?_⟩
    have L3 : LI K a (ns.map V.int) Ps tp H3 := ⟨tp3, hT2.same s3, sq_keep hS2 (s3 a), fun e H' => sq_new hS2 ntp e H'⟩
    -- riddle
    refine ⟨.ref tp, rfl, .ref tp, rfl, tp, 2, rfl, tp3, by decide, by decide, fun H4 d D4 _ _ => ⟨rfl, ?_⟩⟩
    have L4 := L3.taped D4
    refine ⟨tp, _, rfl, L4.tape, fun H5 ri many hues wds D5 rid gr neat sz => ?_⟩
    have L5 := L4.taped D5
    obtain ⟨m1, m6, h2, h4, _⟩ := id sz
    dsimp only at m1 m6 h2 h4
    clear hT2 hS2 hT hS s3 ntp tp3 L3 L4 D4 D5 neat sz
    -- table
    obtain ⟨wt, was, r1, r2, r3⟩ := id rid
    refine ⟨fun σ Hc => ∃ (ta : Addr) (tb : List (List Int)), LI K a (ns.map V.int) Ps tp Hc ∧ IsRid Hc ri many hues wds ∧ IsTab (· = tp) Hc ta tb ∧ GoodS many hues tb ∧ (∀ ds ∈ tb, ds.length ≤ mostV many.toNat) ∧ σ = [some (.ref a), some (.int (0 + (i : Int))), some (.ref tp), some (.ref ri), some (.ref ta), y5, y6, y7, y8, y9, none, none], ?_, ?_⟩
    · refine ⟨.ref tp, rfl, .ref ri, rfl, (by show 7 ≤ sizeLine; decide), fun l7 nl7 => ?_⟩
      have s7 := same_upd (o := .lst [V.int 3, .int 3, .int 3, .int 3, .int 3, .int 2, .int 2]) nl7
      have L7 := L5.same s7
      obtain ⟨mo, hmo, mo1, mo2, mp⟩ : ∃ mo, atI [V.int 3, .int 3, .int 3, .int 3, .int 3, .int 2, .int 2] many = some (.int mo) ∧ 1 ≤ mo ∧ mo ≤ 900 ∧ mo ≤ (mostV many.toNat : Int) := by
        have : many = 1 ∨ many = 2 ∨ many = 3 ∨ many = 4 ∨ many = 5 ∨ many = 6 := by omega
        rcases this with rfl | rfl | rfl | rfl | rfl | rfl
        · exact ⟨3, rfl, by decide, by decide, by decide⟩
        · exact ⟨3, rfl, by decide, by decide, by decide⟩
        · exact ⟨3, rfl, by decide, by decide, by decide⟩
        · exact ⟨3, rfl, by decide, by decide, by decide⟩
        · exact ⟨2, rfl, by decide, by decide, by decide⟩
        · exact ⟨2, rfl, by decide, by decide, by decide⟩
      refine ⟨.ref ri, rfl, ri, _, 0, .int many, rfl, rfl, .inl (.inl (s7 _ _ r1)), atI_nat (j := 0) rfl, l7, _, many, .int mo, rfl, rfl, .inl (.inl upd_same), hmo, tp, ri, many, hues, mo, _, rfl, L7.tape, s7 _ _ r1, m1, m6, h2, h4, mo1, mo2, fun H8 ta tb D8 tab8 gt le => ?_⟩
      exact ⟨ta, tb, L7.taped D8, (rid.mono (tups_same s7)).mono (D8.tups L7.tape), tab8.weak L7.tape.old, ⟨gt.len, gt.one, gt.hue⟩, fun ds hd => by have := le ds hd; omega, rfl⟩
    clear r1 r2 r3 L5 rid
    rintro σ H6 ⟨ta, tb, L6, rid6, tab6, gs, le, rfl⟩
    have gl := gs.len
    have tN : many.toNat = tb.length := by omega
    rw [tN] at le
    have ap : ApK P w tb := ap_small (by omega) (by omega) le
    have brief : Brief tb := fun ds hd => ⟨gs.one ds hd, by
      have := le ds hd
      have : mostV tb.length ≤ 3 := by unfold mostV; split <;> omega
      omega⟩
    have small : prodL (tb.map List.length) ≤ 729 := by
      refine Nat.le_trans (prodL_powB (m := mostV tb.length) fun n hn => ?_) ?_
      · obtain ⟨ds, hds, rfl⟩ := List.mem_map.mp hn
        exact le ds hds
      · rw [List.length_map]
        have : tb.length = 1 ∨ tb.length = 2 ∨ tb.length = 3 ∨ tb.length = 4 ∨ tb.length = 5 ∨ tb.length = 6 := by omega
        rcases this with e | e | e | e | e | e <;> rw [e] <;> decide
    -- wide
    refine ⟨fun σ Hc => LI K a (ns.map V.int) Ps tp Hc ∧ IsRid Hc ri many hues wds ∧ IsTab (· = tp) Hc ta tb ∧ σ = [some (.ref a), some (.int (0 + (i : Int))), some (.ref tp), some (.ref ri), some (.ref ta), y5, y6, y7, y8, y9, none, none], ?_, ?_⟩
    · exact ⟨.ref tp, rfl, tp, rfl, L6.tape, L6.tabs, fun H7 f7 => ⟨true, rfl, iteF ⟨L6.frt f7, rid6.mono (f7.tups L6.tape L6.tabs), tab6.frt L6.tabs f7, rfl⟩⟩⟩
    clear L6 rid6 tab6
    rintro σ H7 ⟨L7, rid7, tab7, rfl⟩
    -- floors
    refine ⟨fun σ Hc => ∃ (ff : Addr) (fl : List (List Int × Int)), LI K a (ns.map V.int) Ps tp Hc ∧ IsRid Hc ri many hues wds ∧ IsTab (· = tp) Hc ta tb ∧ Hc ff = some (.dT (kvF fl)) ∧ FlG tb fl ∧ fl ≠ [] ∧ σ = [some (.ref a), some (.int (0 + (i : Int))), some (.ref tp), some (.ref ri), some (.ref ta), some (.ref ff), y6, y7, y8, y9, none, none], ?_, ?_⟩
    · refine ⟨.ref ri, rfl, .ref ta, rfl, .ref tp, rfl, tp, 12, rfl, L7.tape, by decide, by decide, fun H8 most D8 _ _ => ?_⟩
      have L8 := L7.taped D8
      have rid8 := rid7.mono (D8.tups L7.tape)
      have tab8 := tab7.taped D8
      exact ⟨ri, ta, most, wds, many, hues, tb, rfl, rid8, gr, tab8.none, gs, by omega, fun H9 ff fl s9 nff hff ok ne => ⟨ff, fl, L8.same s9, rid8.mono (tups_same s9), tab8.seqs (seqs_same s9), hff, ok, ne, rfl⟩⟩
    clear L7 rid7 tab7
    rintro σ H8 ⟨ff, fl, L8, rid8, tab8, hff8, ok, ne, rfl⟩
    have few := Nat.le_trans ok.few small
    -- eight turns
    refine ⟨8, rfl, by decide, by decide, ?_⟩
    refine for_range (lo := 0) (n := 8) (fun j σ Hc => LI K a (ns.map V.int) Ps tp Hc ∧ IsRid Hc ri many hues wds ∧ IsTab (· = tp) Hc ta tb ∧ Hc ff = some (.dT (kvF fl)) ∧ ∃ y6 y7 y8 y9, σ = [some (.ref a), some (.int (0 + (i : Int))), some (.ref tp), some (.ref ri), some (.ref ta), some (.ref ff), y6, y7, y8, y9, none, none]) ⟨L8, rid8, tab8, hff8, _, _, _, _, rfl⟩ (fun j σ Hc hj p => ?_) (fun σ Hc p => ?_)
    · clear L8 rid8 tab8 hff8
      obtain ⟨L8, rid8, tab8, hff8, y6, y7, y8, y9, rfl⟩ := p
      have t1 : 1 ≤ tb.length := by omega
      have t9 : tb.length ≤ 999 := by omega
      -- what is handed in
      let Mid : L2.St → Hp → Prop := fun σ Hx => ∃ (oA : Addr) (ol : List (List Int × Int)), (LI K a (ns.map V.int) Ps tp Hx ∧ IsRid Hx ri many hues wds ∧ IsTab (· = tp) Hx ta tb ∧ Hx ff = some (.dT (kvF fl))) ∧ Hx oA = some (.dT (kvF ol)) ∧ FlG tb ol ∧ σ = [some (.ref a), some (.int (0 + (i : Int))), some (.ref tp), some (.ref ri), some (.ref ta), some (.ref ff), some (.int (0 + (j : Int))), some (.ref oA), y8, y9, none, none]
      have taped : ∀ {Hx Hy : Hp}, (LI K a (ns.map V.int) Ps tp Hx ∧ IsRid Hx ri many hues wds ∧ IsTab (· = tp) Hx ta tb ∧ Hx ff = some (.dT (kvF fl))) → Taped tp Hx Hy → (LI K a (ns.map V.int) Ps tp Hy ∧ IsRid Hy ri many hues wds ∧ IsTab (· = tp) Hy ta tb ∧ Hy ff = some (.dT (kvF fl))) := fun {Hx Hy} ⟨L, r, t, h⟩ D => ⟨L.taped D, r.mono (D.tups L.tape), t.taped D, D.1 _ _ (fun z => by
        obtain ⟨_, _, e, _⟩ := L.tape
        rw [z, e] at h
        cases h) h⟩
      have same : ∀ {Hx Hy : Hp}, (LI K a (ns.map V.int) Ps tp Hx ∧ IsRid Hx ri many hues wds ∧ IsTab (· = tp) Hx ta tb ∧ Hx ff = some (.dT (kvF fl))) → Same Hx Hy → (LI K a (ns.map V.int) Ps tp Hy ∧ IsRid Hy ri many hues wds ∧ IsTab (· = tp) Hy ta tb ∧ Hy ff = some (.dT (kvF fl))) := fun {Hx Hy} ⟨L, r, t, h⟩ D => ⟨L.same D, r.mono (tups_same D), t.seqs (seqs_same D), D _ _ h⟩
      refine ⟨.ref ff, rfl, Mid, ?_, ?_⟩
      · refine ⟨.int (0 + (j : Int)), rfl, _, _, rfl, rfl, _, rfl, ite2 (fun c => ?_) (fun c => ?_)⟩
        · exact ⟨.ref tp, rfl, .ref ta, rfl, .ref ff, rfl, tp, ta, ff, tb, fl, rfl, L8.tape, tab8, t1, t9, brief, ap, .inl hff8, ok, ne, by omega, fun H9 d fl' D9 nd hd ok' _ => ⟨d, fl', taped ⟨L8, rid8, tab8, hff8⟩ D9, hd, ok', rfl⟩⟩
        · exact ⟨ff, fl, ⟨L8, rid8, tab8, hff8⟩, hff8, ok, rfl⟩
      clear L8 rid8 tab8 hff8
      rintro σ H8 ⟨oA, ol, I8, ho8, oko, rfl⟩
      refine ⟨Mid, ?_, ?_⟩
      · refine ⟨.int (0 + (j : Int)), rfl, _, _, rfl, rfl, _, rfl, ite2 (fun c => ?_) (fun c => ?_)⟩
        · refine ⟨.ref tp, rfl, .ref ta, rfl, .ref oA, rfl, oA, kvF ol, rfl, .inl ho8, ?_⟩
          have fewo := Nat.le_trans oko.few small
          cases ol with
          | nil => exact ⟨.ref ff, rfl, tp, ta, ff, tb, fl, rfl, I8.1.tape, I8.2.2.1, t1, t9, brief, ap, .inl I8.2.2.2, ok, ne, by omega, fun H9 d fl' D9 nd hd ok' _ => ⟨d, fl', taped I8 D9, hd, ok', rfl⟩⟩
          | cons x r => exact ⟨tp, ta, oA, tb, x :: r, rfl, I8.1.tape, I8.2.2.1, t1, t9, brief, ap, .inl ho8, oko, (fun z => nomatch z), by omega, fun H9 d fl' D9 nd hd ok' _ => ⟨d, fl', taped I8 D9, hd, ok', rfl⟩⟩
        · exact ⟨oA, ol, I8, ho8, oko, rfl⟩
      clear I8 ho8 oko ol oA H8
      rintro σ H8 ⟨oA, ol, I8, ho8, oko, rfl⟩
      refine ⟨Mid, ?_, ?_⟩
      · refine ⟨.int (0 + (j : Int)), rfl, rfl, _, rfl, ite2 (fun c => ?_) (fun c => ?_)⟩
        · have hff := I8.2.2.2
          refine ⟨ff, _, hff, trivial, fun od => ?_⟩
          have K0 : ∀ b o, b ≠ ff → H8 b = some o → upd H8 ff (.frz od (.dT (kvF fl))) b = some o := fun b o n e => by rw [upd_ne n]; exact e
          have hd1 := upd_same (H := H8) (a := ff) (o := .frz od (.dT (kvF fl)))
          generalize upd H8 ff (.frz od (.dT (kvF fl))) = H9 at K0 hd1 ⊢
          refine ⟨.ref ff, rfl, ff, _, rfl, hd1, .inr ⟨ff, od, rfl, .inr ⟨kvF fl, hd1, fun C nC => ?_⟩⟩⟩
          refine lc_keysT (d := ff) (o := od) (kvs := kvF fl) (fun i Hm => Same H9 Hm ∧ ∃ ps : List Addr, Hm C = some (.lst (ps.map V.ref)) ∧ Paired (IsPK Hm) ps ((kvF (fl.map fun x => (x.1, x.2 + 1))).take i) ∧ ps.length = i) ⟨same_upd nC, [], upd_same, .nil, rfl⟩ (fun i Hm _ p => p.1 _ _ hd1) (fun i kk v q Hm ex hq p => ?_) (fun Hm p => ?_)
          · obtain ⟨sm, ps, hC, pp, pl⟩ := p
            have il : i < (kvF fl).length := (List.getElem?_eq_some_iff.mp ex).1
            unfold kvF at ex il
            rw [List.length_map] at il
            rw [List.getElem?_map] at ex
            obtain ⟨x, hx, e⟩ := Option.map_eq_some_iff.mp ex
            cases e
            have xm := List.mem_of_getElem? hx
            have dg : DGet Hm ff (.ref q) (some (.int x.2)) := .inr ⟨kvF fl, keyB x.1, q, .inr ⟨od, sm _ _ hd1⟩, rfl, hq, by rw [kvF_val, if_pos (List.mem_map.mpr ⟨x, xm, rfl⟩), valF_mem ok.nd xm]⟩
            refine ⟨rfl, yes_if ⟨.ref q, rfl, .ref ff, rfl, .ref q, rfl, ff, .int x.2, rfl, dg, x.2, 1, rfl, rfl, (by show 2 ≤ sizeLine; decide), fun t nt => ?_⟩⟩
            have st := same_upd (o := .tup [V.ref q, .int (x.2 + 1)]) nt
            have ht := upd_same (H := Hm) (a := t) (o := .tup [V.ref q, .int (x.2 + 1)])
            have hCt := st _ _ hC
            have hqt := st _ _ hq
            have ppt := pairedMap (fun _ _ (e : IsPK Hm _ _) => e.mono (tups_same st)) pp
            generalize upd Hm t (.tup [V.ref q, .int (x.2 + 1)]) = Ht at st ht hCt hqt ppt
            have tuC : Tups Ht (upd Ht C (.lst (ps.map V.ref ++ [V.ref t]))) := tups_upd fun xs e => by rw [hCt] at e; cases e
            refine ⟨_, hCt, by rw [List.length_map]; exact Nat.lt_of_le_of_lt (show ps.length ≤ 5000 by omega) (by decide), same_put (sm.trans st) nC, ps ++ [t], by rw [upd_same, List.map_append]; rfl, ?_, by rw [List.length_append, pl]; rfl⟩
            have e2 : (kvF (fl.map fun x => (x.1, x.2 + 1)))[i]? = some (keyB x.1, .int (x.2 + 1)) := by
              unfold kvF
              rw [List.getElem?_map, List.getElem?_map, hx]
              rfl
            rw [take_snoc e2]
            exact pairedSnoc (pairedMap (fun _ _ (e : IsPK Ht _ _) => e.mono tuC) ppt) ⟨q, tuC _ _ hqt, tuC _ _ ht⟩
          · obtain ⟨sm, ps, hC, pp, pl⟩ := p
            have kl : (kvF (fl.map fun x => (x.1, x.2 + 1))).length = (kvF fl).length := by unfold kvF; rw [List.length_map, List.length_map, List.length_map]
            rw [← kl, List.take_length] at pp
            have ok2 : FlG tb (fl.map fun x => (x.1, x.2 + 1)) := by
              refine ⟨?_, fun x hx => ?_⟩
              · rw [List.map_map]
                exact ok.nd
              · obtain ⟨y, hy, rfl⟩ := List.mem_map.mp hx
                exact ok.good y hy
            have mg : mergeT [] (kvF (fl.map fun x => (x.1, x.2 + 1))) = kvF (fl.map fun x => (x.1, x.2 + 1)) := by
              refine mergeT_new ?_
              rw [List.nil_append]
              unfold kvF
              rw [List.map_map]
              have := keyB_nodup ok2.nd
              rw [List.map_map] at this
              exact this
            refine ⟨C, ps, _, rfl, .inl (.inl hC), pp, fun p np => ?_⟩
            rw [mg]
            have s2 := same_upd (o := .dT (kvF (fl.map fun x => (x.1, x.2 + 1)))) np
            have pf : p ≠ ff := fun z => by rw [z, sm _ _ hd1] at np; cases np
            refine ⟨s2 _ _ (sm _ _ hd1), p, _, same I8 (fun b o e => ?_), by rw [upd_ne pf]; exact upd_same, ok2, rfl⟩
            by_cases c : b = ff
            · subst c
              rw [hff] at e
              cases e
              exact upd_same
            · rw [upd_ne c]
              exact s2 _ _ (sm _ _ (K0 b o c e))
        · exact ⟨oA, ol, I8, ho8, oko, rfl⟩
      clear I8 ho8 oko ol oA H8
      rintro σ H8 ⟨oA, ol, I8, ho8, oko, rfl⟩
      refine ⟨Mid, ?_, ?_⟩
      · refine ⟨.int (0 + (j : Int)), rfl, rfl, _, rfl, ite2 (fun c => ?_) (fun c => ?_)⟩
        · exact ⟨.ref tp, rfl, .ref ta, rfl, tp, ta, tb, rfl, I8.1.tape, I8.2.2.1, t9, brief, fun H9 d fl' D9 nd hd ok' _ => ⟨d, fl', taped I8 D9, hd, ok', rfl⟩⟩
        · exact ⟨oA, ol, I8, ho8, oko, rfl⟩
      clear I8 ho8 oko ol oA H8
      rintro σ H8 ⟨oA, ol, ⟨L8, rid8, tab8, hff8⟩, ho8, oko, rfl⟩
      clear taped same Mid
      -- handed
      refine ⟨fun σ Hx => ∃ (hA d C : Addr), LI K a (ns.map V.int) Ps tp Hx ∧ IsRid Hx ri many hues wds ∧ IsTab (· = tp) Hx ta tb ∧ Hx ff = some (.dT (kvF fl)) ∧ Hx oA = some (.dT (kvF ol)) ∧ d ≠ ff ∧ d ≠ oA ∧ d ≠ tp ∧ Hx d = some (.dT (kvF ol)) ∧ Hx hA = some (.lst [.ref d, .ref C]) ∧ IsTab (fun _ => False) Hx C tb ∧ σ = [some (.ref a), some (.int (0 + (i : Int))), some (.ref tp), some (.ref ri), some (.ref ta), some (.ref ff), some (.int (0 + (j : Int))), some (.ref oA), some (.ref hA), y9, none, none], ?_, ?_⟩
      · refine ⟨.ref oA, rfl, oA, kvF ol, rfl, .inl ho8, ?_, fun d nd => ?_⟩
        · have y := ap (ol.map (·.1)) oko.nd fun t ht => by
            obtain ⟨x, hx, rfl⟩ := List.mem_map.mp ht
            exact oko.good x hx
          unfold kvF
          rw [List.map_map] at y ⊢
          exact y
        have s1 := same_upd (o := .dT (kvF ol)) nd
        have hd := upd_same (H := H8) (a := d) (o := .dT (kvF ol))
        have ndo : d ≠ oA := fun z => by rw [z, ho8] at nd; cases nd
        have ndf : d ≠ ff := fun z => by rw [z, hff8] at nd; cases nd
        have ndt := L8.tape.new nd
        obtain ⟨das, hta, nta, nda, pr⟩ := id (tab8.seqs (seqs_same s1))
        refine ⟨.ref ta, rfl, ta, rfl, ⟨_, .inl (.inl hta)⟩, fun C nC => ?_⟩
        have dl := pairedLen pr
        refine copy_tab hta pr nC (by omega) (fun d ds H2 R hd r => ⟨rfl, .ref d, rfl, d, _, rfl, .inl (.inl (.inl hd)), r⟩) fun H9 cs s9 hC pc => ⟨(by show 2 ≤ sizeLine; decide), fun l nl => ?_⟩
        have s10 := same_upd (o := .lst [V.ref d, .ref C]) nl
        have S := s1.trans (s9.trans s10)
        exact ⟨l, d, C, L8.same S, rid8.mono (tups_same S), tab8.seqs (seqs_same S), S _ _ hff8, S _ _ ho8, ndf, ndo, ndt, (s9.trans s10) _ _ hd, upd_same, ⟨cs, s10 _ _ hC, fun z => z, fun _ _ z => z, pairedMap (fun _ _ e => s10 _ _ e) pc⟩, rfl⟩
      clear L8 rid8 tab8 hff8 ho8
      rintro σ H7 ⟨hA, d, C, L7, rid7, tab7, hff7, ho7, ndf, ndo, ndt, hd7, hA7, tabC, rfl⟩
      have hT7 := L7.tabs
      have nP : ∀ {b : Addr} {kvs : List (List Key × V)}, H7 b = some (.dT kvs) → b ∉ Ps := fun {b kvs} e z => by
        obtain ⟨ps, y, _⟩ := hT7 b z
        rw [e] at y
        cases y
      -- found
      refine ⟨.ref ri, rfl, .ref hA, rfl, hA, _, 1, .ref C, rfl, rfl, .inl (.inl hA7), atI_nat (j := 1) rfl, .ref hA, rfl, hA, _, 0, .ref d, rfl, rfl, .inl (.inl hA7), atI_nat (j := 0) rfl, ri, C, d, wds, many, hues, tb, ol, rfl, rid7, gr, tabC, gs, .inl hd7, nP hd7, hT7, fun H8 f8 => ?_⟩
      have Ls8 : ∀ b xs, H7 b = some (.lst xs) → H8 b = some (.lst xs) := fun b xs e => f8.1 b _ (hT7.lst e) (fun z => by rw [z, hd7] at e; cases e) e
      have U8 : Tups H7 H8 := fun b xs e => f8.1 b _ (hT7.tup e) (fun z => by rw [z, hd7] at e; cases e) e
      have ho8 := f8.1 oA _ (nP ho7) (Ne.symm ndo) ho7
      have hff8 := f8.1 ff _ (nP hff7) (Ne.symm ndf) hff7
      obtain ⟨od, hd8⟩ := f8.2.2
      have rid8 := rid7.mono U8
      have tab8 : IsTab (· = tp) H8 ta tb := tab7.mono fun b xs _ e => Ls8 _ _ e
      have tabC8 : IsTab (fun _ => False) H8 C tb := tabC.mono fun b xs _ e => Ls8 _ _ e
      have hA8 := Ls8 _ _ hA7
      have L8 := L7.frd hd7 f8
      rw [oko.same]
      refine ⟨.bl _, rfl, .bl _, .ty "bool", .type "bool", .type "bool", true, rfl, .ty _, .base (.bl _), kit_ty (by decide +kernel), true, rfl, iteF ?_⟩
      refine ⟨.bl _, rfl, .ref ri, rfl, .ref ta, rfl, .ref oA, rfl, ri, ta, oA, wds, many, hues, tb, ol, rfl, rid8, gr, tab8.none, gs, ho8, oko, fun H9 s9 => ⟨rfl, false, by rw [decide_eq_true rfl]; rfl, iteF ?_⟩⟩
      refine ⟨.ref hA, rfl, .ref oA, rfl, .ref ta, rfl, (by show 2 ≤ sizeLine; decide), fun l nl => ?_⟩
      have s10 := s9.trans (same_upd (o := .lst [V.ref oA, .ref ta]) nl)
      refine ⟨hA, l, d, oA, C, ta, kvF ol, listsD tb, rfl, rfl, .inl (.inl (s10 _ _ hA8)), .inl (.inl upd_same), .inr ⟨od, s10 _ _ hd8⟩, .inl (s10 _ _ ho8), fun kk v m => ?_, dpTab (tabC8.seqs (seqs_same s10)), dpTab (tab8.none.seqs (seqs_same s10)), shpLs _, by rw [eqvLs], false, rfl, iteF ?_⟩
      · obtain ⟨x, _, e⟩ := List.mem_map.mp m
        cases e
        exact ⟨_, rfl⟩
      exact ⟨L8.same s10, rid8.mono (tups_same s10), tab8.seqs (seqs_same s10), s10 _ _ hff8, _, _, _, _, rfl⟩
    · obtain ⟨L, _, _, _, _, _, _, _, rfl⟩ := p
      exact ⟨L.tabs, L.scr, _, _, _, _, _, _, _, _, _, rfl⟩
  · exact rfl
end Rd

set_option Elab.async false
set_option linter.all false
set_option maxRecDepth 100000
set_option maxHeartbeats 4000000
namespace Rd
open PySem PySem.Spec PyProof.Rows L2 Dt
theorem all_mk {l : PySem.W.OpenLaw} {w : World} {K : PySem.W.Frag} {h : Heap} {mg : Str → Option Value} {fa : Addr} {tb : Str → Addr × Addr} (X : K.In h) (G : h.Ns mainGlobals mg) (hfa : mg "law" = some (.ref fa)) (ht : ∀ y ∈ [("hues_at" : Str), ("standing" : Str), ("have_next" : Str), ("taken_on" : Str), ("is_taken" : Str), ("is_floor" : Str), ("are_floors" : Str)], Lg.TabOf mg h y (tb y))
    {f1 f2 f3 f4 f5 f6 f7 f8 f9 f10 f11 f12 f13 f14 f15 f16 f17 f18 f19 f20 f21 f22 f23 f24 f25 f26 f27 : Addr} {od1 an1 od2 an2 od3 an3 od4 an4 od5 an5 od6 an6 od7 an7 od8 an8 od9 an9 od10 an10 od11 an11 od12 an12 od13 an13 od14 an14 od15 an15 od16 an16 od17 an17 od18 an18 od19 an19 od20 an20 od21 an21 od22 an22 od23 an23 od24 an24 od25 an25 od26 an26 od27 an27 : Option Addr} {sl1 sl2 sl3 sl4 sl5 sl6 sl7 sl8 sl9 sl10 sl11 sl12 sl13 sl14 sl15 sl16 sl17 sl18 sl19 sl20 sl21 sl22 sl23 sl24 sl25 sl26 sl27 : Array (Option Value)} {oc1 kV1 dc1 pm1 cd1 ct1 oc2 kV2 dc2 pm2 cd2 ct2 oc3 kV3 dc3 pm3 cd3 ct3 oc4 kV4 dc4 pm4 cd4 ct4 oc5 kV5 dc5 pm5 cd5 ct5 oc6 kV6 dc6 pm6 cd6 ct6 oc7 kV7 dc7 pm7 cd7 ct7 oc8 kV8 dc8 pm8 cd8 ct8 oc9 kV9 dc9 pm9 cd9 ct9 oc10 kV10 dc10 pm10 cd10 ct10 oc11 kV11 dc11 pm11 cd11 ct11 oc12 kV12 dc12 pm12 cd12 ct12 oc13 kV13 dc13 pm13 cd13 ct13 oc14 kV14 dc14 pm14 cd14 ct14 oc15 kV15 dc15 pm15 cd15 ct15 oc16 kV16 dc16 pm16 cd16 ct16 oc17 kV17 dc17 pm17 cd17 ct17 oc18 kV18 dc18 pm18 cd18 ct18 oc19 kV19 dc19 pm19 cd19 ct19 oc20 kV20 dc20 pm20 cd20 ct20 oc21 kV21 dc21 pm21 cd21 ct21 oc22 kV22 dc22 pm22 cd22 ct22 oc23 kV23 dc23 pm23 cd23 ct23 oc24 kV24 dc24 pm24 cd24 ct24 oc25 kV25 dc25 pm25 cd25 ct25 oc26 kV26 dc26 pm26 cd26 ct26 oc27 kV27 dc27 pm27 cd27 ct27 : Value}
    (a1 : PySem.W.nsIn K mainGlobals "is_number" = some (some (.ref f1))) (l1 : K.lookup f1 = some ⟨oc1, od1, .func (PySem.W.fnOf "is_number" "is_number" (defArgs sNum) (defBody sNum) (defScope sNum) .none kV1 dc1 pm1 an1 cd1 ct1), sl1⟩) (c1 : PySem.W.codeIn K cd1 "is_number" = true) (k1 : PySem.W.keepIn K (.ref f1) = true)
    (a2 : PySem.W.nsIn K mainGlobals "hues_at" = some (some (.ref f2))) (l2 : K.lookup f2 = some ⟨oc2, od2, .func (PySem.W.fnOf "hues_at" "hues_at" (defArgs sHue) (defBody sHue) (defScope sHue) .none kV2 dc2 pm2 an2 cd2 ct2), sl2⟩) (c2 : PySem.W.codeIn K cd2 "hues_at" = true) (k2 : PySem.W.keepIn K (.ref f2) = true)
    (a3 : PySem.W.nsIn K mainGlobals "is_broken" = some (some (.ref f3))) (l3 : K.lookup f3 = some ⟨oc3, od3, .func (PySem.W.fnOf "is_broken" "is_broken" (defArgs sIsB) (defBody sIsB) (defScope sIsB) .none kV3 dc3 pm3 an3 cd3 ct3), sl3⟩) (c3 : PySem.W.codeIn K cd3 "is_broken" = true) (k3 : PySem.W.keepIn K (.ref f3) = true)
    (a4 : PySem.W.nsIn K mainGlobals "broken" = some (some (.ref f4))) (l4 : K.lookup f4 = some ⟨oc4, od4, .func (PySem.W.fnOf "broken" "broken" (defArgs sBro) (defBody sBro) (defScope sBro) .none kV4 dc4 pm4 an4 cd4 ct4), sl4⟩) (c4 : PySem.W.codeIn K cd4 "broken" = true) (k4 : PySem.W.keepIn K (.ref f4) = true)
    (a5 : PySem.W.nsIn K mainGlobals "standing" = some (some (.ref f5))) (l5 : K.lookup f5 = some ⟨oc5, od5, .func (PySem.W.fnOf "standing" "standing" (defArgs sSta) (defBody sSta) (defScope sSta) .none kV5 dc5 pm5 an5 cd5 ct5), sl5⟩) (c5 : PySem.W.codeIn K cd5 "standing" = true) (k5 : PySem.W.keepIn K (.ref f5) = true)
    (a6 : PySem.W.nsIn K mainGlobals "have_next" = some (some (.ref f6))) (l6 : K.lookup f6 = some ⟨oc6, od6, .func (PySem.W.fnOf "have_next" "have_next" (defArgs sHnx) (defBody sHnx) (defScope sHnx) .none kV6 dc6 pm6 an6 cd6 ct6), sl6⟩) (c6 : PySem.W.codeIn K cd6 "have_next" = true) (k6 : PySem.W.keepIn K (.ref f6) = true)
    (a7 : PySem.W.nsIn K mainGlobals "taken_on" = some (some (.ref f7))) (l7 : K.lookup f7 = some ⟨oc7, od7, .func (PySem.W.fnOf "taken_on" "taken_on" (defArgs sTko) (defBody sTko) (defScope sTko) .none kV7 dc7 pm7 an7 cd7 ct7), sl7⟩) (c7 : PySem.W.codeIn K cd7 "taken_on" = true) (k7 : PySem.W.keepIn K (.ref f7) = true)
    (a8 : PySem.W.nsIn K mainGlobals "mendings" = some (some (.ref f8))) (l8 : K.lookup f8 = some ⟨oc8, od8, .func (PySem.W.fnOf "mendings" "mendings" (defArgs sMds) (defBody sMds) (defScope sMds) .none kV8 dc8 pm8 an8 cd8 ct8), sl8⟩) (c8 : PySem.W.codeIn K cd8 "mendings" = true) (k8 : PySem.W.keepIn K (.ref f8) = true)
    (a9 : PySem.W.nsIn K mainGlobals "is_taken" = some (some (.ref f9))) (l9 : K.lookup f9 = some ⟨oc9, od9, .func (PySem.W.fnOf "is_taken" "is_taken" (defArgs sIst) (defBody sIst) (defScope sIst) .none kV9 dc9 pm9 an9 cd9 ct9), sl9⟩) (c9 : PySem.W.codeIn K cd9 "is_taken" = true) (k9 : PySem.W.keepIn K (.ref f9) = true)
    (a10 : PySem.W.nsIn K mainGlobals "is_floor" = some (some (.ref f10))) (l10 : K.lookup f10 = some ⟨oc10, od10, .func (PySem.W.fnOf "is_floor" "is_floor" (defArgs sIsf) (defBody sIsf) (defScope sIsf) .none kV10 dc10 pm10 an10 cd10 ct10), sl10⟩) (c10 : PySem.W.codeIn K cd10 "is_floor" = true) (k10 : PySem.W.keepIn K (.ref f10) = true)
    (a11 : PySem.W.nsIn K mainGlobals "are_floors" = some (some (.ref f11))) (l11 : K.lookup f11 = some ⟨oc11, od11, .func (PySem.W.fnOf "are_floors" "are_floors" (defArgs sArf) (defBody sArf) (defScope sArf) .none kV11 dc11 pm11 an11 cd11 ct11), sl11⟩) (c11 : PySem.W.codeIn K cd11 "are_floors" = true) (k11 : PySem.W.keepIn K (.ref f11) = true)
    (a12 : PySem.W.nsIn K mainGlobals "_law_tape" = some (some (.ref f12))) (l12 : K.lookup f12 = some ⟨oc12, od12, .func (PySem.W.fnOf "_law_tape" "_law_tape" (defArgs sTap) (defBody sTap) (defScope sTap) .none kV12 dc12 pm12 an12 cd12 ct12), sl12⟩) (c12 : PySem.W.codeIn K cd12 "_law_tape" = true) (k12 : PySem.W.keepIn K (.ref f12) = true)
    (a13 : PySem.W.nsIn K mainGlobals "_law_digit" = some (some (.ref f13))) (l13 : K.lookup f13 = some ⟨oc13, od13, .func (PySem.W.fnOf "_law_digit" "_law_digit" (defArgs sDig) (defBody sDig) (defScope sDig) .none kV13 dc13 pm13 an13 cd13 ct13), sl13⟩) (c13 : PySem.W.codeIn K cd13 "_law_digit" = true) (k13 : PySem.W.keepIn K (.ref f13) = true)
    (a14 : PySem.W.nsIn K mainGlobals "_law_wish" = some (some (.ref f14))) (l14 : K.lookup f14 = some ⟨oc14, od14, .func (PySem.W.fnOf "_law_wish" "_law_wish" (defArgs sWis) (defBody sWis) (defScope sWis) .none kV14 dc14 pm14 an14 cd14 ct14), sl14⟩) (c14 : PySem.W.codeIn K cd14 "_law_wish" = true) (k14 : PySem.W.keepIn K (.ref f14) = true)
    (a15 : PySem.W.nsIn K mainGlobals "_law_sizes" = some (some (.ref f15))) (l15 : K.lookup f15 = some ⟨oc15, od15, .func (PySem.W.fnOf "_law_sizes" "_law_sizes" (defArgs sSzs) (defBody sSzs) (defScope sSzs) .none kV15 dc15 pm15 an15 cd15 ct15), sl15⟩) (c15 : PySem.W.codeIn K cd15 "_law_sizes" = true) (k15 : PySem.W.keepIn K (.ref f15) = true)
    (a16 : PySem.W.nsIn K mainGlobals "_law_riddle" = some (some (.ref f16))) (l16 : K.lookup f16 = some ⟨oc16, od16, .func (PySem.W.fnOf "_law_riddle" "_law_riddle" (defArgs sRid) (defBody sRid) (defScope sRid) .none kV16 dc16 pm16 an16 cd16 ct16), sl16⟩) (c16 : PySem.W.codeIn K cd16 "_law_riddle" = true) (k16 : PySem.W.keepIn K (.ref f16) = true)
    (a17 : PySem.W.nsIn K mainGlobals "_law_table" = some (some (.ref f17))) (l17 : K.lookup f17 = some ⟨oc17, od17, .func (PySem.W.fnOf "_law_table" "_law_table" (defArgs sTab) (defBody sTab) (defScope sTab) .none kV17 dc17 pm17 an17 cd17 ct17), sl17⟩) (c17 : PySem.W.codeIn K cd17 "_law_table" = true) (k17 : PySem.W.keepIn K (.ref f17) = true)
    (a18 : PySem.W.nsIn K mainGlobals "_law_broken" = some (some (.ref f18))) (l18 : K.lookup f18 = some ⟨oc18, od18, .func (PySem.W.fnOf "_law_broken" "_law_broken" (defArgs sLbr) (defBody sLbr) (defScope sLbr) .none kV18 dc18 pm18 an18 cd18 ct18), sl18⟩) (c18 : PySem.W.codeIn K cd18 "_law_broken" = true) (k18 : PySem.W.keepIn K (.ref f18) = true)
    (a19 : PySem.W.nsIn K mainGlobals "_law_kept" = some (some (.ref f19))) (l19 : K.lookup f19 = some ⟨oc19, od19, .func (PySem.W.fnOf "_law_kept" "_law_kept" (defArgs sLkt) (defBody sLkt) (defScope sLkt) .none kV19 dc19 pm19 an19 cd19 ct19), sl19⟩) (c19 : PySem.W.codeIn K cd19 "_law_kept" = true) (k19 : PySem.W.keepIn K (.ref f19) = true)
    (a20 : PySem.W.nsIn K mainGlobals "_law_next" = some (some (.ref f20))) (l20 : K.lookup f20 = some ⟨oc20, od20, .func (PySem.W.fnOf "_law_next" "_law_next" (defArgs sLnx) (defBody sLnx) (defScope sLnx) .none kV20 dc20 pm20 an20 cd20 ct20), sl20⟩) (c20 : PySem.W.codeIn K cd20 "_law_next" = true) (k20 : PySem.W.keepIn K (.ref f20) = true)
    (a21 : PySem.W.nsIn K mainGlobals "_law_all" = some (some (.ref f21))) (l21 : K.lookup f21 = some ⟨oc21, od21, .func (PySem.W.fnOf "_law_all" "_law_all" (defArgs sLal) (defBody sLal) (defScope sLal) .none kV21 dc21 pm21 an21 cd21 ct21), sl21⟩) (c21 : PySem.W.codeIn K cd21 "_law_all" = true) (k21 : PySem.W.keepIn K (.ref f21) = true)
    (a22 : PySem.W.nsIn K mainGlobals "_law_due" = some (some (.ref f22))) (l22 : K.lookup f22 = some ⟨oc22, od22, .func (PySem.W.fnOf "_law_due" "_law_due" (defArgs sDue) (defBody sDue) (defScope sDue) .none kV22 dc22 pm22 an22 cd22 ct22), sl22⟩) (c22 : PySem.W.codeIn K cd22 "_law_due" = true) (k22 : PySem.W.keepIn K (.ref f22) = true)
    (a23 : PySem.W.nsIn K mainGlobals "_law_made" = some (some (.ref f23))) (l23 : K.lookup f23 = some ⟨oc23, od23, .func (PySem.W.fnOf "_law_made" "_law_made" (defArgs sLmd) (defBody sLmd) (defScope sLmd) .none kV23 dc23 pm23 an23 cd23 ct23), sl23⟩) (c23 : PySem.W.codeIn K cd23 "_law_made" = true) (k23 : PySem.W.keepIn K (.ref f23) = true)
    (a24 : PySem.W.nsIn K mainGlobals "_law_drawn" = some (some (.ref f24))) (l24 : K.lookup f24 = some ⟨oc24, od24, .func (PySem.W.fnOf "_law_drawn" "_law_drawn" (defArgs sLdn) (defBody sLdn) (defScope sLdn) .none kV24 dc24 pm24 an24 cd24 ct24), sl24⟩) (c24 : PySem.W.codeIn K cd24 "_law_drawn" = true) (k24 : PySem.W.keepIn K (.ref f24) = true)
    (a25 : PySem.W.nsIn K mainGlobals "_law_bent" = some (some (.ref f25))) (l25 : K.lookup f25 = some ⟨oc25, od25, .func (PySem.W.fnOf "_law_bent" "_law_bent" (defArgs sBnt) (defBody sBnt) (defScope sBnt) .none kV25 dc25 pm25 an25 cd25 ct25), sl25⟩) (c25 : PySem.W.codeIn K cd25 "_law_bent" = true) (k25 : PySem.W.keepIn K (.ref f25) = true)
    (a26 : PySem.W.nsIn K mainGlobals "_law_wide_right" = some (some (.ref f26))) (l26 : K.lookup f26 = some ⟨oc26, od26, .func (PySem.W.fnOf "_law_wide_right" "_law_wide_right" (defArgs sWid) (defBody sWid) (defScope sWid) .none kV26 dc26 pm26 an26 cd26 ct26), sl26⟩) (c26 : PySem.W.codeIn K cd26 "_law_wide_right" = true) (k26 : PySem.W.keepIn K (.ref f26) = true)
    (a27 : PySem.W.nsIn K mainGlobals "law" = some (some (.ref f27))) (l27 : K.lookup f27 = some ⟨oc27, od27, .func (PySem.W.fnOf "law" "law" (defArgs sLaw) (defBody sLaw) (defScope sLaw) .none kV27 dc27 pm27 an27 cd27 ct27), sl27⟩) (c27 : PySem.W.codeIn K cd27 "law" = true) (k27 : PySem.W.keepIn K (.ref f27) = true)
    (z_abs : PySem.W.nsIn K mainGlobals "abs" = some none)
    (z_all : PySem.W.nsIn K mainGlobals "all" = some none)
    (z_bool : PySem.W.nsIn K mainGlobals "bool" = some none)
    (z_dict : PySem.W.nsIn K mainGlobals "dict" = some none)
    (z_enumerate : PySem.W.nsIn K mainGlobals "enumerate" = some none)
    (z_int : PySem.W.nsIn K mainGlobals "int" = some none)
    (z_isinstance : PySem.W.nsIn K mainGlobals "isinstance" = some none)
    (z_len : PySem.W.nsIn K mainGlobals "len" = some none)
    (z_list : PySem.W.nsIn K mainGlobals "list" = some none)
    (z_max : PySem.W.nsIn K mainGlobals "max" = some none)
    (z_min : PySem.W.nsIn K mainGlobals "min" = some none)
    (z_range : PySem.W.nsIn K mainGlobals "range" = some none)
    (z_sorted : PySem.W.nsIn K mainGlobals "sorted" = some none)
    (z_sum : PySem.W.nsIn K mainGlobals "sum" = some none)
    (z_tuple : PySem.W.nsIn K mainGlobals "tuple" = some none)
    (z_zip : PySem.W.nsIn K mainGlobals "zip" = some none) :
    ∃ fd : FuncData, Fun K "law" "law" sLaw fa fd ∧ (∀ (s : Shared) (v : Value), BindsTo s fd ⟨[v], []⟩ [("script", v)]) ∧ ∀ (base : Heap) (H : Hp) (cdv : Value) (a : Addr) (ns : List Int) (s : Shared), K.In base → base.Ns mainGlobals mg → (∀ y ∈ [("hues_at" : Str), ("standing" : Str), ("have_next" : Str), ("taken_on" : Str), ("is_taken" : Str), ("is_floor" : Str), ("are_floors" : Str)], GxR.TabB base mg (tb y).1 (tb y).2) → (∀ y ∈ [("hues_at" : Str), ("standing" : Str), ("have_next" : Str), ("taken_on" : Str), ("is_taken" : Str), ("is_floor" : Str), ("are_floors" : Str)], H (tb y).2 = some (.tbl #[])) → ns.length ≤ 63 → (∀ z ∈ ns, Builtin.Int.intBits z ≤ 1048576) → SqL K H a (ns.map V.int) → Room 11 (callerA.deeper (envOfC "law" (defScope sLaw) s.heap.objs.size fa cdv)) →
        ∃ t, PSs (cxOf CX0 l.prog w K mg base nLaw "law" (defScope sLaw) fa cdv callerA [] s H (fun _ _ _ => False)).nox (defBody sLaw) t ∧ t { nx := fun _ _ => False, rt := fun v _ => v = .bl true } (start nLaw [.ref a]) H := by
  have e := hfa.symm.trans (PySem.W.mg_of X G a27)
  cases e
  have F1 := fun_mk (st := sNum) l1 c1 k1
  have F2 := fun_mk (st := sHue) l2 c2 k2
  have F3 := fun_mk (st := sIsB) l3 c3 k3
  have F4 := fun_mk (st := sBro) l4 c4 k4
  have F5 := fun_mk (st := sSta) l5 c5 k5
  have F6 := fun_mk (st := sHnx) l6 c6 k6
  have F7 := fun_mk (st := sTko) l7 c7 k7
  have F8 := fun_mk (st := sMds) l8 c8 k8
  have F9 := fun_mk (st := sIst) l9 c9 k9
  have F10 := fun_mk (st := sIsf) l10 c10 k10
  have F11 := fun_mk (st := sArf) l11 c11 k11
  have F12 := fun_mk (st := sTap) l12 c12 k12
  have F13 := fun_mk (st := sDig) l13 c13 k13
  have F14 := fun_mk (st := sWis) l14 c14 k14
  have F15 := fun_mk (st := sSzs) l15 c15 k15
  have F16 := fun_mk (st := sRid) l16 c16 k16
  have F17 := fun_mk (st := sTab) l17 c17 k17
  have F18 := fun_mk (st := sLbr) l18 c18 k18
  have F19 := fun_mk (st := sLkt) l19 c19 k19
  have F20 := fun_mk (st := sLnx) l20 c20 k20
  have F21 := fun_mk (st := sLal) l21 c21 k21
  have F22 := fun_mk (st := sDue) l22 c22 k22
  have F23 := fun_mk (st := sLmd) l23 c23 k23
  have F24 := fun_mk (st := sLdn) l24 c24 k24
  have F25 := fun_mk (st := sBnt) l25 c25 k25
  have F26 := fun_mk (st := sWid) l26 c26 k26
  have F27 := fun_mk (st := sLaw) l27 c27 k27
  have b1 := F1.binds (ps := ["thing", "low", "high"]) fun _ _ _ _ _ _ us hl => match us, hl with | [_, _, _], _ => rfl
  have b2 := F2.binds (ps := ["filling", "places"]) fun _ _ _ _ _ _ us hl => match us, hl with | [_, _], _ => rfl
  have b3 := F3.binds (ps := ["wish", "filling"]) fun _ _ _ _ _ _ us hl => match us, hl with | [_, _], _ => rfl
  have b4 := F4.binds (ps := ["riddle", "filling"]) fun _ _ _ _ _ _ us hl => match us, hl with | [_, _], _ => rfl
  have b5 := F5.binds (ps := ["table", "taken"]) fun _ _ _ _ _ _ us hl => match us, hl with | [_, _], _ => rfl
  have b6 := F6.binds (ps := ["table", "taken", "places"]) fun _ _ _ _ _ _ us hl => match us, hl with | [_, _, _], _ => rfl
  have b7 := F7.binds (ps := ["taken", "places"]) fun _ _ _ _ _ _ us hl => match us, hl with | [_, _], _ => rfl
  have b8 := F8.binds (ps := ["riddle", "table", "taken"]) fun _ _ _ _ _ _ us hl => match us, hl with | [_, _, _], _ => rfl
  have b9 := F9.binds (ps := ["table", "taken"]) fun _ _ _ _ _ _ us hl => match us, hl with | [_, _], _ => rfl
  have b10 := F10.binds (ps := ["riddle", "table", "floors", "taken"]) fun _ _ _ _ _ _ us hl => match us, hl with | [_, _, _, _], _ => rfl
  have b11 := F11.binds (ps := ["riddle", "table", "floors"]) fun _ _ _ _ _ _ us hl => match us, hl with | [_, _, _], _ => rfl
  have b12 := F12.binds (ps := ["script", "start"]) fun _ _ _ _ _ _ us hl => match us, hl with | [_, _], _ => rfl
  have b13 := F13.binds (ps := ["tape", "many"]) fun _ _ _ _ _ _ us hl => match us, hl with | [_, _], _ => rfl
  have b14 := F14.binds (ps := ["tape", "many", "hues", "most"]) fun _ _ _ _ _ _ us hl => match us, hl with | [_, _, _, _], _ => rfl
  have b15 := F15.binds (ps := ["tape", "small"]) fun _ _ _ _ _ _ us hl => match us, hl with | [_, _], _ => rfl
  have b16 := F16.binds (ps := ["tape", "small"]) fun _ _ _ _ _ _ us hl => match us, hl with | [_, _], _ => rfl
  have b17 := F17.binds (ps := ["tape", "riddle", "most"]) fun _ _ _ _ _ _ us hl => match us, hl with | [_, _, _], _ => rfl
  have b18 := F18.binds (ps := ["riddle", "filling"]) fun _ _ _ _ _ _ us hl => match us, hl with | [_, _], _ => rfl
  have b19 := F19.binds (ps := ["riddle", "table", "taken"]) fun _ _ _ _ _ _ us hl => match us, hl with | [_, _, _], _ => rfl
  have b20 := F20.binds (ps := ["riddle", "table", "taken"]) fun _ _ _ _ _ _ us hl => match us, hl with | [_, _, _], _ => rfl
  have b21 := F21.binds (ps := ["riddle", "table"]) fun _ _ _ _ _ _ us hl => match us, hl with | [_, _], _ => rfl
  have b22 := F22.binds (ps := ["riddle", "table", "floors"]) fun _ _ _ _ _ _ us hl => match us, hl with | [_, _, _], _ => rfl
  have b23 := F23.binds (ps := ["riddle", "table", "most"]) fun _ _ _ _ _ _ us hl => match us, hl with | [_, _, _], _ => rfl
  have b24 := F24.binds (ps := ["tape", "table"]) fun _ _ _ _ _ _ us hl => match us, hl with | [_, _], _ => rfl
  have b25 := F25.binds (ps := ["tape", "table", "floors"]) fun _ _ _ _ _ _ us hl => match us, hl with | [_, _, _], _ => rfl
  have b26 := F26.binds (ps := ["tape"]) fun _ _ _ _ _ _ us hl => match us, hl with | [_], _ => rfl
  have m_abs := PySem.W.mg_none_of X G z_abs
  have m_all := PySem.W.mg_none_of X G z_all
  have m_bool := PySem.W.mg_none_of X G z_bool
  have m_dict := PySem.W.mg_none_of X G z_dict
  have m_enumerate := PySem.W.mg_none_of X G z_enumerate
  have m_int := PySem.W.mg_none_of X G z_int
  have m_isinstance := PySem.W.mg_none_of X G z_isinstance
  have m_len := PySem.W.mg_none_of X G z_len
  have m_list := PySem.W.mg_none_of X G z_list
  have m_max := PySem.W.mg_none_of X G z_max
  have m_min := PySem.W.mg_none_of X G z_min
  have m_range := PySem.W.mg_none_of X G z_range
  have m_sorted := PySem.W.mg_none_of X G z_sorted
  have m_sum := PySem.W.mg_none_of X G z_sum
  have m_tuple := PySem.W.mg_none_of X G z_tuple
  have m_zip := PySem.W.mg_none_of X G z_zip
  have g1 := PySem.W.mg_of X G a1
  have g2 := PySem.W.mg_of X G a2
  have g3 := PySem.W.mg_of X G a3
  have g4 := PySem.W.mg_of X G a4
  have g5 := PySem.W.mg_of X G a5
  have g6 := PySem.W.mg_of X G a6
  have g7 := PySem.W.mg_of X G a7
  have g8 := PySem.W.mg_of X G a8
  have g9 := PySem.W.mg_of X G a9
  have g10 := PySem.W.mg_of X G a10
  have g11 := PySem.W.mg_of X G a11
  have g12 := PySem.W.mg_of X G a12
  have g13 := PySem.W.mg_of X G a13
  have g14 := PySem.W.mg_of X G a14
  have g15 := PySem.W.mg_of X G a15
  have g16 := PySem.W.mg_of X G a16
  have g17 := PySem.W.mg_of X G a17
  have g18 := PySem.W.mg_of X G a18
  have g19 := PySem.W.mg_of X G a19
  have g20 := PySem.W.mg_of X G a20
  have g21 := PySem.W.mg_of X G a21
  have g22 := PySem.W.mg_of X G a22
  have g23 := PySem.W.mg_of X G a23
  have g24 := PySem.W.mg_of X G a24
  have g25 := PySem.W.mg_of X G a25
  have g26 := PySem.W.mg_of X G a26
  have g27 := PySem.W.mg_of X G a27
  have tc2 := (ht "hues_at" (by decide)).code X g2 l2
  cases tc2
  have tc5 := (ht "standing" (by decide)).code X g5 l5
  cases tc5
  have tc6 := (ht "have_next" (by decide)).code X g6 l6
  cases tc6
  have tc7 := (ht "taken_on" (by decide)).code X g7 l7
  cases tc7
  have tc9 := (ht "is_taken" (by decide)).code X g9 l9
  cases tc9
  have tc10 := (ht "is_floor" (by decide)).code X g10 l10
  cases tc10
  have tc11 := (ht "are_floors" (by decide)).code X g11 l11
  cases tc11
  refine ⟨_, F27, fun s v => .of_eq rfl, fun base H cdv a ns s kb gb tB tH hl hb hS hrm => ?_⟩
  have TB2 := tB "hues_at" (by decide)
  have TH2 := tH "hues_at" (by decide)
  have TB5 := tB "standing" (by decide)
  have TH5 := tH "standing" (by decide)
  have TB6 := tB "have_next" (by decide)
  have TH6 := tH "have_next" (by decide)
  have TB7 := tB "taken_on" (by decide)
  have TH7 := tH "taken_on" (by decide)
  have TB9 := tB "is_taken" (by decide)
  have TH9 := tH "is_taken" (by decide)
  have TB10 := tB "is_floor" (by decide)
  have TH10 := tH "is_floor" (by decide)
  have TB11 := tB "are_floors" (by decide)
  have TH11 := tH "are_floors" (by decide)
  have C1 : Cal l.prog w K mg base 1 "is_number" ["thing", "low", "high"] spNumF := ⟨_, _, ok_numF (k := 0) F1 { m_isinstance := m_isinstance, m_int := m_int, m_bool := m_bool }, g1, k1, b1⟩
  have C2 : Cal l.prog w K mg base 3 "hues_at" ["filling", "places"] (spHues [(tb "hues_at").2, (tb "standing").2, (tb "have_next").2, (tb "taken_on").2, (tb "is_taken").2, (tb "is_floor").2, (tb "are_floors").2]) := ⟨_, _, ok_hues (k := 0) ⟨⟨_, _, _, _, _, _, _, _, rfl, l2, c2⟩⟩ TB2 (by simp) { m_tuple := m_tuple, m_zip := m_zip, m_all := m_all, m_len := m_len }, g2, k2, b2⟩
  have C3 : Cal l.prog w K mg base 4 "is_broken" ["wish", "filling"] (spIsB [(tb "hues_at").2, (tb "standing").2, (tb "have_next").2, (tb "taken_on").2, (tb "is_taken").2, (tb "is_floor").2, (tb "are_floors").2]) := ⟨_, _, ok_isB (k := 0) F3 { c_hues_at := C2 }, g3, k3, b3⟩
  have C4 : Cal l.prog w K mg base 5 "broken" ["riddle", "filling"] (spBro [(tb "hues_at").2, (tb "standing").2, (tb "have_next").2, (tb "taken_on").2, (tb "is_taken").2, (tb "is_floor").2, (tb "are_floors").2]) := ⟨_, _, ok_bro (k := 0) F4 { m_enumerate := m_enumerate, c_is_broken := C3 }, g4, k4, b4⟩
  have C5 : Cal l.prog w K mg base 3 "standing" ["table", "taken"] (spStaE [(tb "hues_at").2, (tb "standing").2, (tb "have_next").2, (tb "taken_on").2, (tb "is_taken").2, (tb "is_floor").2, (tb "are_floors").2]) := ⟨_, _, ok_staE (k := 0) ⟨⟨_, _, _, _, _, _, _, _, rfl, l5, c5⟩⟩ TB5 (by simp) { m_tuple := m_tuple, m_zip := m_zip, m_all := m_all, m_len := m_len }, g5, k5, b5⟩
  have C6 : Cal l.prog w K mg base 2 "have_next" ["table", "taken", "places"] (spHnxE [(tb "hues_at").2, (tb "standing").2, (tb "have_next").2, (tb "taken_on").2, (tb "is_taken").2, (tb "is_floor").2, (tb "are_floors").2]) := ⟨_, _, ok_hnxE (k := 0) ⟨⟨_, _, _, _, _, _, _, _, rfl, l6, c6⟩⟩ TB6 (by simp) { m_tuple := m_tuple, m_zip := m_zip, m_all := m_all, m_len := m_len }, g6, k6, b6⟩
  have C7 : Cal l.prog w K mg base 3 "taken_on" ["taken", "places"] (spTko [(tb "hues_at").2, (tb "standing").2, (tb "have_next").2, (tb "taken_on").2, (tb "is_taken").2, (tb "is_floor").2, (tb "are_floors").2]) := ⟨_, _, ok_tko (k := 0) ⟨⟨_, _, _, _, _, _, _, _, rfl, l7, c7⟩⟩ TB7 (by simp) { m_tuple := m_tuple, m_enumerate := m_enumerate }, g7, k7, b7⟩
  have C8 : Cal l.prog w K mg base 6 "mendings" ["riddle", "table", "taken"] (spMds [(tb "hues_at").2, (tb "standing").2, (tb "have_next").2, (tb "taken_on").2, (tb "is_taken").2, (tb "is_floor").2, (tb "are_floors").2]) := ⟨_, _, ok_mds (k := 0) F8 { c_broken := C4, c_standing := C5, c_have_next := C6, c_taken_on := C7 }, g8, k8, b8⟩
  have C9 : Cal l.prog w K mg base 3 "is_taken" ["table", "taken"] (spIst [(tb "hues_at").2, (tb "standing").2, (tb "have_next").2, (tb "taken_on").2, (tb "is_taken").2, (tb "is_floor").2, (tb "are_floors").2]) := ⟨_, _, ok_ist (k := 0) ⟨⟨_, _, _, _, _, _, _, _, rfl, l9, c9⟩⟩ TB9 (by simp) { m_len := m_len, m_all := m_all, m_zip := m_zip, c_is_number := C1 }, g9, k9, b9⟩
  have C10 : Cal l.prog w K mg base 8 "is_floor" ["riddle", "table", "floors", "taken"] (spIsf [(tb "hues_at").2, (tb "standing").2, (tb "have_next").2, (tb "taken_on").2, (tb "is_taken").2, (tb "is_floor").2, (tb "are_floors").2]) := ⟨_, _, ok_isf (k := 0) ⟨⟨_, _, _, _, _, _, _, _, rfl, l10, c10⟩⟩ TB10 (by simp) { m_all := m_all, c_broken := C4, c_standing := C5, c_mendings := C8 }, g10, k10, b10⟩
  have C11 : Cal l.prog w K mg base 10 "are_floors" ["riddle", "table", "floors"] (spArf [(tb "hues_at").2, (tb "standing").2, (tb "have_next").2, (tb "taken_on").2, (tb "is_taken").2, (tb "is_floor").2, (tb "are_floors").2]) := ⟨_, _, ok_arf (k := 0) ⟨⟨_, _, _, _, _, _, _, _, rfl, l11, c11⟩⟩ TB11 (by simp) { m_all := m_all, c_is_taken := C9, c_is_floor := C10 }, g11, k11, b11⟩
  have C12 : Cal l.prog w K mg base 1 "_law_tape" ["script", "start"] (spTap K) := ⟨_, _, ok_tap (k := 0) F12 { m_len := m_len, m_abs := m_abs }, g12, k12, b12⟩
  have C13 : Cal l.prog w K mg base 1 "_law_digit" ["tape", "many"] spDig := ⟨_, _, ok_dig (k := 0) F13, g13, k13, b13⟩
  have C14 : Cal l.prog w K mg base 2 "_law_wish" ["tape", "many", "hues", "most"] spWis := ⟨_, _, ok_wis (k := 0) F14 { m_range := m_range, m_list := m_list, m_min := m_min, m_len := m_len, m_sorted := m_sorted, m_tuple := m_tuple, c__law_digit := C13 }, g14, k14, b14⟩
  have C15 : Cal l.prog w K mg base 2 "_law_sizes" ["tape", "small"] spSzs := ⟨_, _, ok_szs (k := 0) F15 { m_range := m_range, m_list := m_list, m_min := m_min, m_len := m_len, m_sorted := m_sorted, m_tuple := m_tuple, c__law_digit := C13 }, g15, k15, b15⟩
  have C16 : Cal l.prog w K mg base 3 "_law_riddle" ["tape", "small"] spRid := ⟨_, _, ok_rid (k := 0) F16 { m_range := m_range, m_list := m_list, m_min := m_min, m_len := m_len, m_sorted := m_sorted, m_tuple := m_tuple, c__law_digit := C13, c__law_wish := C14, c__law_sizes := C15 }, g16, k16, b16⟩
  have C17 : Cal l.prog w K mg base 2 "_law_table" ["tape", "riddle", "most"] spTab := ⟨_, _, ok_tab (k := 0) F17 { m_range := m_range, m_list := m_list, m_min := m_min, m_len := m_len, m_sorted := m_sorted, m_tuple := m_tuple, c__law_digit := C13 }, g17, k17, b17⟩
  have C18 : Cal l.prog w K mg base 1 "_law_broken" ["riddle", "filling"] spLbr := ⟨_, _, ok_lbr (k := 0) F18 { m_enumerate := m_enumerate, m_tuple := m_tuple }, g18, k18, b18⟩
  have C19 : Cal l.prog w K mg base 2 "_law_kept" ["riddle", "table", "taken"] spLkt := ⟨_, _, ok_lkt (k := 0) F19 { m_zip := m_zip, m_len := m_len, m_int := m_int, m_tuple := m_tuple, m_enumerate := m_enumerate, c__law_broken := C18 }, g19, k19, b19⟩
  have C20 : Cal l.prog w K mg base 2 "_law_next" ["riddle", "table", "taken"] spLnx := ⟨_, _, ok_lnx (k := 0) F20 { m_zip := m_zip, m_len := m_len, m_int := m_int, m_tuple := m_tuple, m_enumerate := m_enumerate, c__law_broken := C18 }, g20, k20, b20⟩
  have C21 : Cal l.prog w K mg base 3 "_law_all" ["riddle", "table"] spLal := ⟨_, _, ok_lal (k := 0) F21 { m_len := m_len, c__law_next := C20 }, g21, k21, b21⟩
  have C22 : Cal l.prog w K mg base 3 "_law_due" ["riddle", "table", "floors"] spDuB := ⟨_, _, ok_duB (k := 0) F22 { c__law_kept := C19, c__law_next := C20 }, g22, k22, b22⟩
  have C23 : Cal l.prog w K mg base 4 "_law_made" ["riddle", "table", "most"] spLmd := ⟨_, _, ok_lmd (k := 0) F23 { m_sorted := m_sorted, m_sum := m_sum, m_min := m_min, c__law_all := C21, c__law_kept := C19 }, g23, k23, b23⟩
  have C24 : Cal l.prog w K mg base 2 "_law_drawn" ["tape", "table"] spLdn := ⟨_, _, ok_ldn (k := 0) F24 { m_range := m_range, m_tuple := m_tuple, m_len := m_len, c__law_digit := C13 }, g24, k24, b24⟩
  have C25 : Cal l.prog w K mg base 2 "_law_bent" ["tape", "table", "floors"] (spBnt l.prog w) := ⟨_, _, ok_bnt (k := 0) F25 { m_dict := m_dict, m_sorted := m_sorted, m_tuple := m_tuple, m_len := m_len, m_int := m_int, c__law_digit := C13 }, g25, k25, b25⟩
  have C26 : Cal l.prog w K mg base 11 "_law_wide_right" ["tape"] (spWiX [(tb "hues_at").2, (tb "standing").2, (tb "have_next").2, (tb "taken_on").2, (tb "is_taken").2, (tb "is_floor").2, (tb "are_floors").2]) := ⟨_, _, ok_wiX (k := 0) F26 { m_range := m_range, m_dict := m_dict, m_list := m_list, m_bool := m_bool, m_isinstance := m_isinstance, c__law_digit := C13, c__law_due := C22, c_are_floors := C11 }, g26, k26, b26⟩
  have hTs : Tabs [(tb "hues_at").2, (tb "standing").2, (tb "have_next").2, (tb "taken_on").2, (tb "is_taken").2, (tb "is_floor").2, (tb "are_floors").2] H := fun P hP => by
    simp only [List.mem_cons, List.not_mem_nil, or_false] at hP
    rcases hP with rfl | rfl | rfl | rfl | rfl | rfl | rfl
    · exact ⟨#[], TH2, trivial⟩
    · exact ⟨#[], TH5, trivial⟩
    · exact ⟨#[], TH6, trivial⟩
    · exact ⟨#[], TH7, trivial⟩
    · exact ⟨#[], TH9, trivial⟩
    · exact ⟨#[], TH10, trivial⟩
    · exact ⟨#[], TH11, trivial⟩
  exact body_law (Ps := [(tb "hues_at").2, (tb "standing").2, (tb "have_next").2, (tb "taken_on").2, (tb "is_taken").2, (tb "is_floor").2, (tb "are_floors").2])  { m_len := m_len, m_range := m_range, m_max := m_max, m_min := m_min, m_list := m_list, m_dict := m_dict, m_bool := m_bool, m_isinstance := m_isinstance, c__law_tape := C12, c__law_digit := C13, c__law_riddle := C16, c__law_table := C17, c__law_wide_right := C26, c__law_made := C23, c__law_bent := C25, c__law_drawn := C24, c__law_due := C22, c_are_floors := C11 } hl hTs hS hrm
end Rd

set_option Elab.async false
set_option linter.all false
set_option maxRecDepth 100000
set_option maxHeartbeats 4000000
open PySem PySem.W PyProof.Rows
set_option maxHeartbeats 0 in
theorem PySem.Challenge.cw_redraw_k51_floors_looked_at_holds : PySem.Challenge.rw_redraw_k51_floors_looked_at.Holds := by
  w_on; o_law; k_head; (case hw => w_witness2)
  k_fill
  refine Lg.walk_of (l := PySem.Challenge.rw_redraw_k51_floors_looked_at) (n := 63) (k := 11) (x := "law") (qual := "law") (par := "script") (st := Rd.sLaw) (N := Rd.nLaw) ["hues_at", "standing", "have_next", "taken_on", "is_taken", "is_floor", "are_floors"] rfl (by decide) rfl ⟨rfl, by decide, by decide⟩ (by rfl) ?hK (fun w h Y => PySem.W.kIn_of Y) Rd.scLaw ?F
  case hK => intro w; kernel_rfl
  case F =>
    intro w mg fa h tb KX G hmg ht
    refine' Rd.all_mk KX G hmg ht ?a1 ?l1 ?c1 ?k1 ?a2 ?l2 ?c2 ?k2 ?a3 ?l3 ?c3 ?k3 ?a4 ?l4 ?c4 ?k4 ?a5 ?l5 ?c5 ?k5 ?a6 ?l6 ?c6 ?k6 ?a7 ?l7 ?c7 ?k7 ?a8 ?l8 ?c8 ?k8 ?a9 ?l9 ?c9 ?k9 ?a10 ?l10 ?c10 ?k10 ?a11 ?l11 ?c11 ?k11 ?a12 ?l12 ?c12 ?k12 ?a13 ?l13 ?c13 ?k13 ?a14 ?l14 ?c14 ?k14 ?a15 ?l15 ?c15 ?k15 ?a16 ?l16 ?c16 ?k16 ?a17 ?l17 ?c17 ?k17 ?a18 ?l18 ?c18 ?k18 ?a19 ?l19 ?c19 ?k19 ?a20 ?l20 ?c20 ?k20 ?a21 ?l21 ?c21 ?k21 ?a22 ?l22 ?c22 ?k22 ?a23 ?l23 ?c23 ?k23 ?a24 ?l24 ?c24 ?k24 ?a25 ?l25 ?c25 ?k25 ?a26 ?l26 ?c26 ?k26 ?a27 ?l27 ?c27 ?k27 ?z_abs ?z_all ?z_bool ?z_dict ?z_enumerate ?z_int ?z_isinstance ?z_len ?z_list ?z_max ?z_min ?z_range ?z_sorted ?z_sum ?z_tuple ?z_zip
    (case a1 => k_is); (case l1 => k_is); (case c1 => k_is); (case k1 => k_is); (case a2 => k_is); (case l2 => k_is); (case c2 => k_is); (case k2 => k_is); (case a3 => k_is); (case l3 => k_is); (case c3 => k_is); (case k3 => k_is); (case a4 => k_is); (case l4 => k_is); (case c4 => k_is); (case k4 => k_is); (case a5 => k_is); (case l5 => k_is); (case c5 => k_is); (case k5 => k_is); (case a6 => k_is); (case l6 => k_is); (case c6 => k_is); (case k6 => k_is); (case a7 => k_is); (case l7 => k_is); (case c7 => k_is); (case k7 => k_is); (case a8 => k_is); (case l8 => k_is); (case c8 => k_is); (case k8 => k_is); (case a9 => k_is); (case l9 => k_is); (case c9 => k_is); (case k9 => k_is); (case a10 => k_is); (case l10 => k_is); (case c10 => k_is); (case k10 => k_is); (case a11 => k_is); (case l11 => k_is); (case c11 => k_is); (case k11 => k_is); (case a12 => k_is); (case l12 => k_is); (case c12 => k_is); (case k12 => k_is); (case a13 => k_is); (case l13 => k_is); (case c13 => k_is); (case k13 => k_is); (case a14 => k_is); (case l14 => k_is); (case c14 => k_is); (case k14 => k_is); (case a15 => k_is); (case l15 => k_is); (case c15 => k_is); (case k15 => k_is); (case a16 => k_is); (case l16 => k_is); (case c16 => k_is); (case k16 => k_is); (case a17 => k_is); (case l17 => k_is); (case c17 => k_is); (case k17 => k_is); (case a18 => k_is); (case l18 => k_is); (case c18 => k_is); (case k18 => k_is); (case a19 => k_is); (case l19 => k_is); (case c19 => k_is); (case k19 => k_is); (case a20 => k_is); (case l20 => k_is); (case c20 => k_is); (case k20 => k_is); (case a21 => k_is); (case l21 => k_is); (case c21 => k_is); (case k21 => k_is); (case a22 => k_is); (case l22 => k_is); (case c22 => k_is); (case k22 => k_is); (case a23 => k_is); (case l23 => k_is); (case c23 => k_is); (case k23 => k_is); (case a24 => k_is); (case l24 => k_is); (case c24 => k_is); (case k24 => k_is); (case a25 => k_is); (case l25 => k_is); (case c25 => k_is); (case k25 => k_is); (case a26 => k_is); (case l26 => k_is); (case c26 => k_is); (case k26 => k_is); (case a27 => k_is); (case l27 => k_is); (case c27 => k_is); (case k27 => k_is); (case z_abs => k_is); (case z_all => k_is); (case z_bool => k_is); (case z_dict => k_is); (case z_enumerate => k_is); (case z_int => k_is); (case z_isinstance => k_is); (case z_len => k_is); (case z_list => k_is); (case z_max => k_is); (case z_min => k_is); (case z_range => k_is); (case z_sorted => k_is); (case z_sum => k_is); (case z_tuple => k_is); (case z_zip => k_is)

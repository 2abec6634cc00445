import PyProof.Rows.All
import Wide.All
import OpenK.AllK
import Wide.FinOn
import HandS.ForMost
import HandS.AnyAll
import PyProof.TupleOfGen
import PyProof.WalksMore
import HandS.Zip
import KE.GoesEnum
import HandS.Deep
import PyProof.Rows.RegFStrParts
import HandS.SortInts
import HandS.TupSets
import HandS.EndBits
import KE.KNest
import KE.DatumIndex
import HandS.GenList
import HandS.Wide
import HandS.Codes
import HandS.Conv
import HandS.TupAny
import HandS.IsInst
import HandS.Style
import HandS.Exc
import HandS.ExcIs
import HandS.ExcValue
import HandS.WordsExc
import HandS.ExcOwn
import HandS.Spec
import PyProof.ReprRoads
import PyProof.ReprBulk
import PyProof.DictDisplay
import HandS.Dict
import HandS.JoinGen
import HandS.FStr
import KE.DataMinMax
import HandS.RevRange
import HandS.Small
import HandS.Text
import HandS.Iter
import PyProof.StrBlock2
import HandS.StrMore
import HandS.DictComp
import HandS.TupMul
import PyProof.EqKinds
import PyProof.Rows.IntBool
import PyProof.Rows.RuleB_bool
import KE.KNestM
import PySem.Challenge.RW_redraw_k62_keepers_begun
set_option Elab.async false
set_option linter.all false
set_option maxRecDepth 100000
set_option maxHeartbeats 4000000
/-! generator expressions over a list or a tuple whose element keeps the heap: tuple(..), all(..), any(..) -/
namespace Gv
open PySem PySem.Spec PyProof.Rows L2
/-- a list or a tuple of these -/
def Sq (K : PySem.W.Frag) (H : Hp) (a : Addr) (xs : List V) : Prop := SqL K H a xs ∨ SqT K H a xs
section
variable {X : Cx} {pins : List (Addr × Obj)} {σ : L2.St} {H : Hp} {s : Shared}
/-- iter(a): its items, and a walk over them that writes its own new cell alone -/
theorem iter_sq {a : Addr} {xs : List V} (I : Inv X pins σ H s) (h : Sq X.K H a xs) :
    ∃ its : List Value, Vals xs its ∧ xs.length ≤ sizeLine ∧ a < s.heap.objs.size ∧ ∀ (Q : Value → Shared → Prop) (E : Value → Shared → Prop),
      (∀ (o : Obj) (St : Nat → Heap → Prop), (∀ A' : Around, A'.handled = none → Walks X.prog X.w A' s.heap.objs.size [s.heap.objs.size, a] [s.heap.objs.size] its.length (fun i v => its[i]? = some v) St) → St 0 (s.heap.push o) →
        Q (.ref s.heap.objs.size) { s with heap := s.heap.push o }) → wpAny (model X.prog X.w) X.A (pyIter (.ref a)) Q E s := by
  rcases h with h | h
  · obtain ⟨its, rv, pl, hz⟩ := I.list h
    have hL := pl.isList
    have hlt : a < s.heap.objs.size := let ⟨_, e, _⟩ := hL; Heap.lt_size e
    refine ⟨its, rv, hz, hlt, fun Q E k => wpAny_pyIter_list hL (k _ (fun i h => h.IsListIter s.heap.objs.size a i ∧ h.IsList a its.toArray) (fun A' hA => ?_) ⟨⟨_, Heap.get?_push_size _ rfl, rfl, rfl⟩, ?_⟩)⟩
    · have W := Walks.list (prog := X.prog) (w := X.w) hA s.heap.objs.size a (Nat.ne_of_lt hlt) its.toArray
      simpa using W
    · obtain ⟨o, e, r⟩ := hL
      exact ⟨o, Heap.get?_push_of_some _ e, r⟩
  · obtain ⟨its, rv, pl, hz⟩ := I.tuple h
    have hlt : a < s.heap.objs.size := pl.lt
    refine ⟨its, rv, hz, hlt, fun Q E k => wpAny_pyIter_tuple (show s.heap.IsTuple a its.toArray from pl) (k _ (fun i h => h.IsTupleIter s.heap.objs.size a i ∧ h.IsTuple a its.toArray) (fun A' hA => ?_) ⟨⟨_, Heap.get?_push_size _ rfl, rfl, rfl⟩, ?_⟩)⟩
    · have W := Walks.tuple (prog := X.prog) (w := X.w) hA s.heap.objs.size a (Nat.ne_of_lt hlt) its.toArray
      simpa using W
    · exact pl.push _
/-- the element, of the item x0 the value y0, with all that stood kept -/
def EltV (X : Cx) (pins : List (Addr × Obj)) (σ : L2.St) (scope : Scope) (x : Str) (elt : Expr) (P : Addr) (H1 : Hp) (xs ys : List V) : Prop :=
  ∀ (s1 t : Shared) (C : Addr) (code : Value) (bi : Addr) (A' : Around) (E' : Value → Shared → Prop) (i : Nat) (x0 : V) (u : Value) (m : Str → Option Value),
    Inv X pins σ H1 s1 → A'.handled = none → A'.units ≤ X.A.units + 8 → xs[i]? = some x0 → RelV x0 u → t.heap.Ns C m → m x = some u → (∀ b o, b ≠ P → s1.heap.get? b = some o → t.heap.get? b = some o) →
    wpAny (model X.prog X.w) A' (eval elt (genEnv scope (cloFrom X.env.cells scope.names []) C code bi X.env)) (fun y t' => (∃ y0, ys[i]? = some y0 ∧ RelV y0 y) ∧ Keeps t t') E' t
/-- the generator at g, about to give out the values ys -/
def Ready (X : Cx) (pins : List (Addr × Obj)) (σ : L2.St) (H1 : Hp) (P : Addr) (ys : List V) (g : Addr) (s5 : Shared) : Prop :=
  ∃ (fp wr : List Addr) (G : Array GenState → Array GenState → Prop) (F : Nat → Value → Prop) (St : Nat → Shared → Prop),
    WalksS X.prog X.w X.A.in4 g fp wr G ys.length F St ∧ St 0 s5 ∧ (∀ b ∈ fp, b < s5.heap.objs.size) ∧ g ∈ fp ∧ (∀ i s9, St i s9 → s9.TypeIs (.ref g) "generator") ∧
    (∀ j v, F j v → ∃ y, ys[j]? = some y ∧ RelV y v) ∧ ∀ s', Moved wr G s5 s' → ∃ H2, GxR.Tabbed P H1 H2 ∧ Inv X pins σ H2 s'
theorem gen_sq {c P : Addr} {elt iter : Expr} {x : Str} {px gpos : Pos} {scope : Scope} {te : TE} {k : Nat} {Q' : Value → Shared → Prop} {R : List V → Hp → Prop}
    (hr : Room k X.A) (TB : GxR.TabB X.base X.mg c P) (hcode : X.env.code = .ref c) (S : GxR.GenS X.env scope x) (hi : PE X iter te) (hs : ∀ v, genFold iter X.env v = pure v) (I : Inv X pins σ H s)
    (h : te σ H fun v H1 => ∃ (a : Addr) (xs ys : List V), v = .ref a ∧ Sq X.K H1 a xs ∧ ys.length = xs.length ∧ (∀ pins, EltV X pins σ scope x elt P H1 xs ys) ∧ GxR.TabG H1 P ∧ R ys H1)
    (hQ : ∀ ys H1 g s5, ys.length ≤ sizeLine → R ys H1 → Ready X pins σ H1 P ys g s5 → Q' (.ref g) s5) :
    wpAny (model X.prog X.w) X.A (eval (.GeneratorExp elt [⟨.Name x px, iter, [], 0⟩] scope gpos) X.env) Q' X.xe s := by
  refine wpAny_GeneratorExp_walksQD hr.hd S.co (closure_ok S.free) S.cell S.dot S.loc S.kind (by have := hr.dp; omega) (thn (hi.run pins s σ H _ I h) fun xv s1 ⟨v, H1, I1, r1, q1⟩ => ?_) hs
  obtain ⟨a, xs, ys, rfl, hsq, hyl, hel, ⟨ps, hP, ht⟩, q1⟩ := q1
  cases (show xv = Value.ref a from r1)
  obtain ⟨its, rv, hz, hlt, go⟩ := iter_sq I1 hsq
  refine go _ _ fun o St W st0 => ⟨I1.nolimit.push o, ?_⟩
  have tabS : s1.heap.get? P = some { cls := .none, data := .fields ps } := I1.hok P _ hP
  have ltP : P < s1.heap.objs.size := Heap.lt_size tabS
  have tab2 : (s1.heap.push o).get? P = some { cls := .none, data := .fields ps } := Heap.get?_push_of_some _ tabS
  have hd : PySem.W.CodeHd (s1.heap.push o) c P := TB.code.keeps fun b u e => Heap.get?_push_of_some _ (I1.bk b u e)
  have neI : s1.heap.objs.size ≠ P := fun z => Nat.lt_irrefl _ (z ▸ ltP)
  -- the code object of the expression, its table perhaps longer behind it
  have key : ∀ (REST : Value → Shared → Prop), (∀ (cv : Value) (h3 : Heap) (tk : Nat) (more : Array Value), Heap.ExtBut P (s1.heap.push o) h3 → (s1.heap.push o).objs.size ≤ h3.objs.size → h3.get? P = some { cls := .none, data := .fields (ps ++ more) } → TriplesOk (ps ++ more).toList → REST cv { s1 with heap := h3, toks := tk }) →
      wpAny (model X.prog X.w) X.A (genexprCode X.env gpos (X.env.qual ++ "<genexpr>") scope) REST X.xe { s1 with heap := s1.heap.push o } := fun REST fin => by
    cases hf : codeAmong gpos ps.toList with
    | some cv =>
      have e : ps = ps ++ #[] := by simp
      exact wpAny_genexprCode_hit hcode (hd.code tab2 ht) hf (fin cv _ s1.toks #[] (Heap.ExtBut.refl _ _) (Nat.le_refl _) (e ▸ tab2) (e ▸ ht))
    | none =>
      refine wpAny_genexprCodeX hcode (hd.code tab2 ht) (hd.tab tab2) hf fun c' h3 tk ex ge lt ic _ ta _ => ?_
      obtain ⟨_, _, _, _, _, _, _, _, _, _, _, _, _, _, _, _, _, _, _, tr, _⟩ := ic
      exact fin _ h3 tk _ ex (Nat.le_trans ge (Nat.le_of_lt lt)) ta.2 tr
  refine key _ fun cv h3 tk more ex ge tab3 tr3 => ?_
  obtain ⟨bm, ob, b1, b2, b3, b4, b5, b6, b7, b8⟩ := TB.bm
  have up : ∀ b u, b ≠ P → s1.heap.get? b = some u → h3.get? b = some u := fun b u n e => ex b u n (Heap.get?_push_of_some _ e)
  have sz : s1.heap.objs.size + 1 ≤ h3.objs.size := by rw [← Heap.size_push s1.heap o]; exact ge
  have nlS : cStatics ≠ P ∧ cStatics < s1.heap.objs.size := by
    obtain ⟨_, ns, _⟩ := I1.nolimit
    refine ⟨fun z => ?_, ns.lt⟩
    obtain ⟨o', es, ep, ho, hdd, _⟩ := ns
    rw [z, tabS] at ho
    cases ho
    cases hdd
  refine wpAny_builtinsFor (m := X.mg) (by rw [I1.ok.glob]; exact ((I1.mod.glob.keeps I1.bk).push o).extBut ex TB.gP) b1 b2 (up _ _ b4 (I1.bk _ _ b5)) b6 b7 b8 ?_
  refine ⟨s1.heap.objs.size, [s1.heap.objs.size, a], [s1.heap.objs.size], its.length, (fun i v => its[i]? = some v), St, (fun _ => true), (fun i y => ∃ y0, ys[i]? = some y0 ∧ RelV y0 y), rfl, W, ?_, ?_, (I1.nolimit.push o).extBut ex nlS.1, ?_, ?_, ?_⟩
  · refine (W X.A hr.hd).frame _ _ _ st0 fun b hb u e => ex b u (fun z => ?_) e
    rcases List.mem_cons.mp hb with q | q
    · exact neI (q.symm.trans z)
    · have q2 : b = a := by simpa using q
      exact absurd (q2.symm.trans z) (by
        intro az
        rcases hsq with hh | hh
        · obtain ⟨its', _, pl, _⟩ := I1.list hh
          obtain ⟨oo, _, e1, _, _, d1⟩ := pl
          rw [az, tabS] at e1
          cases e1
          cases d1
        · obtain ⟨its', _, pl, _⟩ := I1.tuple hh
          obtain ⟨oo, e1, _, _, d1⟩ := pl
          rw [az, tabS] at e1
          cases e1
          cases d1)
  · intro b hb
    show b < h3.objs.size
    rcases List.mem_cons.mp hb with q | q
    · rw [q]; exact Nat.lt_of_succ_le sz
    · have q2 : b = a := by simpa using q
      rw [q2]; exact Nat.lt_of_lt_of_le hlt (Nat.le_of_succ_le sz)
  · intro z
    have z2 : cStatics = s1.heap.objs.size := by simpa using z
    exact Nat.ne_of_lt nlS.2 z2
  · intro href hk
    refine ⟨fun A' E' i v t m hA _ _ hv hn hm hkp => ?_, fun A' E' i v t m hA _ hU hv _ hn hm hkp => ?_⟩
    · simp only [List.forIn_nil]
      exact wpAny_pure ⟨rfl, GxR.keeps_refl _⟩
    · have li : i < xs.length := by rw [rv.length]; exact (List.getElem?_eq_some_iff.mp hv).1
      obtain ⟨u, hu, ru⟩ := rv.get (List.getElem?_eq_getElem li)
      rw [hv] at hu
      cases hu
      refine wpAny_mono (hel pins s1 t _ cv _ A' E' i _ v m I1 hA hU (List.getElem?_eq_getElem li) ru hn hm fun b u n e => ?_) (fun y t' r => r) fun _ _ e => e
      have e3 := up b u n e
      refine hkp b (List.mem_range.mpr (Heap.lt_size e3)) (fun z => ?_) u (hk b u e3)
      have z2 : b = s1.heap.objs.size := by simpa using z
      exact Nat.lt_irrefl _ (z2 ▸ Heap.lt_size e)
  · intro g h5 tk5 gs hgb hag hsz5 hk5 W5 hat
    have el : its.length = ys.length := by rw [hyl, ← rv.length]
    simp only [GxR.passing_true, List.length_range, el] at W5 hat
    refine hQ ys H1 g _ (by rw [hyl]; exact hz) q1 ⟨_, _, _, _, _, W5, hat, ?_, List.mem_cons_self, fun i s9 st => st.1.typeIs, ?_, fun s' mv => ?_⟩
    · intro b hb
      show b < h5.objs.size
      rw [hsz5]
      rcases List.mem_cons.mp hb with q | q
      · rw [q]; exact Nat.lt_succ_self _
      · rcases List.mem_cons.mp q with q | q
        · rw [q]; exact Nat.lt_succ_of_lt hag
        · exact Nat.lt_succ_of_lt (Nat.lt_trans (List.mem_range.mp q) hag)
    · intro j v hv
      obtain ⟨i, hij, y0, hy, r⟩ := hv
      obtain ⟨hj, ej⟩ := List.getElem?_eq_some_iff.mp hij
      rw [List.getElem_range] at ej
      subst ej
      exact ⟨y0, hy, r⟩
    · have out : ∀ b u, s1.heap.get? b = some u → b ∉ h3.objs.size :: [s1.heap.objs.size] := fun b u e hb => by
        have l := Heap.lt_size e
        rcases List.mem_cons.mp hb with q | q
        · rw [q] at l
          exact absurd l (Nat.not_lt.mpr (Nat.le_of_succ_le sz))
        · have q2 : b = s1.heap.objs.size := by simpa using q
          exact Nat.lt_irrefl _ (q2 ▸ l)
      have J := GxR.inv_tab (more := more) (h' := s'.heap) (g' := s'.gens) (d' := s'.drawn) (t' := s'.toks) I1 hP (fun b u n e => mv.heap b u (out b u e) (hk5 b u (up b u n e))) (mv.heap P _ (out P _ tabS) (hk5 P _ tab3)) (AllBare.movedS (I1.bare.push hgb) mv)
      rw [GxR.sh_eta s1 s' mv.os] at J
      exact ⟨_, ⟨⟨ps ++ more, upd_same, tr3⟩, fun b hb => upd_ne hb⟩, J⟩
/-- tuple(elt for x in e) -/
def tTupG (X : Cx) (scope : Scope) (x : Str) (elt : Expr) (P : Addr) (te : TE) : TE := fun σ H Q => te σ H fun v H1 => ∃ (a : Addr) (xs ys : List V), v = .ref a ∧ Sq X.K H1 a xs ∧ ys.length = xs.length ∧ (∀ pins, EltV X pins σ scope x elt P H1 xs ys) ∧ GxR.TabG H1 P ∧
  ∀ H2, GxR.Tabbed P H1 H2 → ∀ p, H2 p = none → Q (.ref p) (upd H2 p (.tup ys))
theorem items_vals {ys : List V} {F : Nat → Value → Prop} {acc : Array Value} {n : Nat} (hn : ys.length = n) (hF : ∀ j v, F j v → ∃ y, ys[j]? = some y ∧ RelV y v) (h : ItemsOf F acc n) : Vals ys acc.toList := by
  have gen : ∀ (l : List Value) (zs : List V), zs.length = l.length → (∀ (j : Nat) (v : Value), l[j]? = some v → ∃ y, zs[j]? = some y ∧ RelV y v) → Vals zs l := by
    intro l
    induction l with
    | nil => intro zs e _; cases zs with
      | nil => exact .nil
      | cons z r => cases e
    | cons v r ih => intro zs e k; cases zs with
      | nil => cases e
      | cons z q =>
        obtain ⟨y, hy, ry⟩ := k 0 v rfl
        cases hy
        exact .cons ry (ih q (by simpa using e) fun j v hv => k (j + 1) v hv)
  refine gen acc.toList ys (by rw [hn, ← h.1]; simp) fun j v hv => hF j v (h.2 j v (by simpa using hv))
theorem pe_tupG {c P : Addr} {elt iter : Expr} {x : Str} {px p pos gpos : Pos} {scope : Scope} {te : TE} {k : Nat}
    (hr : Room k X.A) (hg : Gl X "tuple") (hm : X.mg "tuple" = none) (TB : GxR.TabB X.base X.mg c P) (hcode : X.env.code = .ref c) (S : GxR.GenS X.env scope x) (hi : PE X iter te) (hs : ∀ v, genFold iter X.env v = pure v)
    (he : starEach [.GeneratorExp elt [⟨.Name x px, iter, [], 0⟩] scope gpos] X.env = (false, eval (.GeneratorExp elt [⟨.Name x px, iter, [], 0⟩] scope gpos) X.env) :: starEach [] X.env := by rfl) :
    PE X (.Call (.Name "tuple" p) [.GeneratorExp elt [⟨.Name x px, iter, [], 0⟩] scope gpos] [] pos) (tTupG X scope x elt P te) := by
  refine ⟨fun pins s σ H Q I h => ?_⟩
  refine wpAny_Call_Name_kw (ld_blt I hg hm boot_tuple (PyProof.Rows.callWith_type1 ?_ he (by rfl)))
  rw [he]
  show wpAny _ _ (spliced ((false, _) :: backTo pos (starEach [] X.env))) _ _ s
  unfold tTupG at h
  refine Calls.spliced_cons (gen_sq (te := te) (R := fun ys H1 => ∀ H2, GxR.Tabbed P H1 H2 → ∀ p, H2 p = none → Q (.ref p) (upd H2 p (.tup ys))) hr TB hcode S hi hs I (H := H) h fun ys H1 g s5 hz hR hG => ?_)
  · obtain ⟨fp, wr, G, F, St, W, st, hfp, hgf, hty, hF, hI⟩ := hG
    refine Calls.spliced_nil (call_tuple_gen W.in4_3 hty st hfp hgf (fun s' acc mv ia => ?_) hz)
    obtain ⟨H2, hT, J⟩ := hI s' mv
    have rv := items_vals rfl hF ia
    refine ⟨.ref s'.heap.objs.size, _, J.laid (t' := s'.toks) (o := .tup ys) (fun b u e => Heap.get?_push_of_some _ e) (Nat.le_refl _) ⟨hz, acc.toList, rv, ?_⟩, rfl, hR H2 hT _ (J.hok.fresh (Nat.le_refl _))⟩
    have z := IsTup.new s'.heap acc
    simpa using z
/-- all(elt for x in e), any(elt for x in e), the element True or False -/
def tAllG (X : Cx) (scope : Scope) (x : Str) (elt : Expr) (P : Addr) (te : TE) : TE := fun σ H Q => te σ H fun v H1 => ∃ (a : Addr) (xs ys : List V), v = .ref a ∧ Sq X.K H1 a xs ∧ ys.length = xs.length ∧ (∀ pins, EltV X pins σ scope x elt P H1 xs ys) ∧ GxR.TabG H1 P ∧
  ∃ bs : List Bool, ys = bs.map V.bl ∧ ∀ H2, GxR.Tabbed P H1 H2 → Q (.bl (bs.all id)) H2
def tAnyG (X : Cx) (scope : Scope) (x : Str) (elt : Expr) (P : Addr) (te : TE) : TE := fun σ H Q => te σ H fun v H1 => ∃ (a : Addr) (xs ys : List V), v = .ref a ∧ Sq X.K H1 a xs ∧ ys.length = xs.length ∧ (∀ pins, EltV X pins σ scope x elt P H1 xs ys) ∧ GxR.TabG H1 P ∧
  ∃ bs : List Bool, ys = bs.map V.bl ∧ ∀ H2, GxR.Tabbed P H1 H2 → Q (.bl (bs.any id)) H2
theorem truth_bls {A : Around} {bs : List Bool} {F : Nat → Value → Prop} (hF : ∀ j v, F j v → ∃ y, (bs.map V.bl)[j]? = some y ∧ RelV y v) : TruthOf X.prog X.w A F (fun j => bs.getD j false) := by
  intro j v t Q E hv hq
  obtain ⟨y, hy, r⟩ := hF j v hv
  rw [List.getElem?_map] at hy
  cases e : bs[j]? with
  | none => rw [e] at hy; cases hy
  | some b =>
    rw [e] at hy
    cases hy
    cases (show v = Value.bool b from r)
    have e2 : bs.getD j false = b := by rw [List.getD_eq_getElem?_getD, e]; rfl
    exact wpAny_truthy_bool (by rw [← e2]; exact hq)
theorem all_range (bs : List Bool) : (List.range bs.length).all (fun j => bs.getD j false) = bs.all id := by
  rw [Bool.eq_iff_iff, List.all_eq_true, List.all_eq_true]
  constructor
  · intro h b hb
    obtain ⟨j, hj, e⟩ := List.getElem_of_mem hb
    have q := h j (List.mem_range.mpr hj)
    rw [List.getD_eq_getElem?_getD, List.getElem?_eq_getElem hj, e] at q
    exact q
  · intro h j hj
    have hj' := List.mem_range.mp hj
    rw [List.getD_eq_getElem?_getD, List.getElem?_eq_getElem hj']
    exact h _ (List.getElem_mem hj')
theorem any_range (bs : List Bool) : (List.range bs.length).any (fun j => bs.getD j false) = bs.any id := by
  rw [Bool.eq_iff_iff, List.any_eq_true, List.any_eq_true]
  constructor
  · intro ⟨j, hj, q⟩
    have hj' := List.mem_range.mp hj
    rw [List.getD_eq_getElem?_getD, List.getElem?_eq_getElem hj'] at q
    exact ⟨_, List.getElem_mem hj', q⟩
  · intro ⟨b, hb, q⟩
    obtain ⟨j, hj, e⟩ := List.getElem_of_mem hb
    refine ⟨j, List.mem_range.mpr hj, ?_⟩
    rw [List.getD_eq_getElem?_getD, List.getElem?_eq_getElem hj, e]
    exact q
theorem pe_allG {c P : Addr} {elt iter : Expr} {x : Str} {px p pos gpos : Pos} {scope : Scope} {te : TE} {k : Nat}
    (hr : Room k X.A) (hg : Gl X "all") (hm : X.mg "all" = none) (TB : GxR.TabB X.base X.mg c P) (hcode : X.env.code = .ref c) (S : GxR.GenS X.env scope x) (hi : PE X iter te) (hs : ∀ v, genFold iter X.env v = pure v)
    (he : starEach [.GeneratorExp elt [⟨.Name x px, iter, [], 0⟩] scope gpos] X.env = (false, eval (.GeneratorExp elt [⟨.Name x px, iter, [], 0⟩] scope gpos) X.env) :: starEach [] X.env := by rfl) :
    PE X (.Call (.Name "all" p) [.GeneratorExp elt [⟨.Name x px, iter, [], 0⟩] scope gpos] [] pos) (tAllG X scope x elt P te) := by
  refine ⟨fun pins s σ H Q I h => ?_⟩
  refine wpAny_Call_Name_kw (ld_blt I hg hm boot_all (PyProof.Rows.callWith_builtin1 ?_ he (by rfl)))
  rw [he]
  show wpAny _ _ (spliced ((false, _) :: backTo pos (starEach [] X.env))) _ _ s
  unfold tAllG at h
  refine Calls.spliced_cons (gen_sq (te := te) (R := fun ys H1 => ∃ bs : List Bool, ys = bs.map V.bl ∧ ∀ H2, GxR.Tabbed P H1 H2 → Q (.bl (bs.all id)) H2) hr TB hcode S hi hs I (H := H) h fun ys H1 g s5 hz hR hG => ?_)
  obtain ⟨bs, rfl, hR⟩ := hR
  obtain ⟨fp, wr, G, F, St, W, st, hfp, hgf, hty, hF, hI⟩ := hG
  refine Calls.spliced_nil (call_all_walkS (W.in4_1.self 0 _ _ _ st ⟨g, fp, wr, G, _, F, St, _, rfl, W.in4_1, st, truth_bls hF, fun s' mv => ?_⟩))
  obtain ⟨H2, hT, J⟩ := hI s' mv
  refine ⟨.bl _, H2, J, rfl, ?_⟩
  rw [List.length_map, all_range]
  exact hR H2 hT
theorem pe_anyG {c P : Addr} {elt iter : Expr} {x : Str} {px p pos gpos : Pos} {scope : Scope} {te : TE} {k : Nat}
    (hr : Room k X.A) (hg : Gl X "any") (hm : X.mg "any" = none) (TB : GxR.TabB X.base X.mg c P) (hcode : X.env.code = .ref c) (S : GxR.GenS X.env scope x) (hi : PE X iter te) (hs : ∀ v, genFold iter X.env v = pure v)
    (he : starEach [.GeneratorExp elt [⟨.Name x px, iter, [], 0⟩] scope gpos] X.env = (false, eval (.GeneratorExp elt [⟨.Name x px, iter, [], 0⟩] scope gpos) X.env) :: starEach [] X.env := by rfl) :
    PE X (.Call (.Name "any" p) [.GeneratorExp elt [⟨.Name x px, iter, [], 0⟩] scope gpos] [] pos) (tAnyG X scope x elt P te) := by
  refine ⟨fun pins s σ H Q I h => ?_⟩
  refine wpAny_Call_Name_kw (ld_blt I hg hm boot_any (PyProof.Rows.callWith_builtin1 ?_ he (by rfl)))
  rw [he]
  show wpAny _ _ (spliced ((false, _) :: backTo pos (starEach [] X.env))) _ _ s
  unfold tAnyG at h
  refine Calls.spliced_cons (gen_sq (te := te) (R := fun ys H1 => ∃ bs : List Bool, ys = bs.map V.bl ∧ ∀ H2, GxR.Tabbed P H1 H2 → Q (.bl (bs.any id)) H2) hr TB hcode S hi hs I (H := H) h fun ys H1 g s5 hz hR hG => ?_)
  obtain ⟨bs, rfl, hR⟩ := hR
  obtain ⟨fp, wr, G, F, St, W, st, hfp, hgf, hty, hF, hI⟩ := hG
  refine Calls.spliced_nil (call_any_walkS (W.in4_1.self 0 _ _ _ st ⟨g, fp, wr, G, _, F, St, _, rfl, W.in4_1, st, truth_bls hF, fun s' mv => ?_⟩))
  obtain ⟨H2, hT, J⟩ := hI s' mv
  refine ⟨.bl _, H2, J, rfl, ?_⟩
  rw [List.length_map, any_range]
  exact hR H2 hT
/-- an element f[x]: f a captured name of a tuple, x the walk's own -/
theorem elt_item {f x : Str} {scope : Scope} {P fa : Addr} {H1 : Hp} {xs ys zs : List V} {j : Nat} {p1 p2 p3 : Pos} (hk : scope.kind = .function) (hx : scope.names.lookup x = some .local) (hf : scope.names.lookup f = some .free)
    (hcl : (cloFrom X.env.cells scope.names []).lookup f = some ((X.env.cells.lookup f).getD 0)) (hj : X.N[j]? = some f) (hkf : X.env.kindOf f = some .cell) (hσ : σ[j]? = some (some (.ref fa))) (hq : SqT X.K H1 fa zs) (hT : GxR.TabG H1 P)
    (hv : ∀ (i : Nat) x0, xs[i]? = some x0 → ∃ (n : Int) (y : V), x0 = .int n ∧ atI zs n = some y ∧ ys[i]? = some y) (hdf : (f == ("__debug__" : Str)) = false := by decide) (hdx : (x == ("__debug__" : Str)) = false := by decide) (hcf : (f == ("__classdict__" : Str)) = false := by decide) :
    EltV X pins σ scope x (.Subscript (.Name f p1) (.Name x p2) p3) P H1 xs ys := by
  intro s1 t C code bi A' E' i x0 u m I hA hU hx0 ru hn hm hkp
  obtain ⟨n, y, rfl, hat, hy⟩ := hv i x0 hx0
  obtain ⟨tk, rfl⟩ := (show ∃ t, u = Value.int n t from ru)
  obtain ⟨ps, hP, _⟩ := hT
  have tabS : s1.heap.get? P = some { cls := .none, data := .fields ps } := I.hok P _ hP
  obtain ⟨m1, _, hl⟩ := I.loc
  obtain ⟨uf, rf, lk⟩ := hl j f _ hj hσ (.inr (.inl hkf))
  cases (show uf = Value.ref fa from rf)
  obtain ⟨c, hc, ic⟩ : ∃ c, X.env.cells.lookup f = some c ∧ s1.heap.IsCell c (some (.ref fa)) := by
    rcases lk with ⟨z, _⟩ | ⟨_, c, hc, ic⟩
    · rw [hkf] at z; cases z
    · exact ⟨c, hc, ic⟩
  have ic2 : t.heap.IsCell c (some (.ref fa)) := by
    obtain ⟨o, ho, hd⟩ := ic
    refine ⟨o, hkp c o (fun z => ?_) ho, hd⟩
    rw [z, tabS] at ho
    cases ho
    cases hd
  obtain ⟨its, rv, pl, hz⟩ := I.tuple hq
  have pl2 : IsTup t.heap fa its.toArray := by
    obtain ⟨o, ho, hcl', nn, hd⟩ := pl
    refine ⟨o, hkp fa o (fun z => ?_) ho, hcl', nn, hd⟩
    rw [z, tabS] at ho
    cases ho
    cases hd
  obtain ⟨jj, h1, h2, h3, h4, h5⟩ := atI_get hat
  obtain ⟨wv, ew, rw'⟩ := rv.get h2
  have hlen := rv.length
  have hn63 := line63
  have clf : (genEnv scope (cloFrom X.env.cells scope.names []) C code bi X.env).cells.lookup f = some c := by
    show (cloFrom X.env.cells scope.names []).lookup f = some c
    rw [hcl, hc]
    rfl
  refine Subscript_ (wpAny_Name (wpAny_loadName_free hk hf clf ic2 (wpAny_Name (wpAny_loadName_local hk hx hn hm ?_) hdx) hcf) hdf)
  exact subscriptTail_builtinR (x := wv) pl2.typeIs slot_tuple_getitem.lookup
    (getItem_tuple (j := jj) (Q := fun r s' => r = wv ∧ ((∃ y0, ys[i]? = some y0 ∧ RelV y0 r) ∧ Keeps t s')) pl2 (by omega) (by omega) (by rw [List.size_toArray, ← hlen]; exact h1) (by simpa using ew) ⟨rfl, ⟨y, hy, rw'⟩, GxR.keeps_refl _⟩) (by rfl)
end
end Gv

set_option Elab.async false
set_option linter.all false
set_option maxRecDepth 100000
set_option maxHeartbeats 4000000
/-! enumerate(t), t a tuple -/
namespace Et
open PySem PySem.Spec PyProof.Rows L2
theorem meets_one {v : Value} {o : Obj} {B : Heap → Prop} (hB : Begins v o B) :
    Meets (Builtin.«enumerate.__new__» ⟨[.type "enumerate", v], []⟩) (fun _ R s => B s.heap ∧
      R (.ok (.ret (.ref (s.heap.push o).objs.size))) { s with heap := (s.heap.push o).push { cls := .type "enumerate", data := .fields #[.none, .bool false, .ref s.heap.objs.size, rawInt 0, .none, .none] } }) :=
  .of_wp fun prog w A R s h => by
    obtain ⟨hp, g, d, tk, os⟩ := s
    obtain ⟨hb, h⟩ := h
    have hsub := sub_enumerate
    have begin1 : ∀ {A1 : Around} {E1 : Value → Shared → Prop} {Q1 : Value → Shared → Prop}, Q1 (.ref hp.objs.size) ⟨hp.push o, g, d, tk, os⟩ → wpAny (model prog w) A1 (pyIter v) Q1 E1 ⟨hp, g, d, tk, os⟩ := fun q => hB.iter prog w _ _ ⟨hp, g, d, tk, os⟩ _ hb q
    wp_walk using begin1
    refine wpAny_stack_any fun stk => wpAny_pure ?_
    split
    next c _ _ _ _ _ =>
      cases (c == Value.type "enumerate") <;> (wp_walk using begin1; exact ⟨_, rfl, h⟩)
    next => wp_walk using begin1; exact ⟨_, rfl, h⟩
theorem make {prog : Program} {w : World} {A : Around} {E : Value → Shared → Prop} {s : Shared} {v : Value} {o : Obj} {B : Heap → Prop} {Q : Value → Shared → Prop} (hB : Begins v o B) (hb : B s.heap)
    (k : ∀ h', IsEnum h' (s.heap.objs.size + 1) s.heap.objs.size 0 .none → h'.get? s.heap.objs.size = some o → (∀ b o, s.heap.get? b = some o → h'.get? b = some o) → Q (.ref (s.heap.objs.size + 1)) { s with heap := h' }) :
    wpAny (model prog w) A (call (.type "enumerate") [v]) Q E s := by
  refine callType_new F.called_enumerate (by decide) (F.typeCall_enumerate_1 _) (F.newCall_enumerate_1 _) (fun obj => F.args_object_init_2 obj _) F.entry_enumerate_new (meets_one hB) ⟨hb, ?_⟩
  have z : (s.heap.push o).objs.size = s.heap.objs.size + 1 := Heap.size_push ..
  generalize hn : ({ cls := .type "enumerate", data := .fields #[.none, .bool false, .ref s.heap.objs.size, rawInt 0, .none, .none] } : Obj) = en
  have e : ((s.heap.push o).push en).get? (s.heap.objs.size + 1) = some en := by
    have q := Heap.get?_push_size (s.heap.push o) (o := en) (by rw [← hn]; rfl)
    rw [z] at q
    exact q
  have ie : IsEnum ((s.heap.push o).push en) (s.heap.objs.size + 1) s.heap.objs.size 0 .none := by
    subst hn
    exact e
  show _ ∧ _
  rw [z]
  exact ⟨⟨_, e, by rw [← hn]⟩, k _ ie (Heap.get?_push_of_some _ (Heap.get?_push_size _ hB.free)) fun b u x => Heap.get?_push_of_some _ (Heap.get?_push_of_some _ x)⟩
/-- the tuple at a walked with its places -/
def ItE (K : PySem.W.Frag) (a : Addr) : It :=
  ⟨fun i H => ∃ (xs : List V) (x : V), SqT K H a xs ∧ xs[i]? = some x, fun i H v H' => ∃ T x, v = .ref T ∧ H T = none ∧ H' = upd H T (.tup [.int (i : Nat), x]) ∧ ∀ xs, SqT K H a xs → xs[i]? = some x,
    fun i H => ∃ xs : List V, SqT K H a xs ∧ xs.length = i⟩
theorem turn {P : Program} {w : World} {K : PySem.W.Frag} {elts : List Expr} {kk : Nat} {tpos : Pos} (a e it : Addr) (hei : e ≠ it) :
    Turn P w K (.Tuple elts kk tpos) (ItE K a) [e, it] e (fun i h => (∃ old, IsEnum h e it ((i : Nat) : Int) old) ∧ h.IsTupleIter it a i) where
  mem := List.mem_cons_self
  obj := fun i h st b hb => by
    obtain ⟨⟨old, he⟩, o, ho, _, hd⟩ := st
    rcases List.mem_cons.mp hb with z | z
    · rw [z]; exact ⟨_, he, fun v q => nomatch q⟩
    · rw [List.mem_singleton.mp z]; exact ⟨o, ho, fun v q => by rw [hd] at q; cases q⟩
  keep := fun i h h' st k => ⟨let ⟨old, he⟩ := st.1; ⟨old, k e (by simp) _ he⟩, st.2.at fun o q => k it (by simp) o q⟩
  item := by
    intro X hP hw hK hc i pins s σ H E I hf st hg
    subst hP hw hK
    obtain ⟨⟨old, he⟩, hit⟩ := st
    obtain ⟨xs, x, hq, hx⟩ := hg
    obtain ⟨its, rv, pl, hz⟩ := I.tuple hq
    obtain ⟨u, hu, ru⟩ := rv.get hx
    have le : e < s.heap.objs.size := Heap.lt_size he
    have li : it < s.heap.objs.size := by obtain ⟨_, q, _⟩ := hit; exact Heap.lt_size q
    have nai : a ≠ it := fun z => by
      obtain ⟨o, q, hcl, _⟩ := hit
      obtain ⟨o2, q2, hcl2, _⟩ := pl
      rw [z, q] at q2
      cases q2
      rw [hcl] at hcl2
      exact absurd (Value.type.inj hcl2) (by decide)
    have nea : e ≠ a := fun z => by
      obtain ⟨o2, q2, hcl2, _⟩ := pl
      rw [← z] at q2
      have q3 := Option.some.inj (he.symm.trans q2)
      rw [← q3] at hcl2
      exact absurd (Value.type.inj hcl2) (by decide)
    have D := Draws.tuple (prog := X.prog) (w := X.w) (A := X.A.in1) (I.ok.hd hc) it a nai its.toArray
    have hlt : i < its.toArray.size := by simpa using (List.getElem?_eq_some_iff.mp hu).1
    refine wpAny_pyNext_enum_itemD D he ⟨hit, pl⟩ hlt hei (by simp [hei, nea]) fun y h' tk hy ho st' hT hsz hk => ?_
    obtain rfl : y = u := by
      have q : its[i]? = some y := by simpa using hy
      exact Option.some.inj (q.symm.trans hu)
    refine ⟨_, rfl, wpAny_letOwnedTupleGo_enum (s := { s with heap := h', toks := tk + 1 }) ho fun h'' he' sb => ?_⟩
    have tT : h''.get? s.heap.objs.size = some { cls := .type "tuple", data := .seq #[.int i tk, y] } := (sb.2 _ (Nat.ne_of_gt le)).trans hT
    have J : Inv X pins σ (upd H s.heap.objs.size (.tup [.int (i : Nat), x])) { s with heap := h'', toks := tk + 1 } :=
      I.turnedNew (ch := [e, it]) (fun b ob nb q => (sb.2 b (fun z => nb (by simp [z]))).trans (hk b ob (fun z => nb (by simp [z])) (fun z => nb (by simp [z])) q)) hf (Nat.le_refl _)
        ⟨by show 2 ≤ sizeLine; decide, [.int i tk, y], .cons ⟨_, rfl⟩ (.cons ru .nil), ⟨_, tT, rfl, _, rfl⟩⟩
    refine ⟨.ref s.heap.objs.size, _, J, rfl, ⟨_, x, rfl, I.hok.fresh (Nat.le_refl _), rfl, fun ys hy => by rw [I.tuple_inj hy hq]; exact hx⟩, ⟨⟨y, ?_⟩, st'.1.at fun o q => (sb.2 it (Ne.symm hei)).trans q⟩, fun b hb => ?_⟩
    · have c1 : ((i + 1 : Nat) : Int) = (i : Int) + 1 := by omega
      rw [c1]; exact he'
    · have lb : b < s.heap.objs.size := by
        rcases List.mem_cons.mp hb with z | z
        · rw [z]; exact le
        · rw [List.mem_singleton.mp z]; exact li
      rw [upd_ne (Nat.ne_of_lt lb)]
      exact (hf b hb).1
  done := by
    intro X hP hw hK hc i pins s σ H E I hf st hg
    subst hP hw hK
    obtain ⟨⟨old, he⟩, hit⟩ := st
    obtain ⟨xs, hq, hx⟩ := hg
    obtain ⟨its, rv, pl, hz⟩ := I.tuple hq
    obtain ⟨f0, f1, f2, f3, f4, f5⟩ := hf it (by simp)
    have hl := rv.length
    have nai : a ≠ it := fun z => by
      obtain ⟨o, q, hcl, _⟩ := hit
      obtain ⟨o2, q2, hcl2, _⟩ := pl
      rw [z, q] at q2
      cases q2
      rw [hcl] at hcl2
      exact absurd (Value.type.inj hcl2) (by decide)
    have D := Draws.tuple (prog := X.prog) (w := X.w) (A := X.A.in1) (I.ok.hd hc) it a nai its.toArray
    have en : i = its.toArray.size := by rw [List.size_toArray, ← hl, hx]
    exact wpAny_pyNext_enum_endD D he (by rw [← en]; exact ⟨hit, pl⟩) fun h' eb => ⟨rfl, I.turned (t' := s.toks) (fun b o hb q => eb b o hb q) f0 f1 f3 f4 f5⟩
  self := fun A i s Q E st h => let ⟨⟨_, he⟩, _⟩ := st; wpAny_pyIter_enum he h
def iEnumT (K : PySem.W.Frag) (ta : TA) : TI := fun σ H R => ta σ H fun vs H1 => ∃ a xs, vs = [.ref a] ∧ SqT K H1 a xs ∧ R (ItE K a) H1
theorem pi_enumT {X : Cx} {e : Expr} {ta : TA} {p pos tpos : Pos} {elts : List Expr} {kk : Nat} (hg : Gl X "enumerate") (hm : X.mg "enumerate" = none) (ha : PA X [e] ta) (hs : starEach [e] X.env = [(false, eval e X.env)] := by rfl) :
    PI X (.Tuple elts kk tpos) (.Call (.Name "enumerate" p) [e] [] pos) (iEnumT X.K ta) := by
  refine ⟨fun pins s σ H R I h => ?_⟩
  refine Call_ (ld_blt I hg hm boot_enumerate (PyProof.Rows.callWith_type1 (thn (ha.run pos pins s σ H _ I h) fun us s1 ⟨vs, H1, I1, r1, q1⟩ => ?_) hs rfl))
  obtain ⟨a, xs, rfl, hq, q⟩ := q1
  obtain ⟨u, rfl, ru⟩ := vals1 r1
  cases (show u = Value.ref a from ru)
  obtain ⟨its, rv, pl, hz⟩ := I1.tuple hq
  refine make (begins_tuple a its.toArray) pl fun h' ie io kp => wpAny_pyIter_enum ie ?_
  refine ⟨s1.heap.objs.size + 1, [s1.heap.objs.size + 1, s1.heap.objs.size], _, _, H1, rfl, I1.kept (t' := s1.toks) kp, turn a (s1.heap.objs.size + 1) s1.heap.objs.size (Nat.succ_ne_self _), ⟨⟨.none, ie⟩, _, io, rfl, rfl⟩, fun b hb => ?_, q⟩
  have lb : s1.heap.objs.size ≤ b := by
    rcases List.mem_cons.mp hb with z | z
    · rw [z]; exact Nat.le_succ _
    · rw [List.mem_singleton.mp z]; exact Nat.le_refl _
  exact I1.fpOk lb (I1.hok.fresh lb)
/-- for (i, x) in enumerate(t): an invariant over the turns -/
theorem for_enumT {K : PySem.W.Frag} {a : Addr} {xs : List V} {g : TG} {tb : TS} {D : Ends} {σ : L2.St} {H : Hp} (Pv : Nat → L2.St → Hp → Prop) (h0 : Pv 0 σ H) (hl : ∀ i σ H, i ≤ xs.length → Pv i σ H → SqT K H a xs)
    (hs : ∀ i x σ H T, xs[i]? = some x → Pv i σ H → H T = none → g (.ref T) σ (upd H T (.tup [.int (i : Nat), x])) fun σ2 H2 => tb { D with nx := Pv (i + 1), ct := Pv (i + 1), bk := D.nx } σ2 H2) (hd : ∀ σ H, Pv xs.length σ H → D.nx σ H) :
    ∃ W : Nat → Nat → L2.St → Hp → Prop, (∃ m, W 0 m σ H) ∧ ∀ i m σ H, W i m σ H →
      ((ItE K a).stop i H ∧ D.nx σ H) ∨ ((ItE K a).go i H ∧ ∃ N : L2.St → Hp → Prop, (∀ σ' H', N σ' H' → ∃ m', m' < m ∧ W (i + 1) m' σ' H') ∧ ∀ x H', (ItE K a).yld i H x H' → g x σ H' fun σ2 H2 => tb { D with nx := N, ct := N, bk := D.nx } σ2 H2) := by
  refine ⟨fun i m σ H => i + m = xs.length ∧ Pv i σ H, ⟨xs.length, by omega, h0⟩, ?_⟩
  rintro i m σ H ⟨e, p⟩
  have q := hl i σ H (by omega) p
  by_cases c : i < xs.length
  · refine .inr ⟨⟨xs, xs[i], q, List.getElem?_eq_getElem c⟩, Pv (i + 1), fun σ' H' p' => ⟨m - 1, by omega, by omega, p'⟩, fun v H' hy => ?_⟩
    obtain ⟨T, x, rfl, nT, rfl, fx⟩ := hy
    exact hs i x σ H T (fx xs q) p nT
  · have e2 : i = xs.length := by omega
    subst e2
    exact .inl ⟨⟨xs, q, rfl⟩, hd σ H p⟩
theorem lc_enumT {K : PySem.W.Frag} {a : Addr} {xs : List V} {g : TG} {tt : TT} {te : TE} {vs : List Nat} {σ : L2.St} {H1 : Hp} {D : Addr} {Qd : Hp → Prop} (Pv : Nat → Hp → Prop) (h0 : Pv 0 (upd H1 D (.lst []))) (hl : ∀ i H, i ≤ xs.length → Pv i H → SqT K H a xs)
    (hs : ∀ i x H T, xs[i]? = some x → Pv i H → H T = none → g (.ref T) (wipe σ vs) (upd H T (.tup [.int (i : Nat), x])) fun σ2 H2 => wipe σ2 vs = wipe σ vs ∧ tt σ2 H2 fun b H3 =>
      if b = true then te σ2 H3 fun y H4 => ∃ acc, H4 D = some (.lst acc) ∧ acc.length < sizeLine ∧ Pv (i + 1) (upd H4 D (.lst (acc ++ [y]))) else Pv (i + 1) H3) (hd : ∀ H, Pv xs.length H → Qd H) :
    ∃ W : Nat → Nat → Hp → Prop, (∃ m, W 0 m (upd H1 D (.lst []))) ∧ ∀ i m H, W i m H →
      ((ItE K a).stop i H ∧ Qd H) ∨ ((ItE K a).go i H ∧ ∃ Nx : Hp → Prop, (∀ H', Nx H' → ∃ m', m' < m ∧ W (i + 1) m' H') ∧ ∀ x H', (ItE K a).yld i H x H' → g x (wipe σ vs) H' fun σ2 H2 => wipe σ2 vs = wipe σ vs ∧ tt σ2 H2 fun b H3 =>
        if b = true then te σ2 H3 fun y H4 => ∃ acc, H4 D = some (.lst acc) ∧ acc.length < sizeLine ∧ Nx (upd H4 D (.lst (acc ++ [y]))) else Nx H3) := by
  refine ⟨fun i m H => i + m = xs.length ∧ Pv i H, ⟨xs.length, by omega, h0⟩, ?_⟩
  rintro i m H ⟨e, p⟩
  have q := hl i H (by omega) p
  by_cases c : i < xs.length
  · refine .inr ⟨⟨xs, xs[i], q, List.getElem?_eq_getElem c⟩, Pv (i + 1), fun H' p' => ⟨m - 1, by omega, by omega, p'⟩, fun v H' hy => ?_⟩
    obtain ⟨T, x, rfl, nT, rfl, fx⟩ := hy
    exact hs i x H T (fx xs q) p nT
  · have e2 : i = xs.length := by omega
    subst e2
    exact .inl ⟨⟨xs, q, rfl⟩, hd H p⟩
end Et

set_option Elab.async false
set_option linter.all false
set_option maxRecDepth 100000
set_option maxHeartbeats 4000000
/-! riddles as they lie in the heap, their data, and what a filling breaks -/
namespace Dt
open PySem PySem.Spec PyProof.Rows L2
/-! ### in, of a tuple of data -/
def rInT (K : PySem.W.Frag) : R2 := fun x y H Q => ∃ d ds, Dp K H x d ∧ Dp K H y (.tuple ds) ∧ SeqAt.shaped d = true ∧ SeqAt.shaped (.tuple ds) = true ∧ Q (.bl (ds.any fun z => PyData.eqv z d)) H
theorem op_inT {X : Cx} (hu : X.A.units + 65 < cLine) : OpR X (compareOp .In) (rInT X.K) := by
  intro pins s σ H x y v u Q I rx ry h
  obtain ⟨d, ds, hd, he, sd, se, q⟩ := h
  obtain ⟨as, r1⟩ := Dp.reads I d x v hd rx
  obtain ⟨bs, r2⟩ := Dp.reads I (.tuple ds) y u he ry
  exact SeqAt.in_tuple_reads r2 r1 (SeqAt.canLay_of_shaped se) (SeqAt.canLay_of_shaped sd) (room_in_shaped sd hu) ⟨.bl _, H, I, rfl, q⟩
/-! ### wishes and riddles -/
abbrev Row := List Int
abbrev WD := List Int × List Row
def IsRow (H : Hp) (r : Addr) (row : Row) : Prop := H r = some (.tup (row.map V.int))
def IsWish (H : Hp) (wa : Addr) (wd : WD) : Prop := ∃ (pa ra : Addr) (rs : List Addr), H wa = some (.tup [.ref pa, .ref ra]) ∧ H pa = some (.tup (wd.1.map V.int)) ∧ H ra = some (.tup (rs.map V.ref)) ∧ Paired (IsRow H) rs wd.2
def IsRid (H : Hp) (ri : Addr) (many hues : Int) (wds : List WD) : Prop := ∃ (wt : Addr) (was : List Addr), H ri = some (.tup [.int many, .int hues, .ref wt]) ∧ H wt = some (.tup (was.map V.ref)) ∧ Paired (IsWish H) was wds
/-- tuples stay -/
def Tups (H H' : Hp) : Prop := ∀ b xs, H b = some (.tup xs) → H' b = some (.tup xs)
theorem Tups.refl (H : Hp) : Tups H H := fun _ _ e => e
theorem Tups.trans {H H1 H2 : Hp} (a : Tups H H1) (b : Tups H1 H2) : Tups H H2 := fun c xs e => b c xs (a c xs e)
theorem tups_same {H H' : Hp} (s : Same H H') : Tups H H' := fun b xs e => s b _ e
theorem tups_upd {H : Hp} {p : Addr} {o : HO} (h : ∀ xs, H p ≠ some (.tup xs)) : Tups H (upd H p o) := fun b xs e => by
  rw [upd_ne (fun z => h xs (by rw [← z]; exact e))]
  exact e
theorem pairedMap {α β : Type} {F G : α → β → Prop} : ∀ {l : List α} {m : List β}, (∀ a b, F a b → G a b) → Paired F l m → Paired G l m
  | _, _, _, .nil => .nil
  | _, _, k, .cons h t => .cons (k _ _ h) (pairedMap k t)
theorem pairedLen {α β : Type} {F : α → β → Prop} : ∀ {l : List α} {m : List β}, Paired F l m → l.length = m.length
  | _, _, .nil => rfl
  | _, _, .cons _ t => by rw [List.length_cons, List.length_cons, pairedLen t]
theorem pairedGet {α β : Type} {F : α → β → Prop} : ∀ {l : List α} {m : List β} {i : Nat} {b : β}, Paired F l m → m[i]? = some b → ∃ a, l[i]? = some a ∧ F a b
  | _, _, _, _, .nil, h => by simp at h
  | _, _, 0, _, .cons h _, e => by cases e; exact ⟨_, rfl, h⟩
  | _, _, i + 1, b, .cons _ t, e => pairedGet (i := i) (b := b) t e
theorem pairedGetL {α β : Type} {F : α → β → Prop} : ∀ {l : List α} {m : List β} {i : Nat} {a : α}, Paired F l m → l[i]? = some a → ∃ b, m[i]? = some b ∧ F a b
  | _, _, _, _, .nil, h => by simp at h
  | _, _, 0, _, .cons h _, e => by cases e; exact ⟨_, rfl, h⟩
  | _, _, i + 1, a, .cons _ t, e => pairedGetL (i := i) (a := a) t e
theorem IsWish.mono {H H' : Hp} {wa : Addr} {wd : WD} (t : Tups H H') (h : IsWish H wa wd) : IsWish H' wa wd := by
  obtain ⟨pa, ra, rs, h1, h2, h3, h4⟩ := h
  exact ⟨pa, ra, rs, t _ _ h1, t _ _ h2, t _ _ h3, pairedMap (fun a b e => t _ _ e) h4⟩
theorem IsRid.mono {H H' : Hp} {ri : Addr} {m h : Int} {wds : List WD} (t : Tups H H') (x : IsRid H ri m h wds) : IsRid H' ri m h wds := by
  obtain ⟨wt, was, h1, h2, h3⟩ := x
  exact ⟨wt, was, t _ _ h1, t _ _ h2, pairedMap (fun _ _ e => IsWish.mono t e) h3⟩
/-- what may come of the law's drawing -/
structure Good (many hues : Int) (wd : WD) : Prop where
  one : 1 ≤ wd.1.length
  three : wd.1.length ≤ 3
  pl : ∀ p ∈ wd.1, 0 ≤ p ∧ p < many
  some_ : 1 ≤ wd.2.length
  few : wd.2.length ≤ 64
  row : ∀ r ∈ wd.2, r.length = wd.1.length ∧ ∀ h ∈ r, 0 ≤ h ∧ h < hues
structure GoodR (many hues : Int) (wds : List WD) : Prop where
  m1 : 1 ≤ many
  m6 : many ≤ 6
  h2 : 2 ≤ hues
  h4 : hues ≤ 4
  eight : wds.length ≤ 8
  each : ∀ wd ∈ wds, Good many hues wd
structure GoodF (many hues : Int) (fs : List Int) : Prop where
  len : (fs.length : Int) = many
  hue : ∀ h ∈ fs, 0 ≤ h ∧ h < hues
/-! ### the data -/
def rowD (r : Row) : PyData := .tuple (r.map .int)
def wishD (wd : WD) : PyData := .tuple [rowD wd.1, .tuple (wd.2.map rowD)]
def ridD (many hues : Int) (wds : List WD) : PyData := .tuple [.int many, .int hues, .tuple (wds.map wishD)]
section
variable {K : PySem.W.Frag} {H : Hp}
theorem dpInts : ∀ ns : List Int, DpAll K H (ns.map V.int) (ns.map PyData.int)
  | [] => .nil
  | n :: r => .cons (.int n) (dpInts r)
theorem dpRow {r : Addr} {row : Row} (h : IsRow H r row) : Dp K H (.ref r) (rowD row) := .tup (.inl (.inl h)) (dpInts row)
theorem dpRows : ∀ {rs : List Addr} {rows : List Row}, Paired (IsRow H) rs rows → DpAll K H (rs.map V.ref) (rows.map rowD)
  | _, _, .nil => .nil
  | _, _, .cons h t => .cons (dpRow h) (dpRows t)
theorem dpWish {wa : Addr} {wd : WD} (h : IsWish H wa wd) : Dp K H (.ref wa) (wishD wd) := by
  obtain ⟨pa, ra, rs, h1, h2, h3, h4⟩ := h
  exact .tup (.inl (.inl h1)) (.cons (dpRow h2) (.cons (.tup (.inl (.inl h3)) (dpRows h4)) .nil))
theorem dpWishes : ∀ {was : List Addr} {wds : List WD}, Paired (IsWish H) was wds → DpAll K H (was.map V.ref) (wds.map wishD)
  | _, _, .nil => .nil
  | _, _, .cons h t => .cons (dpWish h) (dpWishes t)
theorem dpRid {ri : Addr} {m h : Int} {wds : List WD} (x : IsRid H ri m h wds) : Dp K H (.ref ri) (ridD m h wds) := by
  obtain ⟨wt, was, h1, h2, h3⟩ := x
  exact .tup (.inl (.inl h1)) (.cons (.int m) (.cons (.int h) (.cons (.tup (.inl (.inl h2)) (dpWishes h3)) .nil)))
end
/-! ### data of this kind is laid, shallow, light and shown -/
/-- a measure of data: laid, at most so deep, at most so heavy, ints short, no dict -/
structure Fine (d : PyData) (n w : Nat) : Prop where
  lay : d.canLay0 = true
  dep : d.depth ≤ n
  wei : d.weight ≤ w
  sho : d.showable = true
  noD : d.hasDict = false
  sh13 : d.intsShort 13 = true
structure FineAll (ds : List PyData) (n w : Nat) : Prop where
  lay : PyData.canLayAll0 ds = true
  dep : PyData.depthAll ds ≤ n
  wei : PyData.weightAll ds ≤ w
  sho : PyData.showableAll ds = true
  noD : PyData.hasDictAll ds = false
  sh13 : PyData.intsShortAll 13 ds = true
theorem FineAll.nil (n : Nat) : FineAll [] n 0 := ⟨rfl, Nat.zero_le _, Nat.le_refl _, rfl, rfl, rfl⟩
theorem FineAll.cons {d : PyData} {ds : List PyData} {n w u : Nat} (h : Fine d n w) (t : FineAll ds n u) : FineAll (d :: ds) n (w + 1 + u) := by
  refine ⟨?_, ?_, ?_, ?_, ?_, ?_⟩
  · simp only [PyData.canLayAll0, h.lay, t.lay, Bool.and_self]
  · have a := h.dep
    have b := t.dep
    simp only [PyData.depthAll]
    omega
  · have a := h.wei
    have b := t.wei
    simp only [PyData.weightAll]
    omega
  · simp only [PyData.showableAll, h.sho, t.sho, Bool.and_self]
  · simp only [PyData.hasDictAll, h.noD, t.noD, Bool.or_self]
  · simp only [PyData.intsShortAll, h.sh13, t.sh13, Bool.and_self]
theorem Fine.tuple {ds : List PyData} {n w : Nat} (t : FineAll ds n w) : Fine (.tuple ds) (n + 1) w := by
  refine ⟨by simp only [PyData.canLay0]; exact t.lay, ?_, by simp only [PyData.weight]; exact t.wei, by simp only [PyData.showable]; exact t.sho, by simp only [PyData.hasDict]; exact t.noD, by simp only [PyData.intsShort]; exact t.sh13⟩
  have a := t.dep
  simp only [PyData.depth]
  omega
theorem Fine.list {ds : List PyData} {n w : Nat} (t : FineAll ds n w) : Fine (.list ds) (n + 1) w := by
  refine ⟨by simp only [PyData.canLay0]; exact t.lay, ?_, by simp only [PyData.weight]; exact t.wei, by simp only [PyData.showable]; exact t.sho, by simp only [PyData.hasDict]; exact t.noD, by simp only [PyData.intsShort]; exact t.sh13⟩
  have a := t.dep
  simp only [PyData.depth]
  omega
theorem Fine.mono {d : PyData} {n w n' w' : Nat} (h : Fine d n w) (a : n ≤ n') (b : w ≤ w') : Fine d n' w' := ⟨h.lay, Nat.le_trans h.dep a, Nat.le_trans h.wei b, h.sho, h.noD, h.sh13⟩
theorem FineAll.mono {d : List PyData} {n w n' w' : Nat} (h : FineAll d n w) (a : n ≤ n') (b : w ≤ w') : FineAll d n' w' := ⟨h.lay, Nat.le_trans h.dep a, Nat.le_trans h.wei b, h.sho, h.noD, h.sh13⟩
theorem fineAll_map {α : Type} {f : α → PyData} {n w : Nat} : ∀ (l : List α), (∀ x ∈ l, Fine (f x) n w) → FineAll (l.map f) n (l.length * (w + 1))
  | [], _ => FineAll.nil n |>.mono (Nat.le_refl _) (Nat.zero_le _)
  | x :: r, h => by
    have t := fineAll_map r fun y hy => h y (List.mem_cons_of_mem _ hy)
    refine (FineAll.cons (h x List.mem_cons_self) t).mono (Nat.le_refl _) ?_
    rw [List.length_cons, Nat.succ_mul]
    omega
theorem fine_int {i : Int} (h0 : 0 ≤ i) (h1 : i < 64) : Fine (.int i) 1 7 := by
  obtain ⟨n, rfl⟩ : ∃ n : Nat, i = n := ⟨i.toNat, by omega⟩
  have hn : n < 64 := by omega
  have hl : n.log2 ≤ 5 := by
    by_cases e : n = 0
    · subst e; decide
    · have := (Nat.log2_lt e).mpr (show n < 2 ^ 6 by omega)
      omega
  refine ⟨rfl, by simp [PyData.depth], ?_, ?_, rfl, ?_⟩
  · simp only [PyData.weight]
    split
    · omega
    · have e : ((n : Int)).natAbs = n := by omega
      rw [e]
      omega
  · simp only [PyData.showable]
    have e : ((n : Int)).natAbs = n := by omega
    rw [e]
    exact decide_eq_true (by omega)
  · have all : ∀ m : Nat, m < 64 → PyData.intsShort 13 (.int (m : Int)) = true := by decide +kernel
    exact all n hn
theorem Fine.shaped {d : PyData} {n w : Nat} (h : Fine d n w) (hn : n ≤ 64) : SeqAt.shaped d = true := by
  show (d.canLay0 && decide (d.depth ≤ 64)) = true
  rw [h.lay, decide_eq_true (Nat.le_trans h.dep hn)]
  rfl
theorem Fine.shows {d : PyData} {n w : Nat} (h : Fine d n w) (hn : n ≤ 64) (hw : w ≤ 1048576) : d.shown.length ≤ sizeLine := by
  have l : d.layable0 = true := by
    show (d.canLay0 && decide (d.depth ≤ 64) && decide (d.weight ≤ 2 ^ 20)) = true
    rw [h.lay, decide_eq_true (Nat.le_trans h.dep hn), decide_eq_true (show d.weight ≤ 2 ^ 20 from Nat.le_trans h.wei (Nat.le_trans hw (by decide)))]
    rfl
  exact Nat.le_trans (shown_le13 l h.sh13) (by decide)
/-! ### equality of rows -/
theorem eqvAll_ints : ∀ a b : List Int, PyData.eqvAll (a.map .int) (b.map .int) = decide (a = b)
  | [], [] => by simp [PyData.eqvAll]
  | [], _ :: _ => by simp [PyData.eqvAll]
  | _ :: _, [] => by simp [PyData.eqvAll]
  | x :: r, y :: q => by
    simp only [List.map_cons, PyData.eqvAll, PyData.eqv, eqvAll_ints r q]
    by_cases h : x = y
    · subst h; simp
    · simp [h]
theorem eqv_row (a b : Row) : PyData.eqv (rowD a) (rowD b) = decide (a = b) := by
  unfold rowD
  rw [PyData.eqv]
  exact eqvAll_ints a b
theorem anyRows (r : Row) : ∀ rows : List Row, ((rows.map rowD).any fun z => PyData.eqv z (rowD r)) = decide (r ∈ rows)
  | [] => by simp
  | x :: q => by
    rw [List.map_cons, List.any_cons, anyRows r q, eqv_row]
    by_cases h : x = r
    · subst h; simp
    · have h2 : ¬ r = x := fun e => h e.symm
      simp [h, h2]
/-! ### what is broken -/
def atF (fs : List Int) (p : Int) : Int := fs.getD p.toNat 0
def huesA (fs ps : List Int) : List Int := ps.map (atF fs)
def brk (fs : List Int) (wd : WD) : Bool := decide (huesA fs wd.1 ∈ wd.2)
def brkAt (fs : List Int) (wds : List WD) (k : Nat) : Bool := match wds[k]? with
  | some wd => brk fs wd
  | none => false
def broL (fs : List Int) (wds : List WD) (i : Nat) : List Int := ((List.range i).filter (brkAt fs wds)).map fun (k : Nat) => (k : Int)
theorem brkAt_of {fs : List Int} {wds : List WD} {k : Nat} {wd : WD} (h : wds[k]? = some wd) : brkAt fs wds k = brk fs wd := by
  unfold brkAt
  rw [h]
theorem broL_yes {fs : List Int} {wds : List WD} {i : Nat} (h : brkAt fs wds i = true) : broL fs wds (i + 1) = broL fs wds i ++ [(i : Int)] := by
  unfold broL
  rw [List.range_succ, List.filter_append, List.map_append]
  simp [h]
theorem broL_no {fs : List Int} {wds : List WD} {i : Nat} (h : brkAt fs wds i = false) : broL fs wds (i + 1) = broL fs wds i := by
  unfold broL
  rw [List.range_succ, List.filter_append, List.map_append]
  simp [h]
theorem broL_len (fs : List Int) (wds : List WD) (i : Nat) : (broL fs wds i).length ≤ i := by
  unfold broL
  rw [List.length_map]
  have q := List.length_filter_le (brkAt fs wds) (List.range i)
  rw [List.length_range] at q
  exact q
theorem broL_mem {fs : List Int} {wds : List WD} {i : Nat} {z : Int} (h : z ∈ broL fs wds i) : 0 ≤ z ∧ z < i := by
  unfold broL at h
  obtain ⟨k, hk, rfl⟩ := List.mem_map.mp h
  have := List.mem_range.mp (List.mem_filter.mp hk).1
  omega
theorem at_some {fs : List Int} {many hues : Int} {p : Int} (h : GoodF many hues fs) (h0 : 0 ≤ p) (h1 : p < many) : fs[p.toNat]? = some (atF fs p) := by
  have hl := h.len
  have hp : p.toNat < fs.length := by omega
  unfold atF
  rw [List.getD_eq_getElem?_getD, List.getElem?_eq_getElem hp]
  rfl
theorem atI_fs {fs : List Int} {many hues : Int} {p : Int} (h : GoodF many hues fs) (h0 : 0 ≤ p) (h1 : p < many) : atI (fs.map V.int) p = some (.int (atF fs p)) := by
  have e : p = ((p.toNat : Nat) : Int) := by omega
  have g : (fs.map V.int)[p.toNat]? = some (.int (atF fs p)) := by rw [List.getElem?_map, at_some h h0 h1]; rfl
  rw [e]
  rw [← e]
  have q := atI_nat g
  rw [← e] at q
  exact q
/-! ### riddles are fine data -/
theorem fine_row {r : Row} (h : ∀ z ∈ r, 0 ≤ z ∧ z < 64) (hl : r.length ≤ 8) : Fine (rowD r) 2 64 :=
  (Fine.tuple (fineAll_map r fun z hz => fine_int (h z hz).1 (h z hz).2)).mono (by omega) (by omega)
theorem fine_wish {many hues : Int} {wd : WD} (g : Good many hues wd) (hm : many ≤ 6) (hh : hues ≤ 4) : Fine (wishD wd) 4 5000 := by
  have a : Fine (rowD wd.1) 2 64 := fine_row (fun z hz => ⟨(g.pl z hz).1, by have := (g.pl z hz).2; omega⟩) (by have := g.three; omega)
  have b : Fine (.tuple (wd.2.map rowD)) 3 4200 := by
    refine (Fine.tuple (fineAll_map wd.2 fun r hr => fine_row (fun z hz => ⟨((g.row r hr).2 z hz).1, by have := ((g.row r hr).2 z hz).2; omega⟩) (by have := (g.row r hr).1; have := g.three; omega))).mono (Nat.le_refl _) ?_
    have := g.few
    omega
  exact (Fine.tuple (FineAll.cons (a.mono (by omega) (Nat.le_refl _)) (FineAll.cons b (FineAll.nil _)))).mono (Nat.le_refl _) (by omega)
theorem fine_rid {many hues : Int} {wds : List WD} (g : GoodR many hues wds) : Fine (ridD many hues wds) 6 50000 := by
  have c : Fine (.tuple (wds.map wishD)) 5 40100 := by
    refine (Fine.tuple (fineAll_map wds fun wd hw => fine_wish (g.each wd hw) g.m6 g.h4)).mono (Nat.le_refl _) ?_
    have := g.eight
    omega
  have m := fine_int (i := many) (by have := g.m1; omega) (by have := g.m6; omega)
  have h := fine_int (i := hues) (by have := g.h2; omega) (by have := g.h4; omega)
  exact (Fine.tuple (FineAll.cons (m.mono (by omega) (Nat.le_refl _)) (FineAll.cons (h.mono (by omega) (Nat.le_refl _)) (FineAll.cons c (FineAll.nil _))))).mono (Nat.le_refl _) (by omega)
theorem fine_fill {many hues : Int} {fs : List Int} (g : GoodF many hues fs) (hm : many ≤ 6) (hh : hues ≤ 4) : Fine (rowD fs) 2 64 :=
  fine_row (fun z hz => ⟨(g.hue z hz).1, by have := (g.hue z hz).2; omega⟩) (by have := g.len; omega)
theorem fine_bro (fs : List Int) (wds : List WD) {i : Nat} (h : i ≤ 8) : Fine (.list ((broL fs wds i).map .int)) 2 64 := by
  refine (Fine.list (fineAll_map (broL fs wds i) fun z hz => fine_int (broL_mem hz).1 (by have := (broL_mem hz).2; omega))).mono (by omega) ?_
  have := broL_len fs wds i
  omega
end Dt

set_option Elab.async false
set_option linter.all false
set_option maxRecDepth 100000
set_option maxHeartbeats 4000000
/-! sorted(xs) of tuples of small ints, any number of them -/
namespace Tt
open PySem PySem.Spec PyProof.Rows L2
def rk (h : Heap) (B : Int) (v : Value) : Int := TS.code B (TS.intsOf h v)
theorem swo_rk (f : Value → Int) : SrtO.Swo fun v u => decide (f v < f u) := by
  refine ⟨fun x y h => ?_, fun x y z h1 h2 => ?_⟩
  · have a := of_decide_eq_true h
    exact decide_eq_false (by omega)
  · have a := of_decide_eq_false h1
    have b := of_decide_eq_false h2
    exact decide_eq_false (by omega)
section
variable {prog : Program} {w : World} {A : Around} {E : Value → Shared → Prop} {s : Shared}
theorem cmp_tups {d : Nat} {B : Int} {vs : List Value} (x : TS.TupsOk s.heap d B vs) (r : Value → Int) (hr : ∀ v, v ∈ vs → ∀ ns, TS.TupInts s.heap v ns → r v = TS.code B ns) :
    SrtO.Cmp prog w A s (tuples' true) (fun p => p.1 ∈ vs) (SrtO.lt2 fun v u => decide (r v < r u)) := by
  intro p q hp hq
  obtain ⟨ns, tp, lp, bp⟩ := x _ hp
  obtain ⟨ms, tq, lq, bq⟩ := x _ hq
  show wpAny (model prog w) A (keyLt' (tuples' true) p.1 q.1) (fun b s' => s' = s ∧ b = decide (r p.1 < r q.1)) (fun _ _ => False) s
  rw [hr _ hp _ tp, hr _ hq _ tq]
  obtain ⟨a, xs, e1, ⟨o, ho, hc, n, hdt⟩, i⟩ := tp
  obtain ⟨a', ys, e2, ⟨o', ho', hc', n', hdt'⟩, i'⟩ := tq
  rw [e1, e2]
  refine PySem.W.kat_lt ho hdt ho' hdt' ?_
  have l1 := i.length
  have l2 := i'.length
  rw [Array.length_toList] at l1 l2
  rw [show decide (xs.size < ys.size) = false from decide_eq_false (by omega)]
  exact TS.lex_ints 0 i i' (by omega) bp bq ⟨rfl, rfl⟩
theorem sortable {a : Addr} {d : Nat} {B : Int} {vs : List Value} (hd : 1 ≤ d) (h2 : 2 ≤ vs.length) (x : TS.TupsOk s.heap d B vs) (ha : ∀ o, s.heap.get? a = some o → o.cls ≠ .type "tuple") (r : Value → Int) (hr : ∀ v, v ∈ vs → ∀ ns, TS.TupInts s.heap v ns → r v = TS.code B ns) :
    SrtO.SortableO prog w A s a vs fun v u => decide (r v < r u) := by
  intro h' keep
  have k2 : ∀ b o, s.heap.get? b = some o → o.cls = .type "tuple" → h'.get? b = some o := fun b o e c => keep b o (fun z => by subst z; exact ha o e c) e
  have x' := x.keeps k2
  obtain ⟨fs, kt, hl, hi⟩ := TS.firsts_of hd vs x'
  refine ⟨tuples' true, fun Q E hq => ?_, cmp_tups (s := { s with heap := h' }) x' r fun v hv ns t => ?_⟩
  · refine PySem.W.kat_kind (T := .type "int") kt (by omega) (fun f hm => ?_) (by rfl) ?_
    · obtain ⟨n, t, rfl⟩ := hi f hm
      exact PySem.W.Looks.of_pure rfl
    · rw [show (Value.type "int" != Value.type "tuple") = true by decide +kernel]
      exact hq
  · obtain ⟨n0, t0, _⟩ := x v hv
    rw [show ns = n0 from t.ints.symm.trans (t0.keeps k2).ints]
    exact hr v hv n0 t0
end
/-- sorted(xs): ts the tuples' places, k what stands at each -/
def rSortedT (K : PySem.W.Frag) : List V → Hp → VK → Prop := fun vs H Q => ∃ (a : Addr) (ts : List Addr) (k : Addr → List Int) (d : Nat) (B : Int), vs = [.ref a] ∧ SqL K H a (ts.map V.ref) ∧ 1 ≤ d ∧ (∀ t ∈ ts, H t = some (.tup ((k t).map V.int)) ∧ (k t).length = d ∧ TS.Bd B (k t)) ∧
  ∀ (ts' : List Addr) (p : Addr), ts'.Perm ts → ts'.Pairwise (fun u v => TS.code B (k u) ≤ TS.code B (k v)) → H p = none → Q (.ref p) (upd H p (.lst (ts'.map V.ref)))
theorem vals_refs : ∀ {ts : List Addr} {us : List Value}, Vals (ts.map V.ref) us → us = ts.map Value.ref
  | [], _, .nil => rfl
  | t :: r, _, .cons h q => by
    cases h
    rw [vals_refs q]
    rfl
theorem refs_vals : ∀ ts : List Addr, Vals (ts.map V.ref) (ts.map Value.ref)
  | [] => .nil
  | t :: r => .cons rfl (refs_vals r)
theorem cr_sortedT {X : Cx} : CallR X (.builtin "sorted") (rSortedT X.K) := by
  intro pins s σ H vs us Q I r h
  obtain ⟨a, ts, k, d, B, rfl, hs, hd, ht, q⟩ := h
  obtain ⟨its, rv, hl, hz⟩ := I.list hs
  obtain ⟨u, rfl, ru⟩ := vals1 r
  cases (show u = Value.ref a from ru)
  obtain rfl := vals_refs rv
  have tup : ∀ t ∈ ts, TS.TupInts s.heap (.ref t) (k t) := fun t hm => by
    obtain ⟨_, its, rr, hT⟩ := I.hok t _ (ht t hm).1
    exact ⟨t, its.toArray, rfl, hT, by simpa using rr.ints⟩
  have ok : TS.TupsOk s.heap d B (ts.map Value.ref) := fun v hv => by
    obtain ⟨t, hm, rfl⟩ := List.mem_map.mp hv
    exact ⟨k t, tup t hm, (ht t hm).2.1, (ht t hm).2.2⟩
  have rk_at : ∀ v ∈ ts.map Value.ref, ∀ ns, TS.TupInts s.heap v ns → rk s.heap B v = TS.code B ns := fun v _ ns t => by
    unfold rk
    rw [t.ints]
  refine SrtO.sorted_ord (swo_rk (rk s.heap B)) hl.isList (by rw [← rv.length]; exact hz) (fun h2 h₁ a' ha' kk => ?_) fun out so sb => ?_
  · have keep : ∀ b o, s.heap.get? b = some o → o.cls = .type "tuple" → h₁.get? b = some o := fun b o e _ => (kk b o e).2
    refine sortable (s := { s with heap := h₁ }) hd h2 (ok.keeps keep) (fun o e c => ?_) (rk s.heap B) fun v hv ns t => ?_
    · have e' := Option.some.inj (e.symm.trans ha')
      rw [e'] at c
      exact absurd (Value.type.inj c) (by decide)
    · obtain ⟨n0, t0, _⟩ := ok v hv
      rw [show ns = n0 from t.ints.symm.trans (t0.keeps keep).ints]
      exact rk_at v hv n0 t0
  · obtain ⟨ep, he⟩ := PyProof.Rows.sortedAll_at s.heap (ts.map Value.ref) out.toArray
    have pm := sb.perm
    obtain ⟨ts', rfl, pt⟩ : ∃ ts' : List Addr, out = ts'.map Value.ref ∧ ts'.Perm ts := by
      have back : ∀ v ∈ out, ∃ t, v = Value.ref t := fun v hv => by
        obtain ⟨t, _, e⟩ := List.mem_map.mp (pm.mem_iff.mp hv)
        exact ⟨t, e.symm⟩
      have g : ∀ l : List Value, (∀ v ∈ l, ∃ t, v = Value.ref t) → ∃ m : List Addr, l = m.map Value.ref := by
        intro l
        induction l with
        | nil => intro _; exact ⟨[], rfl⟩
        | cons v r ih =>
          intro hv
          obtain ⟨t, rfl⟩ := hv v List.mem_cons_self
          obtain ⟨m, rfl⟩ := ih fun z hz => hv z (List.mem_cons_of_mem _ hz)
          exact ⟨t :: m, rfl⟩
      obtain ⟨m, rfl⟩ := g out back
      let f : Value → Addr := fun v => match v with | .ref t => t | _ => 0
      have q2 := pm.map f
      rw [List.map_map, List.map_map] at q2
      have e1 : (f ∘ Value.ref) = id := by funext z; rfl
      rw [e1, List.map_id, List.map_id] at q2
      exact ⟨m, rfl, q2⟩
    refine ⟨.ref (s.heap.objs.size + 1), _, I.laid (t' := s.toks) (o := .lst (ts'.map V.ref)) (fun _ _ => PyProof.Rows.sortedAll_old) (Nat.le_succ _) ⟨?_, ts'.map Value.ref, ep, refs_vals ts', he⟩, rfl, q ts' _ pt ?_ (I.hok.fresh (Nat.le_succ _))⟩
    · rw [List.length_map, pt.length_eq]
      rw [List.length_map] at hz
      exact hz
    · have so2 := List.pairwise_map.mp so
      refine List.Pairwise.imp_of_mem (fun {x y} hx hy h => ?_) so2
      have h2 := of_decide_eq_false h
      unfold rk at h2
      rw [(tup x (pt.mem_iff.mp hx)).ints, (tup y (pt.mem_iff.mp hy)).ints] at h2
      omega
end Tt

set_option Elab.async false
set_option linter.all false
set_option maxRecDepth 100000
set_option maxHeartbeats 4000000
/-! the law's own call: tables of code objects tracked, and no repr under way around it -/
namespace Lg
open PySem PySem.Spec PyProof.Rows L2
/-- the def's body, run where A stands -/
theorem run_at {P : Program} {w : World} {K : PySem.W.Frag} {mg : Str → Option Value} {base : Heap} {k : Nat} {f : Addr} {x qual : Str} {st : Stmt} {fd : FuncData} {N ps : List Str} {A : Around} {outer : List Env} {s : Shared} {H : Hp} {args : Args} {us : List Value} {vs : List V} {Q : VK} {E : XK}
    (F : Fun K x qual st f fd) (S : FnScope N ps (defScope st)) (hr : Room (k + 1) A) (e0 : Env0 P w K mg base A outer s H) (hb : BindsTo s fd args (ps.zip us)) (r : Vals vs us) (hl : vs.length = ps.length)
    (body : ∀ cdv : Value, Room k (A.deeper (envOfC qual (defScope st) s.heap.objs.size f cdv)) → ∃ t, PSs (cxOf CX0 P w K mg base N qual (defScope st) f cdv A outer s H E).nox (defBody st) t ∧ t { nx := fun _ H' => Q .non H', rt := Q } (start N vs) H) :
    codeAny (model P w) A (.call (.ref f) args) (CR CX0 outer P w H s Q E) s := by
  obtain ⟨oc, od, kV, doc, pm, an, cdv, ct, osl, rfl, lk, hcd⟩ := F.ex
  have old : ∀ b o, base.get? b = some o → s.heap.get? b = some o := fun b o e => (e0.bs b o e).1
  have KX := e0.mod.kin.keeps old
  have lim := e0.mod.nolimit.keeps old
  obtain ⟨t, pt, ht⟩ := body cdv (hr.deeper _)
  refine codeAny_call_function hr.depth (KX _ _ lk) rfl S.co S.gen rfl (PySem.W.codeRec_of KX hcd) (hb _ _ _ _ (wpAny_newFunctionEnv_cells S.kind (fun y hy => ?_) fun env he s1 ic => ?_))
  · rcases S.par y.1 (List.of_mem_zip (show (y.1, y.2) ∈ ps.zip us from hy)).1 with z | z
    · exact .inl z
    · exact .inr ⟨z, PySem.W.cellsFrom_some _ _ _ (.inl z)⟩
  · subst he
    refine ⟨lim.keeps ic.toInCall.keep, codeAny_func (wpAny_mono (pt.nox.run [] s1 (start N vs) H _ (inv_start S hr.hd e0 hl r ic) ht) (fun fl s' q => ?_) fun _ _ q => q)⟩
    cases fl with
    | ret u => obtain ⟨v, σ', H', J, rv, q⟩ := q; exact ⟨v, H', J.os, J.bare, J.base, J.hok, rv, q⟩
    | next => obtain ⟨σ', H', J, q⟩ := q; exact ⟨.non, H', J.os, J.bare, J.base, J.hok, rfl, q⟩
    | brk => obtain ⟨_, _, _, q⟩ := q; exact q.elim
    | cont => obtain ⟨_, _, _, q⟩ := q; exact q.elim
/-- the abstract heap at the law's call: the tables, and the script where the top didn't write it -/
def H0 (K : PySem.W.Frag) (T : List Addr) (a : Addr) (o : Obj) (xs : List V) : Hp := fun b => if b ∈ T then some (.tbl #[]) else if b = a ∧ K.lookup a = none then some (.frz o (.lst xs)) else none
theorem H0_three (K : PySem.W.Frag) (T : List Addr) (a : Addr) (o : Obj) (xs : List V) (b : Addr) : (b ∈ T ∧ H0 K T a o xs b = some (.tbl #[])) ∨ (b = a ∧ K.lookup a = none ∧ H0 K T a o xs b = some (.frz o (.lst xs))) ∨ (H0 K T a o xs b = none ∧ b ∉ T) := by
  unfold H0
  by_cases h : b ∈ T
  · exact .inl ⟨h, if_pos h⟩
  · by_cases h2 : b = a ∧ K.lookup a = none
    · exact .inr (.inl ⟨h2.1, h2.2, by rw [if_neg h, if_pos h2]⟩)
    · exact .inr (.inr ⟨by rw [if_neg h, if_neg h2], h⟩)
theorem law_at {P : Program} {w : World} {K : PySem.W.Frag} {mg mb : Str → Option Value} {k : Nat} {fa a : Addr} {cs : List (Addr × Addr)} {x qual : Str} {st : Stmt} {fd : FuncData} {N : List Str} {par : Str} {s : Shared} {vs : List Value} {ns : List Int}
    (KX : K.In s.heap) (hns : s.heap.Ns mainGlobals mg) (hbl : s.heap.Ns builtinsNs mb) (hbb : ∀ x : Str, x ≠ "__name__" → mb x = bootBuiltins x) (hlim : s.heap.NoLimit) (hg : s.gens = #[])
    (hT : ∀ p ∈ cs, s.heap.get? p.2 = some { cls := .none, data := .fields #[] }) (nT : ∀ p ∈ cs, K.lookup p.2 = none) (hC : ∀ p ∈ cs, PySem.W.CodeHd s.heap p.1 p.2)
    (hbm : ∃ (bm : Addr) (ob : Obj), mg "__builtins__" = some (.ref bm) ∧ bm ≠ builtinsNs ∧ s.heap.get? bm = some ob ∧ ob.cls = .type "module" ∧ ob.dict = some builtinsNs ∧ ob.data = .plain)
    (ha : s.heap.get? a = some { cls := .type "list", data := .seq vs.toArray }) (hi : IntsAre vs ns) (hlen : ns.length ≤ sizeLine) (hr : Room (k + 1) callerA)
    (F : Fun K x qual st fa fd) (S : FnScope N [par] (defScope st)) (hb : ∀ (s : Shared) (u : Value), BindsTo s fd ⟨[u], []⟩ [(par, u)])
    (body : ∀ (base : Heap) (H : Hp) (cdv : Value), K.In base → base.Ns mainGlobals mg → (∀ p ∈ cs, GxR.TabB base mg p.1 p.2) → (∀ p ∈ cs, H p.2 = some (.tbl #[])) → SqL K H a (ns.map V.int) → Room k (callerA.deeper (envOfC qual (defScope st) s.heap.objs.size fa cdv)) →
      ∃ t, PSs (cxOf CX0 P w K mg base N qual (defScope st) fa cdv callerA [] s H (fun _ _ _ => False)).nox (defBody st) t ∧ t { nx := fun _ _ => False, rt := fun v _ => v = .bl true } (start N [.ref a]) H) :
    codeAny (model P w) callerA (.call (.ref fa) ⟨[.ref a], []⟩) (fun r s' => r = .ok (.ret (.bool true)) ∧ OldK s.heap s'.heap ∧ s'.os = s.os ∧ AllBare s'.gens) s := by
  have rv := vals_ints hi
  have lv := hi.length
  generalize hso : ({ cls := .type "list", data := .seq vs.toArray } : Obj) = so at ha
  have inT : ∀ b, b ∈ cs.map (·.2) → s.heap.get? b = some { cls := .none, data := .fields #[] } ∧ K.lookup b = none := fun b h => by
    obtain ⟨p, hp, rfl⟩ := List.mem_map.mp h
    exact ⟨hT p hp, nT p hp⟩
  generalize hH : H0 K (cs.map (·.2)) a so (ns.map V.int) = H
  have three := H0_three K (cs.map (·.2)) a so (ns.map V.int)
  rw [hH] at three
  -- an object of another kind isn't tracked
  have clean : ∀ b o, s.heap.get? b = some o → o.data ≠ .fields #[] → (∀ v n, o.data ≠ .seq v n) → H b = none := fun b o e h1 h2 => by
    rcases three b with ⟨z, _⟩ | ⟨z, _, _⟩ | ⟨z, _⟩
    · rw [(inT b z).1] at e; cases e; exact absurd rfl h1
    · rw [z, ha, ← hso] at e; cases e; exact absurd rfl (h2 _ _)
    · exact z
  have low : ∀ b o, s.heap.get? b = some o → o.data ≠ .fields #[] → (∀ v n, o.data ≠ .seq v n) → (hidT s.heap H).get? b = some o := fun b o e h1 h2 => hidT_get e (clean b o e h1 h2)
  have lowNs : ∀ b m, s.heap.Ns b m → (hidT s.heap H).Ns b m := fun b m ⟨o, es, ep, e, d, q⟩ => ⟨o, es, ep, low b o e (by rw [d]; exact fun z => nomatch z) (by rw [d]; exact fun _ _ z => nomatch z), d, q⟩
  have kb : K.In (hidT s.heap H) := fun b o e => hidT_get (KX b o e) (by
    rcases three b with ⟨z, _⟩ | ⟨z, q, _⟩ | ⟨z, _⟩
    · rw [(inT b z).2] at e; cases e
    · rw [z, q] at e; cases e
    · exact z)
  have hok : HOk P w H s.heap := fun b u e => by
    rcases three b with ⟨z, q⟩ | ⟨z, _, q⟩ | ⟨q, _⟩
    · rw [e] at q; cases q; exact (inT b z).1
    · rw [e] at q; cases q; rw [z]; exact ⟨ha, by rw [List.length_map]; exact hlen, vs, 0, rv, by rw [ha, ← hso]⟩
    · rw [e] at q; cases q
  have tb : ∀ p ∈ cs, GxR.TabB (hidT s.heap H) mg p.1 p.2 := fun p hp => by
    refine ⟨?_, ?_, fun z => ?_⟩
    · obtain ⟨o, us, fl, t1, fg, t2, b1, tx, t3, e1, e2, e3, e4, rest⟩ := hC p hp
      exact ⟨o, us, fl, t1, fg, t2, b1, tx, t3, low _ _ e1 (by rw [e3]; intro z; cases z; simp at e4) (by rw [e3]; exact fun _ _ z => nomatch z), e2, e3, e4, rest⟩
    · obtain ⟨bm, ob, m1, m2, m3, m4, m5, m6⟩ := hbm
      refine ⟨bm, ob, m1, m2, fun z => ?_, fun z => ?_, low _ _ m3 (by rw [m6]; exact fun z => nomatch z) (by rw [m6]; exact fun _ _ z => nomatch z), m4, m5, m6⟩
      · obtain ⟨o, es, ep, e, d, _⟩ := hns
        rw [z, e] at m3; cases m3; rw [d] at m6; cases m6
      · rw [z, hT p hp] at m3; cases m3; cases m6
    · obtain ⟨o, es, ep, e, d, _⟩ := hns
      rw [z, hT p hp] at e; cases e; cases d
  have tabH : ∀ p ∈ cs, H p.2 = some (.tbl #[]) := fun p hp => by
    have hm : p.2 ∈ cs.map (·.2) := List.mem_map.mpr ⟨p, hp, rfl⟩
    rcases three p.2 with ⟨_, q⟩ | ⟨z, _, _⟩ | ⟨_, q⟩
    · exact q
    · have e := (inT _ hm).1
      rw [z, ha, ← hso] at e; cases e
    · exact absurd hm q
  have hS : SqL K H a (ns.map V.int) := by
    rcases three a with ⟨z, _⟩ | ⟨_, _, q⟩ | ⟨q, nt⟩
    · have e := (inT a z).1
      rw [ha, ← hso] at e; cases e
    · exact .inl (.inr ⟨so, q⟩)
    · cases e : K.lookup a with
      | none => rw [← hH] at q; unfold H0 at q; rw [if_neg nt, if_pos ⟨rfl, e⟩] at q; cases q
      | some o =>
        have e2 := KX a o e
        rw [ha, ← hso] at e2; cases e2
        exact .inr ⟨_, vs.toArray, _, e, rfl, rfl, rfl, by rw [List.size_toArray, lv]; exact hlen, by simpa using rv⟩
  have e0 : Env0 P w K mg (hidT s.heap H) callerA [] s H := ⟨rfl, ⟨kb, lowNs _ _ hns, ⟨mb, lowNs _ _ hbl, hbb⟩, let ⟨mc, q1, q2⟩ := hlim; ⟨mc, lowNs _ _ q1, q2⟩⟩, fun b o e => of_hidT e, Nat.le_of_eq (hidT_size _ _), trivial, (fun b z => nomatch z), hok, .of_eq hg⟩
  refine codeAny_mono (run_at (vs := [.ref a]) (us := [.ref a]) (Q := fun v _ => v = .bl true) (E := fun _ _ _ => False) F S hr e0 (hb s (.ref a)) (.cons rfl .nil) rfl fun cdv hrm => ?_) fun r s' h => ?_
  · obtain ⟨t, p1, p2⟩ := body _ H cdv kb (lowNs _ _ hns) tb tabH hS hrm
    refine ⟨t, p1, ?_⟩
    have e : (fun (_ : L2.St) (H' : Hp) => (fun (v : V) (_ : Hp) => v = V.bl true) V.non H') = fun _ _ => False := by
      funext _ _
      exact propext ⟨(fun z => nomatch z), fun z => z.elim⟩
    rw [e]
    exact p2
  · match r, h with
    | .ok (.ret u), h =>
      obtain ⟨v, H', os, bare, un, hok', r', q⟩ := h
      obtain rfl : v = .bl true := q
      obtain rfl : u = Value.bool true := r'
      have grown : ∀ p ∈ cs, ∃ more : Array Value, s'.heap.get? p.2 = some { cls := .none, data := .fields more } := fun p hp => by
        obtain ⟨more, z⟩ := un.tbls p.2 #[] (tabH p hp)
        exact ⟨_, hok' p.2 _ z⟩
      have kept : ∀ b o, b ∉ cs.map (·.2) → s.heap.get? b = some o → s'.heap.get? b = some o := fun b o nb e => by
        rcases three b with ⟨z, _⟩ | ⟨z, _, q⟩ | ⟨q, _⟩
        · exact absurd z nb
        · have z2 := hok' b _ (un.frzs b so _ q)
          rw [z, ha] at e
          cases e
          exact z2.1
        · exact un.keep b o e q (by intro z; cases z) (by intro z; cases z)
      refine ⟨rfl, ⟨fun b o e => ?_, fun b o e => ?_⟩, os, bare⟩
      · by_cases hm : b ∈ cs.map (·.2)
        · obtain ⟨p, hp, rfl⟩ := List.mem_map.mp hm
          obtain ⟨more, z⟩ := grown p hp
          rw [hT p hp] at e
          cases e
          exact .inr (.inl ⟨((hC p hp).tab (hT p hp)).isCodeTable, rfl, #[], more, rfl, by rw [Array.empty_append]; exact z⟩)
        · exact .inl (kept b o hm e)
      · by_cases hm : b ∈ cs.map (·.2)
        · obtain ⟨p, hp, rfl⟩ := List.mem_map.mp hm
          obtain ⟨more, z⟩ := grown p hp
          exact ⟨_, z⟩
        · exact ⟨o, kept b o hm e⟩
/-! ### repr of data -/
/-- repr(x), x data -/
theorem call_repr {X : Cx} (hg : X.A.guards = some []) (hu : X.A.units + 64 < cLine) : CallR X (.builtin "repr") (fun xs H Q => ∃ (a : Addr) (d : PyData), xs = [.ref a] ∧ Dp X.K H (.ref a) d ∧ d.showable = true ∧ d.hasDict = false ∧ d.depth < 63 ∧ d.shown.length ≤ sizeLine ∧ Q (.str d.shown) H) := by
  intro pins s σ H xs us Q I r h
  obtain ⟨a, d, rfl, hd, h1, h2, h3, h4, q⟩ := h
  obtain ⟨u, rfl, ru⟩ := vals1 r
  obtain ⟨as, rd⟩ := Dp.reads I d _ u hd ru
  cases (show u = Value.ref a from ru)
  refine repr_of_reads' rd h1 (fun e => by rw [h2] at e; cases e) hg (by omega) (fun _ _ e => e) (fun h' u tk hk => ?_) h4
  exact ⟨.str d.shown, H, I.kept (t' := _) hk, ⟨_, rfl⟩, q⟩
end Lg

set_option Elab.async false
set_option linter.all false
set_option maxRecDepth 100000
set_option maxHeartbeats 4000000
namespace Lg
open PySem PySem.Spec PyProof.Rows L2
/-- the code object and the table of the def named x -/
def TabOf (mg : Str → Option Value) (h : Heap) (x : Str) (p : Addr × Addr) : Prop :=
  ∃ (a : Addr) (o : Obj) (fd : FuncData), mg x = some (.ref a) ∧ h.get? a = some o ∧ o.data = .func fd ∧ fd.code = .ref p.1 ∧ PySem.W.CodeHd h p.1 p.2 ∧ h.get? p.2 = some { cls := .none, data := .fields #[] }
theorem TabOf.code {K : PySem.W.Frag} {mg : Str → Option Value} {h : Heap} {x : Str} {p : Addr × Addr} {f : Addr} {cl : Value} {dd : Option Addr} {fd : FuncData} {sl : Array (Option Value)} (T : TabOf mg h x p) (X : K.In h) (hf : mg x = some (.ref f)) (l : K.lookup f = some ⟨cl, dd, .func fd, sl⟩) : fd.code = .ref p.1 := by
  obtain ⟨a, o, fd', h1, h2, h3, h4, _⟩ := T
  rw [hf] at h1
  cases h1
  rw [X _ _ l] at h2
  cases h2
  cases h3
  exact h4
theorem no_tab {K : PySem.W.Frag} {h : Heap} {P : Addr} (X : K.In h) (hK : PySem.W.noTabs K = true) (e : h.get? P = some { cls := .none, data := .fields #[] }) : K.lookup P = none := by
  cases z : K.lookup P with
  | none => rfl
  | some o =>
    have z2 := X _ _ z
    rw [e] at z2
    cases z2
    exact absurd (show false = true from List.all_eq_true.mp hK (P, _) (PySem.W.mem_of_lookupK z)) Bool.false_ne_true
theorem walk_of {l : PySem.W.OpenLaw} {n k : Nat} {q : Program} {loose : List Str} {XP : (Str → Option Value) → Heap → Prop} {YP : World → Heap → Prop} {d : DefRec} {K : Params → PySem.W.Frag} {x qual par : Str} {st : Stmt} {N : List Str} (names : List Str)
    (hn : l.most = some n) (hn2 : n ≤ sizeLine) (hdf : d.params.defaults = []) (hr : Room (k + 1) callerA) (hrec : (names.all fun y => (recsOf q).any fun e => e.name == y) = true) (hK : ∀ w : World, PySem.W.noTabs (K w.params) = true) (hY : ∀ (w : World) (h : Heap), YP w h → (K w.params).In h) (S : FnScope N [par] (defScope st))
    (F : ∀ (w : World) (mg : Str → Option Value) (fa : Addr) (h : Heap) (tb : Str → Addr × Addr), (K w.params).In h → h.Ns mainGlobals mg → mg d.name = some (.ref fa) → (∀ y ∈ names, TabOf mg h y (tb y)) →
      ∃ fd : FuncData, Fun (K w.params) x qual st fa fd ∧ (∀ (s : Shared) (u : Value), BindsTo s fd ⟨[u], []⟩ [(par, u)]) ∧ ∀ (base : Heap) (H : Hp) (cdv : Value) (a : Addr) (ns : List Int) (s : Shared), (K w.params).In base → base.Ns mainGlobals mg → (∀ y ∈ names, GxR.TabB base mg (tb y).1 (tb y).2) → (∀ y ∈ names, H (tb y).2 = some (.tbl #[])) → ns.length ≤ n → (∀ z ∈ ns, Builtin.Int.intBits z ≤ 1048576) → SqL (K w.params) H a (ns.map V.int) → Room k (callerA.deeper (envOfC qual (defScope st) s.heap.objs.size fa cdv)) →
        ∃ t, PSs (cxOf CX0 l.prog w (K w.params) mg base N qual (defScope st) fa cdv callerA [] s H (fun _ _ _ => False)).nox (defBody st) t ∧ t { nx := fun _ _ => False, rt := fun v _ => v = .bl true } (start N [.ref a]) H) :
    PySem.W.WalkO q loose XP YP l.row.toRowW d [] (fun f vs => PySem.call f vs) := by
  refine Att.attach_callB hn hdf fun w s₀ s₁ mg mb fa o pm cd doc a vs ns G Y ho hd hcd hmg hobj hints hlen hbits hg => ?_
  have KX := hY w _ Y
  have ex : ∀ y : Str, ∃ p : Addr × Addr, y ∈ names → TabOf mg s₁.heap y p := fun y => by
    by_cases hy : y ∈ names
    · obtain ⟨dL, hm, hn1⟩ := List.any_eq_true.mp (List.all_eq_true.mp hrec y hy)
      have hn2 : dL.name = y := beq_iff_eq.mp hn1
      obtain ⟨a', o', fd', c', P', h1, h2, h3, h4, h5, h6⟩ := G.T.tab dL hm
      rw [hn2] at h1
      exact ⟨(c', P'), fun _ => ⟨a', o', fd', h1, h2, h3, h4, PySem.W.CodeHd.of h5 h6, h6.2⟩⟩
    · exact ⟨(0, 0), fun z => absurd z hy⟩
  have tbx : ∃ tb : Str → Addr × Addr, ∀ y ∈ names, TabOf mg s₁.heap y (tb y) := ⟨fun y => Classical.choose (ex y), fun y => Classical.choose_spec (ex y)⟩
  obtain ⟨tb, ht⟩ := tbx
  obtain ⟨fd, hF, hb, body⟩ := F w mg fa _ tb KX G.T.g hmg ht
  have cm : ∀ p ∈ names.map tb, ∃ y ∈ names, tb y = p := fun p hp => List.mem_map.mp hp
  refine law_at (cs := names.map tb) KX G.T.g G.T.b G.T.builtins G.T.nolimit hg (fun p hp => ?_) (fun p hp => ?_) (fun p hp => ?_) G.T.bmain hobj hints (Nat.le_trans hlen hn2) hr hF S hb fun base H cdv kb gn tB tH hS hrm => body base H cdv a ns s₁ kb gn (fun y hy => tB _ (List.mem_map_of_mem hy)) (fun y hy => tH _ (List.mem_map_of_mem hy)) hlen hbits hS hrm
  · obtain ⟨y, hy, rfl⟩ := cm p hp
    obtain ⟨_, _, _, _, _, _, _, _, z⟩ := ht y hy
    exact z
  · obtain ⟨y, hy, rfl⟩ := cm p hp
    obtain ⟨_, _, _, _, _, _, _, _, z⟩ := ht y hy
    exact no_tab KX (hK w) z
  · obtain ⟨y, hy, rfl⟩ := cm p hp
    obtain ⟨_, _, _, _, _, _, _, z, _⟩ := ht y hy
    exact z
end Lg

set_option Elab.async false
set_option linter.all false
set_option maxRecDepth 100000
set_option maxHeartbeats 4000000
/-! fillings, counts, clashes: the data -/
namespace Dt
open PySem PySem.Spec PyProof.Rows L2
def longer (hues : Nat) (f : List Int) : List (List Int) := (List.range hues).map fun (h : Nat) => f ++ [(h : Int)]
def fillL (hues : Nat) : Nat → List (List Int)
  | 0 => [[]]
  | n + 1 => (fillL hues n).flatMap (longer hues)
theorem fill_good {hues : Nat} : ∀ {n : Nat} {f : List Int}, f ∈ fillL hues n → f.length = n ∧ ∀ h ∈ f, 0 ≤ h ∧ h < (hues : Int)
  | 0, f, h => by
    cases List.mem_singleton.mp h
    exact ⟨rfl, fun _ z => nomatch z⟩
  | n + 1, f, h => by
    obtain ⟨g, hg, hf⟩ := List.mem_flatMap.mp h
    obtain ⟨k, hk, rfl⟩ := List.mem_map.mp hf
    obtain ⟨l, a⟩ := fill_good hg
    have hk := List.mem_range.mp hk
    refine ⟨by simp [l], fun z hz => ?_⟩
    rcases List.mem_append.mp hz with q | q
    · exact a z q
    · cases List.mem_singleton.mp q
      omega
theorem longer_len (hues : Nat) (f : List Int) : (longer hues f).length = hues := by simp [longer]
theorem flat_len {hues : Nat} : ∀ l : List (List Int), (l.flatMap (longer hues)).length = l.length * hues
  | [] => by simp
  | f :: r => by rw [List.flatMap_cons, List.length_append, longer_len, flat_len r, List.length_cons, Nat.succ_mul, Nat.add_comm]
theorem fill_len (hues : Nat) : ∀ n : Nat, (fillL hues n).length = hues ^ n
  | 0 => by simp [fillL]
  | n + 1 => by rw [fillL, flat_len, fill_len hues n, Nat.pow_succ]
theorem fill_goodF {many hues : Int} (m0 : 0 ≤ many) (h0 : 0 ≤ hues) {f : List Int} (h : f ∈ fillL hues.toNat many.toNat) : GoodF many hues f := by
  obtain ⟨a, b⟩ := fill_good h
  exact ⟨by omega, fun z hz => by have := b z hz; omega⟩
theorem pow_le_4096 {h n : Nat} (hh : h ≤ 4) (hn : n ≤ 6) : h ^ n ≤ 4096 := by
  have a : h ^ n ≤ 4 ^ n := Nat.pow_le_pow_left hh n
  have b : 4 ^ n ≤ 4 ^ 6 := Nat.pow_le_pow_right (by decide) hn
  have c : (4 : Nat) ^ 6 = 4096 := by decide
  omega
/-! ### counts -/
def bump (ns : List Int) (i : Nat) : List Int := ns.set i (ns.getD i 0 + 1)
def cnt0 (wds : List WD) : List Int := List.replicate (wds.length + 1) 0
def cntL (wds : List WD) (fss : List (List Int)) : List Int := fss.foldl (fun ns f => bump ns (broL f wds wds.length).length) (cnt0 wds)
theorem cnt_snoc (wds : List WD) (fss : List (List Int)) (f : List Int) : cntL wds (fss ++ [f]) = bump (cntL wds fss) (broL f wds wds.length).length := by
  unfold cntL
  rw [List.foldl_append]
  rfl
theorem bump_len (ns : List Int) (i : Nat) : (bump ns i).length = ns.length := by simp [bump]
theorem foldl_len (wds : List WD) : ∀ (fss : List (List Int)) (ns : List Int), (fss.foldl (fun ns f => bump ns (broL f wds wds.length).length) ns).length = ns.length
  | [], _ => rfl
  | f :: r, ns => by rw [List.foldl_cons, foldl_len wds r, bump_len]
theorem cnt_len (wds : List WD) (fss : List (List Int)) : (cntL wds fss).length = wds.length + 1 := by
  unfold cntL
  rw [foldl_len]
  simp [cnt0]
theorem bump_mem {ns : List Int} {i : Nat} {b : Int} (h : ∀ z ∈ ns, 0 ≤ z ∧ z ≤ b) (hb : 0 ≤ b) : ∀ z ∈ bump ns i, 0 ≤ z ∧ z ≤ b + 1 := fun z hz => by
  unfold bump at hz
  rcases List.mem_or_eq_of_mem_set hz with q | q
  · have := h z q; omega
  · subst q
    rw [List.getD_eq_getElem?_getD]
    cases e : ns[i]? with
    | none => simp; omega
    | some x => have := h x (List.mem_of_getElem? e); simp; omega
theorem foldl_mem (wds : List WD) : ∀ (fss : List (List Int)) (ns : List Int) (b : Int), 0 ≤ b → (∀ z ∈ ns, 0 ≤ z ∧ z ≤ b) → ∀ z ∈ fss.foldl (fun ns f => bump ns (broL f wds wds.length).length) ns, 0 ≤ z ∧ z ≤ b + fss.length
  | [], _, b, _, h => fun z hz => by have := h z hz; simp; omega
  | f :: r, ns, b, hb, h => fun z hz => by
    have := foldl_mem wds r (bump ns (broL f wds wds.length).length) (b + 1) (by omega) (bump_mem h hb) z hz
    rw [List.length_cons]
    omega
theorem cnt_mem (wds : List WD) (fss : List (List Int)) : ∀ z ∈ cntL wds fss, 0 ≤ z ∧ z ≤ fss.length := fun z hz => by
  have := foldl_mem wds fss (cnt0 wds) 0 (by omega) (fun z hz => by
    have := List.eq_of_mem_replicate hz
    omega) z hz
  omega
theorem bump_eq {ns : List Int} {i : Nat} {x : Int} (h : ns[i]? = some x) : bump ns i = ns.set i (x + 1) := by
  unfold bump
  rw [List.getD_eq_getElem?_getD, h]
  rfl
/-! ### clashes -/
def clB (a b : WD) : Bool := a.1.any fun p => decide (p ∈ b.1)
theorem clB_comm (a b : WD) : clB a b = clB b a := by
  rw [Bool.eq_iff_iff]
  unfold clB
  simp only [List.any_eq_true, decide_eq_true_eq]
  exact ⟨fun ⟨x, h1, h2⟩ => ⟨x, h2, h1⟩, fun ⟨x, h1, h2⟩ => ⟨x, h2, h1⟩⟩
def clAt (wds : List WD) (a : WD) (k : Nat) : Bool := match wds[k]? with
  | some wd => clB a wd
  | none => false
def clsL (wds : List WD) (a : WD) (i : Nat) : List Int := ((List.range i).filter (clAt wds a)).map fun (k : Nat) => (k : Int)
theorem clAt_of {wds : List WD} {a wd : WD} {k : Nat} (h : wds[k]? = some wd) : clAt wds a k = clB a wd := by
  unfold clAt
  rw [h]
theorem clsL_yes {wds : List WD} {a : WD} {i : Nat} (h : clAt wds a i = true) : clsL wds a (i + 1) = clsL wds a i ++ [(i : Int)] := by
  unfold clsL
  rw [List.range_succ, List.filter_append, List.map_append]
  simp [h]
theorem clsL_no {wds : List WD} {a : WD} {i : Nat} (h : clAt wds a i = false) : clsL wds a (i + 1) = clsL wds a i := by
  unfold clsL
  rw [List.range_succ, List.filter_append, List.map_append]
  simp [h]
theorem clsL_len (wds : List WD) (a : WD) (i : Nat) : (clsL wds a i).length ≤ i := by
  unfold clsL
  rw [List.length_map]
  have q := List.length_filter_le (clAt wds a) (List.range i)
  rw [List.length_range] at q
  exact q
theorem clsL_mem {wds : List WD} {a : WD} {i : Nat} {z : Int} (h : z ∈ clsL wds a i) : 0 ≤ z ∧ z < i := by
  unfold clsL at h
  obtain ⟨k, hk, rfl⟩ := List.mem_map.mp h
  have := List.mem_range.mp (List.mem_filter.mp hk).1
  omega
def clsAll (wds : List WD) : List (List Int) := wds.map fun wd => clsL wds wd wds.length
/-! ### fine data -/
theorem short_int (m : Nat) (h : m < 10 ^ 10) : PyData.intsShort 13 (.int (m : Int)) = true := by
  have e := (Nat.length_repr_le_iff (n := m) (by decide : 0 < 10)).mpr h
  show decide ((Str.ofString (Nat.repr m)).length ≤ 13) = true
  rw [decide_eq_true_eq, Str.ofString_eq_toList]
  have z : (Str.mk ((Nat.repr m).toList.map Char.toNat).toArray).length = (Nat.repr m).length := by
    show ((Nat.repr m).toList.map Char.toNat).toArray.size = _
    rw [List.size_toArray, List.length_map, String.length_toList]
  omega
theorem fine_intM {i : Int} (h0 : 0 ≤ i) (h1 : i < 5000) : Fine (.int i) 1 14 := by
  obtain ⟨n, rfl⟩ : ∃ n : Nat, i = n := ⟨i.toNat, by omega⟩
  have hn : n < 5000 := by omega
  have hl : n.log2 ≤ 12 := by
    by_cases e : n = 0
    · subst e; decide
    · have := (Nat.log2_lt e).mpr (show n < 2 ^ 13 by omega)
      omega
  refine ⟨rfl, by simp [PyData.depth], ?_, ?_, rfl, short_int n (by omega)⟩
  · simp only [PyData.weight]
    split
    · omega
    · have e : ((n : Int)).natAbs = n := by omega
      rw [e]
      omega
  · simp only [PyData.showable]
    have e : ((n : Int)).natAbs = n := by omega
    rw [e]
    exact decide_eq_true (by omega)
theorem fine_ints {ns : List Int} (h : ∀ z ∈ ns, 0 ≤ z ∧ z < 5000) : Fine (.list (ns.map .int)) 2 (ns.length * 15) :=
  (Fine.list (fineAll_map ns fun z hz => fine_intM (h z hz).1 (h z hz).2)).mono (by omega) (by omega)
def listsD (ls : List (List Int)) : PyData := .list (ls.map fun l => .list (l.map .int))
theorem fine_lists {ls : List (List Int)} (hl : ls.length ≤ 300) (h : ∀ l ∈ ls, l.length ≤ 20 ∧ ∀ z ∈ l, 0 ≤ z ∧ z < 5000) : Fine (listsD ls) 3 100000 := by
  refine (Fine.list (fineAll_map (n := 2) (w := 300) ls fun l hl => (fine_ints (h l hl).2).mono (Nat.le_refl _) (by have := (h l hl).1; omega))).mono (by omega) (by omega)
end Dt

set_option Elab.async false
set_option linter.all false
set_option maxRecDepth 100000
set_option maxHeartbeats 4000000
/-! elements of generator expressions: x in f[0] -/
namespace Gv
open PySem PySem.Spec PyProof.Rows L2
variable {X : Cx} {pins : List (Addr × Obj)} {σ : L2.St}
theorem reads_ints (h : Heap) : ∀ (ns : List Int) (us : List Value), Vals (ns.map V.int) us → ∃ as, ReadsAll h us (ns.map PyData.int) as
  | [], _, r => by cases r; exact ⟨_, .nil⟩
  | n :: q, _, r => by
    cases r with
    | cons r1 r2 =>
      obtain ⟨as, z⟩ := reads_ints h q _ r2
      obtain ⟨t, rfl⟩ := r1
      exact ⟨_, .cons (.int n t) z⟩
theorem canAll_ints : ∀ ns : List Int, PyData.canLayAll0 (ns.map PyData.int) = true
  | [] => rfl
  | n :: q => by simp only [List.map_cons, PyData.canLayAll0, PyData.canLay0, canAll_ints q, Bool.and_self]
theorem any_ints (n : Int) : ∀ ns : List Int, ((ns.map PyData.int).any fun y => PyData.eqv y (.int n)) = decide (n ∈ ns)
  | [] => by simp
  | m :: q => by
    rw [List.map_cons, List.any_cons, any_ints n q]
    by_cases e : m = n
    · subst e; simp [PyData.eqv]
    · have e2 : ¬ n = m := fun z => e z.symm
      simp [PyData.eqv, e, e2]
theorem elt_in0 {f x : Str} {scope : Scope} {P fa pa : Addr} {H1 : Hp} {xs ys zs : List V} {ns : List Int} {j jj : Nat} {p1 p2 p3 p4 p5 : Pos} (hk : scope.kind = .function) (hx : scope.names.lookup x = some .local) (hf : scope.names.lookup f = some .free)
    (hcl : (cloFrom X.env.cells scope.names []).lookup f = some ((X.env.cells.lookup f).getD 0)) (hj : X.N[j]? = some f) (hkf : X.env.kindOf f = some .cell) (hσ : σ[j]? = some (some (.ref fa))) (hq : SqT X.K H1 fa (.ref pa :: zs)) (hp : SqT X.K H1 pa (ns.map V.int)) (hT : GxR.TabG H1 P) (hu : X.A.units + 64 < cLine)
    (hv : ∀ (i : Nat) x0, xs[i]? = some x0 → ∃ (n : Int), x0 = .int n ∧ ys[i]? = some (.bl (decide (n ∈ ns)))) (hdf : (f == ("__debug__" : Str)) = false := by decide) (hdx : (x == ("__debug__" : Str)) = false := by decide) (hcf : (f == ("__classdict__" : Str)) = false := by decide) :
    EltV X pins σ scope x (.Compare (.Name x p1) [.In] [.Subscript (.Name f p2) (.Constant (.int 0) jj p3) p4] p5) P H1 xs ys := by
  intro s1 t C code bi A' E' i x0 u m I hA hU hx0 ru hn hm hkp
  obtain ⟨n, rfl, hy⟩ := hv i x0 hx0
  obtain ⟨tk, rfl⟩ := (show ∃ t, u = Value.int n t from ru)
  obtain ⟨ps, hP, _⟩ := hT
  have tabS : s1.heap.get? P = some { cls := .none, data := .fields ps } := I.hok P _ hP
  obtain ⟨m1, _, hl⟩ := I.loc
  obtain ⟨uf, rf, lk⟩ := hl j f _ hj hσ (.inr (.inl hkf))
  cases (show uf = Value.ref fa from rf)
  obtain ⟨c, hc, ic⟩ : ∃ c, X.env.cells.lookup f = some c ∧ s1.heap.IsCell c (some (.ref fa)) := by
    rcases lk with ⟨z, _⟩ | ⟨_, c, hc, ic⟩
    · rw [hkf] at z; cases z
    · exact ⟨c, hc, ic⟩
  have ic2 : t.heap.IsCell c (some (.ref fa)) := by
    obtain ⟨o, ho, hd⟩ := ic
    refine ⟨o, hkp c o (fun z => ?_) ho, hd⟩
    rw [z, tabS] at ho
    cases ho
    cases hd
  have tup2 : ∀ {a : Addr} {its : Array Value}, IsTup s1.heap a its → IsTup t.heap a its := fun {a its} pl => by
    obtain ⟨o, ho, hcl', nn, hd⟩ := pl
    refine ⟨o, hkp a o (fun z => ?_) ho, hcl', nn, hd⟩
    rw [z, tabS] at ho
    cases ho
    cases hd
  obtain ⟨its, rv, pl, hz⟩ := I.tuple hq
  have pl2 := tup2 pl
  obtain ⟨its2, rv2, plb, hz2⟩ := I.tuple hp
  have plb2 := tup2 plb
  have clf : (genEnv scope (cloFrom X.env.cells scope.names []) C code bi X.env).cells.lookup f = some c := by
    show (cloFrom X.env.cells scope.names []).lookup f = some c
    rw [hcl, hc]
    rfl
  have hat0 : atI (.ref pa :: zs) 0 = some (.ref pa) := atI_nat (j := 0) rfl
  obtain ⟨j2, h1, h2, h3, h4, h5⟩ := atI_get hat0
  obtain ⟨wv, ew, rw'⟩ := rv.get h2
  cases (show wv = Value.ref pa from rw')
  have hlen := rv.length
  refine wpAny_Compare1 ?_
  refine wpAny_Name (wpAny_loadName_local hk hx hn hm ?_) hdx
  refine Subscript_ (wpAny_Name (wpAny_loadName_free hk hf clf ic2 ?_ hcf) hdf)
  refine wpAny_Constant_int ?_
  refine subscriptTail_builtinR (x := Value.ref pa) (show IsTup { t with toks := t.toks + 1 }.heap fa its.toArray from pl2).typeIs slot_tuple_getitem.lookup
    (getItem_tuple (j := j2) (show IsTup { t with toks := t.toks + 1 }.heap fa its.toArray from pl2) (by decide) (by decide) (by rw [List.size_toArray, ← hlen]; exact h1) (by simpa using ew) ⟨rfl, ?_⟩) (by rfl)
  obtain ⟨as, ra⟩ := reads_ints t.heap ns its2 rv2
  obtain ⟨o, ho, hcl', nn, hd⟩ := plb2
  refine PySem.SeqAt.in_tuple_reads (xs := ns.map PyData.int) (d := .int n) (.tuple (h := t.heap) ho hcl' hd (by simpa using ra)) (.int n tk) (canAll_ints ns) rfl ?_ ⟨⟨_, hy, ?_⟩, GxR.keeps_tok _ _⟩
  · have : min (PyData.depthAll (ns.map PyData.int)) (PyData.int n).depth ≤ 1 := Nat.le_trans (Nat.min_le_right _ _) (by simp [PyData.depth])
    omega
  · rw [any_ints]
    rfl
end Gv

set_option Elab.async false
set_option linter.all false
set_option maxRecDepth 100000
set_option maxHeartbeats 4000000
/-! comprehensions with two fors: the loops; an item of a list, by values -/
namespace Cp
open PySem PySem.Spec PyProof.Rows L2
theorem lc2_list {K : PySem.W.Frag} {a : Addr} {xs : List V} {g : TG} {tt : TT} {B : L2.St → Hp → (Hp → Prop) → Prop} {vs : List Nat} {σ : L2.St} {H1 : Hp} {D : Addr} {Qd : Hp → Prop} (Pv : Nat → Hp → Prop) (h0 : Pv 0 (upd H1 D (.lst []))) (hl : ∀ i H, i ≤ xs.length → Pv i H → SqL K H a xs)
    (hs : ∀ i x H, xs[i]? = some x → Pv i H → g x (wipe σ vs) H fun σ2 H2 => wipe σ2 vs = wipe σ vs ∧ tt σ2 H2 fun b H3 => if b = true then B σ2 H3 (Pv (i + 1)) else Pv (i + 1) H3) (hd : ∀ H, Pv xs.length H → Qd H) :
    ∃ W : Nat → Nat → Hp → Prop, (∃ m, W 0 m (upd H1 D (.lst []))) ∧ ∀ i m H, W i m H →
      ((Itl K a).stop i H ∧ Qd H) ∨ ((Itl K a).go i H ∧ ∃ Nx : Hp → Prop, (∀ H', Nx H' → ∃ m', m' < m ∧ W (i + 1) m' H') ∧ ∀ x H', (Itl K a).yld i H x H' → g x (wipe σ vs) H' fun σ2 H2 => wipe σ2 vs = wipe σ vs ∧ tt σ2 H2 fun b H3 => if b = true then B σ2 H3 Nx else Nx H3) := by
  refine ⟨fun i m H => m = xs.length - i ∧ i ≤ xs.length ∧ Pv i H, ⟨xs.length, by simp, Nat.zero_le _, h0⟩, ?_⟩
  rintro i m H ⟨rfl, hi, p⟩
  have q := hl i H hi p
  by_cases hlt : i < xs.length
  · refine .inr ⟨⟨xs, xs[i], q, by simp [hlt]⟩, Pv (i + 1), fun H' p' => ⟨xs.length - (i + 1), by omega, rfl, hlt, p'⟩, fun x H' y => ?_⟩
    obtain ⟨e, y⟩ := y
    subst e
    exact hs i x _ (y xs q) p
  · have e : i = xs.length := by omega
    subst e
    exact .inl ⟨⟨xs, q, by simp⟩, hd H p⟩
theorem lcin_range {lo : Int} {n : Nat} {g : TG} {tt : TT} {te : TE} {vs : List Nat} {σ : L2.St} {H4 : Hp} {D : Addr} {Qd : Hp → Prop} (Pv : Nat → Hp → Prop) (h0 : Pv 0 H4)
    (hs : ∀ i H, i < n → Pv i H → g (.int (lo + i)) (wipe σ vs) H fun σ2 H2 => wipe σ2 vs = wipe σ vs ∧ tt σ2 H2 fun b H3 =>
      if b = true then te σ2 H3 fun y H4 => ∃ acc, H4 D = some (.lst acc) ∧ acc.length < sizeLine ∧ Pv (i + 1) (upd H4 D (.lst (acc ++ [y]))) else Pv (i + 1) H3) (hd : ∀ H, Pv n H → Qd H) :
    ∃ W : Nat → Nat → Hp → Prop, (∃ m, W 0 m H4) ∧ ∀ i m H, W i m H →
      ((Itr lo n).stop i H ∧ Qd H) ∨ ((Itr lo n).go i H ∧ ∃ Nx : Hp → Prop, (∀ H', Nx H' → ∃ m', m' < m ∧ W (i + 1) m' H') ∧ ∀ x H', (Itr lo n).yld i H x H' → g x (wipe σ vs) H' fun σ2 H2 => wipe σ2 vs = wipe σ vs ∧ tt σ2 H2 fun b H3 =>
        if b = true then te σ2 H3 fun y H4 => ∃ acc, H4 D = some (.lst acc) ∧ acc.length < sizeLine ∧ Nx (upd H4 D (.lst (acc ++ [y]))) else Nx H3) := by
  refine ⟨fun i m H => m = n - i ∧ i ≤ n ∧ Pv i H, ⟨n, by simp, Nat.zero_le _, h0⟩, ?_⟩
  rintro i m H ⟨rfl, hi, p⟩
  by_cases hlt : i < n
  · refine .inr ⟨hlt, Pv (i + 1), fun H' p' => ⟨n - (i + 1), by omega, rfl, hlt, p'⟩, fun x H' y => ?_⟩
    obtain ⟨e, y⟩ := y
    subst e y
    exact hs i _ hlt p
  · have e : i = n := by omega
    subst e
    exact .inl ⟨Nat.le_refl _, hd H p⟩
/-- xs[k], k from 0 on -/
def rIxN (K : PySem.W.Frag) : V → V → Hp → VK → Prop := fun x y H Q => ∃ (p : Addr) (xs : List V) (k : Nat) (v : V), x = .ref p ∧ y = .int k ∧ SqL K H p xs ∧ xs[k]? = some v ∧ Q v H
theorem pget_list {X : Cx} : PGet X (rIxN X.K) := by
  intro pins s σ H o i ov iv Q I ro ri h
  obtain ⟨p, xs, k, z, rfl, rfl, hq, he, q⟩ := h
  cases ro
  obtain ⟨t, rfl⟩ := ri
  obtain ⟨its, r, pl, hz⟩ := I.list hq
  obtain ⟨w, ew, rw'⟩ := r.get he
  have hl := r.length
  have hn := line63
  have hk := (List.getElem?_eq_some_iff.mp he).1
  exact wpAny_getItem_list pl.isList (by omega) (by omega) (by simpa using ew) ⟨z, H, I, rw', q⟩
end Cp

set_option Elab.async false
set_option linter.all false
set_option maxRecDepth 100000
set_option maxHeartbeats 4000000
/-! all(..) and any(..) of a generator expression: any source, any target, any element -/
namespace Gx
open PySem PySem.Spec PyProof.Rows L2 GenW
/-- the element's context: a frame of its own over the def's -/
abbrev gcx (X : Cx) (A : Around) (s : Shared) (H : Hp) (cenv : Env) (fp : List Addr) : Cx :=
  { X with A := A, s_0 := s, H_0 := H, env := cenv, outer := X.stack, stack := cenv :: X.stack, ex := fp, fn := fun _ => false, pn := [], xe := fun _ _ => False }
structure GenK (scope : Scope) : Prop where
  co : scope.isCoroutine = false
  cell : ∀ y ∈ scope.names, y.2 ≠ .cell
  dot : scope.names.lookup (".0" : Str) = some NameKind.local
/-- nothing but the generators' own table has turned -/
structure Kept (s s' : Shared) : Prop where
  os : s'.os = s.os
  bare : AllBare s'.gens
  keep : ∀ b o, s.heap.get? b = some o → s'.heap.get? b = some o
theorem Inv.keptS {X : Cx} {pins : List (Addr × Obj)} {σ : L2.St} {H : Hp} {s s' : Shared} (I : Inv X pins σ H s) (k : Kept s s') : Inv X pins σ H s' :=
  I.call' (ch := []) k.os (Un.kept k.keep) (I.hok.kept k.keep) k.bare fun b z => by simp at z
section
variable {X : Cx} {pins : List (Addr × Obj)} {σ : L2.St} {H : Hp} {s : Shared}
theorem gen_start {scope : Scope} {own : List (Str × Nat)} {fp : List Addr} {code : Value} {A : Around} {s' : Shared} {m : Str → Option Value} (I : Inv X pins σ H s) (ok : BlkOk X.N X.env.scope scope own) (S : GenK scope) (hN : X.N.Nodup) (hfp : ∀ b ∈ fp, FpOk X pins H b ∧ b < s.heap.objs.size)
    (hA : A.handled = none) (hfr : A.frames = some (genEnv scope (cloFrom X.env.cells scope.names []) s.heap.objs.size code builtinsNs X.env :: X.stack))
    (k : Kept s s') (hns : s'.heap.Ns s.heap.objs.size m) :
    Inv (gcx X A s H (genEnv scope (cloFrom X.env.cells scope.names []) s.heap.objs.size code builtinsNs X.env) fp) [] (wipe σ (own.map (·.2))) H s' := by
  have hfree : ∀ y ∈ scope.names, y.2 = .free → ∃ c, X.env.cells.lookup y.1 = some c := fun y hy e => by
    rcases ok.free y hy e with k | k
    · exact I.ok.has _ (.inl k)
    · exact I.ok.has _ (.inr k)
  generalize hcenv : genEnv scope (cloFrom X.env.cells scope.names []) s.heap.objs.size code builtinsNs X.env = cenv at hfr
  have hL : cenv.locals = s.heap.objs.size := by rw [← hcenv]; rfl
  have hcl : cenv.cells = cloFrom X.env.cells scope.names [] := by rw [← hcenv]; rfl
  have hsc : cenv.scope = scope := by rw [← hcenv]; rfl
  have mem : ∀ {y c}, cenv.cells.lookup y = some c → X.env.cells.lookup y = some c ∧ c < s.heap.objs.size := fun {y c} e => by
    rw [hcl] at e
    rcases cloFrom_mem (PySem.mem_of_lookup e) with hm | ⟨h1, rfl⟩
    · cases hm
    · obtain ⟨c, hc⟩ := hfree _ h1 rfl
      rw [hc]
      obtain ⟨w, z⟩ := I.cell _ _ hc
      exact ⟨rfl, z.lt⟩
  have look : ∀ {y}, scope.names.lookup y = some .free → ∃ c, cenv.cells.lookup y = some c ∧ X.env.cells.lookup y = some c := fun {y} hl => by
    have hy : (y, NameKind.free) ∈ scope.names := PySem.mem_of_lookup hl
    obtain ⟨c', e'⟩ := mem_lookup (cloFrom_has (cells := X.env.cells) (acc := []) hy)
    rw [← hcl] at e'
    exact ⟨c', e', (mem e').1⟩
  have okB : (gcx X A s H cenv fp).Ok := by
    refine ⟨I.ok.mod, by show cenv.scope.kind = _; rw [hsc]; exact ok.kind, by show cenv.globals = _; rw [← hcenv]; exact I.ok.glob, by show cenv.builtins = _; rw [← hcenv]; rfl, by show s.heap.objs.size ≤ cenv.locals; rw [hL]; exact Nat.le_refl _,
      fun y z c e1 e2 => I.ok.inj y z c (mem e1).1 (mem e2).1, fun y hy => ?_, (fun y c z e => nomatch z), fun _ => hA, hfr, .inr ⟨rfl, ?_⟩, fun b hb => ⟨?_, fun y c e z => ?_⟩, I.bs, Nat.le_trans I.ok.bsz I.sz, fun b o e hb => ?_, fun b hb z => ?_, I.stack, I.stkFree⟩
    · show ∃ c, cenv.cells.lookup y = some c
      rcases hy with hy | hy
      · have e : scope.names.lookup y = some .cell := by rw [← hsc]; exact hy
        exact absurd rfl (S.cell _ (PySem.mem_of_lookup e))
      · have e : scope.names.lookup y = some .free := by rw [← hsc]; exact hy
        obtain ⟨c, h1, _⟩ := look e
        exact ⟨c, h1⟩
    · show cenv.frame = some cenv.locals
      rw [← hcenv]
      rfl
    · show b ≠ cenv.locals
      rw [hL]; exact Nat.ne_of_lt (hfp b hb).2
    · exact (hfp b hb).1.2.2.2.2.1 y c (mem e).1 z
    · rcases (hfp b hb).1.2.2.2.1 with z | z
      · exact I.ok.noex b o e z
      · exact absurd (Nat.lt_of_lt_of_le (Heap.lt_size e) (Nat.le_trans I.ok.bsz z)) (Nat.lt_irrefl _)
    · rcases List.mem_cons.mp (I.stkSub b z) with z | z
      · exact (hfp b hb).1.2.1 z
      · exact (hfp b hb).1.2.2.1 z
  refine ⟨okB, k.os, k.bare, Un.kept k.keep, ⟨m, ?_, fun i y av e1 e2 e3 => ?_⟩, fun y c e => ?_, ?_, fun y c e => I.freeC y c (mem e).1, fun p hp => ?_, I.hok.kept k.keep, by rw [wipe_length]; exact I.len⟩
  · show Heap.Ns _ cenv.locals _
    rw [hL]
    exact hns
  · obtain ⟨e2, hne⟩ := wipe_some e2
    have hfr : scope.names.lookup y = some .free := by
      have key : ∀ k, scope.names.lookup y = some k → k = .local ∨ k = .cell ∨ k = .free → scope.names.lookup y = some .free := fun k e hk' => by
        have no : ¬ (k = .local ∨ k = .cell) := fun hh => by
          rcases ok.own _ (PySem.mem_of_lookup e) hh with e' | e'
          · obtain ⟨p, hp, hpy⟩ := List.mem_map.mp e'
            have e3 := ok.ix p hp
            have : p.1 = y := hpy
            rw [this] at e3
            exact hne (List.mem_map.mpr ⟨p, hp, nodup_ix hN e3 e1⟩)
          · exact e' (List.mem_of_getElem? e1)
        rcases hk' with rfl | rfl | rfl
        · exact absurd (.inl rfl) no
        · exact absurd (.inr rfl) no
        · exact e
      have e3 : Vis cenv.scope y := e3
      rw [hsc] at e3
      rcases e3 with e3 | e3 | e3
      · exact key _ e3 (.inl rfl)
      · exact key _ e3 (.inr (.inl rfl))
      · exact key _ e3 (.inr (.inr rfl))
    obtain ⟨m2, hn, hl⟩ := I.loc
    have hvis : Vis X.env.scope y := (ok.free _ (PySem.mem_of_lookup hfr) rfl).elim (fun k => .inr (.inl k)) (fun k => .inr (.inr k))
    obtain ⟨w, r, q⟩ := hl i y av e1 e2 hvis
    refine ⟨w, r, .inr ⟨.inr (by show cenv.scope.names.lookup y = _; rw [hsc]; exact hfr), ?_⟩⟩
    obtain ⟨c, h1, h2⟩ := look hfr
    rcases q with ⟨k, _⟩ | ⟨_, c', e', z⟩
    · have k : X.env.scope.names.lookup y = some .local := k
      rcases ok.free _ (PySem.mem_of_lookup hfr) rfl with k' | k' <;> rw [show X.env.scope.names.lookup y = _ from k'] at k <;> cases k
    · rw [h2] at e'; cases e'
      exact ⟨c, h1, z.keeps k.keep⟩
  · obtain ⟨w, z⟩ := I.cell y c (mem e).1
    exact ⟨w, z.keeps k.keep⟩
  · show H cenv.locals = none
    rw [hL]; exact I.hok.fresh (Nat.le_refl _)
  · exact absurd (show p ∈ ([] : List (Addr × Obj)) ++ [] from hp) (by simp)
end
end Gx

set_option Elab.async false
set_option linter.all false
set_option maxRecDepth 100000
set_option maxHeartbeats 4000000
namespace Gx
open PySem PySem.Spec PyProof.Rows L2 GenW
/-- the end of the walk -/
def RG (X : Cx) (pz : List (Addr × Obj)) (σ0 : L2.St) (QT : Hp → Prop) : GenEnd := fun _ _ r s₁ => ((r = .ok (.ret .none) ∨ r = .ok .next) ∧ ∃ H', Inv X pz σ0 H' s₁ ∧ QT H') ∨ ∃ e, r = .error e ∧ False
/-- a truth is handed out: by d it goes on -/
def YG (X : Cx) (pz : List (Addr × Obj)) (d : Bool) (QF : Hp → Prop) : Protocol := fun _ _ v s kap => ∃ (c : Bool) (σ' : L2.St) (H' : Hp), v = .bool c ∧ Inv X pz σ' H' s ∧ (if c = d then ∀ s', Kept s s' → kap (.send .none) s' else QF H')
/-- the source's turns, the target, the tests, the element -/
def Turns (J : It) (g : TG) (tt : TT) (te : TE) (vs : List Nat) (σ : L2.St) (d : Bool) (QT QF : Hp → Prop) (W : Nat → Nat → Hp → Prop) : Prop := ∀ i m H, W i m H →
  (J.stop i H ∧ QT H) ∨ (J.go i H ∧ ∃ Nx : Hp → Prop, (∀ H', Nx H' → ∃ m', m' < m ∧ W (i + 1) m' H') ∧ ∀ x H', J.yld i H x H' → g x (wipe σ vs) H' fun σ2 H2 => wipe σ2 vs = wipe σ vs ∧ tt σ2 H2 fun b H3 =>
    if b = true then te σ2 H3 fun y H4 => ∃ c, y = .bl c ∧ (if c = d then Nx H4 else QF H4) else Nx H3)
section
variable {X : Cx} {A B : Around} {s3 : Shared} {H3 : Hp} {cenv : Env} {fp : List Addr} {σ : L2.St}
theorem seg_loop {elt tg iter : Expr} {ifs : List Expr} {scope : Scope} {pos : Pos} {it : Addr} {J : It} {tn : Nat → Heap → Prop} {g : TG} {tt : TT} {te : TE} {vs : List Nat} {d : Bool} {QT QF : Hp → Prop} {W : Nat → Nat → Hp → Prop} {pz : List (Addr × Obj)}
    (T : Turn X.prog X.w X.K tg J fp it tn) (hc : X.calm = true) (hov : B.over (.compLoop (.GeneratorExp elt [⟨tg, iter, ifs, 0⟩] scope pos) 0 (.ref it) .none cenv) [] = A) (hco : cenv.scope.isCoroutine = false) (hpz : ∀ p ∈ pz, p.1 ∉ fp)
    (pg : PG (gcx X A s3 H3 cenv fp) tg g) (pt : PTs (gcx X A s3 H3 cenv fp) ifs tt) (pe : PE (gcx X A s3 H3 cenv fp) elt te) (turn : Turns J g tt te vs σ d QT QF W) :
    ∀ (m n i : Nat) (s₀ s : Shared) (H : Hp), m < n → Inv (gcx X A s3 H3 cenv fp) pz (wipe σ vs) H s → tn i s.heap → (∀ b ∈ fp, H b = none) → W i m H →
      Seg (model X.prog X.w) B (RG (gcx X A s3 H3 cenv fp) pz (wipe σ vs) QT) (YG (gcx X A s3 H3 cenv fp) pz d QF) n s₀
        (.compLoop (.GeneratorExp elt [⟨tg, iter, ifs, 0⟩] scope pos) 0 (.ref it) .none cenv)
        ((model X.prog X.w).den (.compLoop (.GeneratorExp elt [⟨tg, iter, ifs, 0⟩] scope pos) 0 (.ref it) .none cenv)) [] s := by
  have stat : ∀ {σ' : L2.St} {H' : Hp} {s' : Shared}, Inv (gcx X A s3 H3 cenv fp) pz σ' H' s' → (∀ b ∈ fp, H' b = none) → ∀ b ∈ fp, FpOk (gcx X A s3 H3 cenv fp) pz H' b := fun {σ' H' s'} I' hn b hb =>
    ⟨hn b hb, (I'.ok.exf b hb).1, I'.ok.exfs b hb, .inl hb, fun x c e => (I'.ok.exf b hb).2 x c e, fun p hp z => hpz p (by simpa using hp) (by rw [z]; exact hb)⟩
  intro m
  induction m using Nat.strongRecOn with
  | ind m ih =>
    intro n i s₀ s H hmn I st nf w
    show Seg _ B _ _ _ s₀ _ ((compTurn (.GeneratorExp elt [⟨tg, iter, ifs, 0⟩] scope pos) 0 (.ref it) .none cenv).onRaise (leaving cenv)) [] s
    rw [compTurn_gen, Sem.onRaise_eq_wrap]
    refine seg_bind_wrap (wpAny_standAt ?_)
    rcases turn i m H w with ⟨stop, qq⟩ | ⟨go, Nx, hNx, step⟩
    · refine seg_bind_wrap ?_
      rw [hov]
      refine wpAny_mono (T.done (gcx X A s3 H3 cenv fp) rfl rfl rfl hc i pz s _ H (fun _ _ => False) I (stat I nf) st stop) (fun r s6 hx => ?_) fun _ _ e => e.elim
      obtain ⟨rfl, I6⟩ := hx
      exact seg_end (.ok .next) (.inl ⟨.inr rfl, H, I6, qq⟩)
    · refine seg_bind_wrap ?_
      rw [hov]
      refine wpAny_mono (T.item (gcx X A s3 H3 cenv fp) rfl rfl rfl hc i pz s _ H (fun _ _ => False) I (stat I nf) st go) (fun r s6 hx => ?_) fun _ _ e => e.elim
      obtain ⟨u, rfl, h6⟩ := hx
      refine seg_bind_wrap ?_
      rw [hov]
      refine wpAny_mono h6 (fun _ s7 hx => ?_) fun _ _ e => e.elim
      obtain ⟨x, H7, I7, r7, y7, st7, n7⟩ := hx
      have I7' := I7.pinned (stat I7 n7) (T.obj _ _ st7)
      refine seg_bind_wrap ?_
      rw [hov]
      refine wpAny_mono (pg.run _ s7 _ H7 x u _ I7' r7 (step x H7 y7)) (fun _ s8 hx => ?_) fun _ _ e => e.elim
      obtain ⟨σ8, H8, I8, hw8, q8⟩ := hx
      refine seg_bind_wrap ?_
      rw [hov]
      refine wpAny_mono (pt.run _ s8 σ8 H8 _ I8 q8) (fun b s9 hx => ?_) fun _ _ e => e.elim
      obtain ⟨H9, I9, q9⟩ := hx
      -- the turn's end
      have fin : ∀ {s' : Shared} {H' : Hp} {m' : Nat}, Inv (gcx X A s3 H3 cenv fp) (pz ++ pinsAt fp s7.heap) σ8 H' s' → Inv (gcx X A s3 H3 cenv fp) pz (wipe σ vs) H' s' ∧ tn (i + 1) s'.heap ∧ ∀ b ∈ fp, H' b = none := fun {s' H' m'} I' => by
        have pin' : ∀ b ∈ fp, ∀ o, s7.heap.get? b = some o → s'.heap.get? b = some o ∧ H' b = none := fun b hb o e =>
          let z := I'.pin (b, o) (List.mem_append_right _ (List.mem_append_right _ (mem_pinsAt hb e)))
          ⟨z.1, z.2.1⟩
        have hl : (wipe σ vs).length = σ8.length := by rw [← hw8, wipe_length]
        refine ⟨(I'.unpinned (pins := pz)).weak hl (fun j v e => ?_), T.keep _ _ _ st7 fun b hb o e => (pin' b hb o e).1, fun b hb => ?_⟩
        · rw [← hw8] at e
          exact (wipe_some e).1
        · obtain ⟨o, e, _⟩ := T.obj _ _ st7 b hb
          exact (pin' b hb o e).2
      cases b with
      | false =>
        simp only [Bool.false_eq_true, if_false] at q9 ⊢
        obtain ⟨m', hm, w'⟩ := hNx H9 q9
        obtain ⟨f1, f2, f3⟩ := fin (m' := m') I9
        exact seg_again rfl (ih m' hm n (i + 1) s₀ _ H9 (by omega) f1 f2 f3 w')
      | true =>
        simp only [if_true] at q9 ⊢
        have hy : ∀ v, yieldOut cenv v = yieldValue v := fun v => by simp only [yieldOut, hco, Bool.false_eq_true, if_false]
        simp only [hy]
        rw [Sem.bind_eq_wrap', Sem.bind_eq_wrap', Sem.wrap_wrap, Sem.wrap_wrap]
        refine seg_wrap ?_
        rw [hov]
        refine wpAny_mono (pe.run _ s9 σ8 H9 _ I9 q9) (fun z s10 hx => ?_) fun _ _ e => e.elim
        obtain ⟨yv, H10, I10, r10, c, rfl, nx⟩ := hx
        cases (show z = Value.bool c from r10)
        obtain ⟨n, rfl⟩ : ∃ n', n = n' + 1 := ⟨n - 1, by omega⟩
        refine seg_at (seg_yield rfl rfl rfl ⟨c, σ8, H10, rfl, I10.unpinned, ?_⟩)
        by_cases hcd : c = d
        · rw [if_pos hcd] at nx ⊢
          intro s'' hk
          obtain ⟨m', hm, w'⟩ := hNx H10 nx
          obtain ⟨f1, f2, f3⟩ := fin (m' := m') (Inv.keptS I10 hk)
          exact seg_again rfl (ih m' hm n (i + 1) s'' s'' H10 (by omega) f1 f2 f3 w')
        · rw [if_neg hcd] at nx ⊢
          exact nx
theorem seg_start {elt tg iter : Expr} {ifs : List Expr} {scope : Scope} {pos : Pos} {it : Addr} {J : It} {tn : Nat → Heap → Prop} {R : GenEnd} {Y : Protocol} {n : Nat} {s₀ s : Shared}
    (T : Turn X.prog X.w X.K tg J fp it tn) (st : tn 0 s.heap)
    (loop : Seg (model X.prog X.w) B R Y n s₀ (.compLoop (.GeneratorExp elt [⟨tg, iter, ifs, 0⟩] scope pos) 0 (.ref it) .none cenv) ((model X.prog X.w).den (.compLoop (.GeneratorExp elt [⟨tg, iter, ifs, 0⟩] scope pos) 0 (.ref it) .none cenv)) [] s) :
    Seg (model X.prog X.w) B R Y n s₀ (.compStart (.GeneratorExp elt [⟨tg, iter, ifs, 0⟩] scope pos) 0 (.ref it) .none cenv) ((model X.prog X.w).den (.compStart (.GeneratorExp elt [⟨tg, iter, ifs, 0⟩] scope pos) 0 (.ref it) .none cenv)) [] s := by
  show Seg _ B _ _ _ s₀ _ ((compStart (.GeneratorExp elt [⟨tg, iter, ifs, 0⟩] scope pos) 0 (.ref it) .none cenv).onRaise (leaving cenv)) [] s
  unfold compStart
  rw [Sem.onRaise_eq_wrap]
  show Seg _ B _ _ _ s₀ _ ((ask >>= _).wrap _ _ _ _) [] s
  refine seg_bind_wrap (wpAny_askSetting ?_)
  split
  · exact seg_again rfl loop
  · first
      | exact seg_bind_wrap (wpAny_rule (seg_bind_wrap (wpAny_standAt (seg_bind_wrap (T.self _ 0 s _ _ st (seg_again rfl loop))))))
      | (refine seg_bind_wrap (wpAny_rule ?_); show Seg _ B _ _ _ s₀ _ ((standAt iter.pos >>= _).wrap _ _ _ _) [] s; exact seg_bind_wrap (wpAny_standAt (seg_bind_wrap (T.self _ 0 s _ _ st (seg_again rfl loop)))))
end
/-- the consumer: all's loop by d = true, any's by d = false -/
def loopId (d : Bool) : String := if d then "all.loop" else "any.loop"
theorem walk_loop {X : Cx} {pz : List (Addr × Obj)} {σ0 : L2.St} {QT QF : Hp → Prop} {A : Around} {a : Addr} {g : Nat} {go : Obj} (d : Bool) {R : Result → Shared → Prop} (hpz : (a, go) ∈ pz) (hgo : ∀ h : Heap, h.get? a = some go → h.IsGen a g)
    (hh : A.handled = none) (hd : A.depth < recursionLimit)
    (hT : ∀ H' s1 s', Inv X pz σ0 H' s1 → QT H' → Kept s1 s' → R (.ok (.ret (.bool d))) s') (hF : ∀ σ' H' s1 s', Inv X pz σ' H' s1 → QF H' → Kept s1 s' → R (.ok (.ret (.bool (!d)))) s') :
    ∀ (n : Nat) (s : Shared), s.heap.IsGen a g → s.heap.NoLimit →
      (∃ gs, s.gens[g]? = some gs ∧ gs.Goes (model X.prog X.w) A.in1.in1 (RG X pz σ0 QT) (YG X pz d QF) n (.send .none) (s.setGen g .running)) →
      codeAny (model X.prog X.w) A (.builtin (loopId d) ⟨[.ref a], []⟩) R s := by
  intro n
  induction n with
  | zero =>
    intro s hg hl ⟨gs, hgs, hgo'⟩
    cases d
    · show codeAny (model X.prog X.w) A (.builtin "any.loop" ⟨[.ref a], []⟩) R s
      refine codeAny_builtin F.entry_any_loop ?_
      rw [Around.under_plainId F.plain_any_loop _]
      show wpAny _ A.in1 (pyNext (.ref a) >>= _) _ _ s
      refine wpAny_bind (next_genG (A := A.in1) (Er := fun _ _ => False) hh hl hd hg hgs hgo' (fun v s₁ gs' hbare hv => ?_) (fun s₁ hp h' hk => ?_) fun e s₁ he => he.elim)
      · obtain ⟨c, σ', H', rfl, I, hq⟩ := hv
        by_cases hcd : c = false
        · rw [if_pos hcd] at hq
          exact (hq s₁ ⟨rfl, I.bare, fun _ _ e => e⟩).elim
        · rw [if_neg hcd] at hq
          have hc : c = true := by cases c <;> simp at hcd ⊢
          subst hc
          refine wpAny_bind (wpAny_holding (wpAny_truthy_bool ?_))
          refine wpAny_bind (wpAny_letGo ?_)
          simp only [if_true]
          refine wpAny_bind (wpAny_rule (wpAny_pure ?_))
          exact hF σ' H' s₁ _ I hq ⟨rfl, allBare_setGen I.bare hbare, fun _ _ e => e⟩
      · obtain ⟨H', I, q⟩ := hp
        refine wpAny_bind (wpAny_rule (wpAny_pure ?_))
        exact hT H' s₁ _ I q ⟨rfl, allBare_setGen I.bare rfl, hk⟩
    · show codeAny (model X.prog X.w) A (.builtin "all.loop" ⟨[.ref a], []⟩) R s
      refine codeAny_builtin F.entry_all_loop ?_
      rw [Around.under_plainId F.plain_all_loop _]
      show wpAny _ A.in1 (pyNext (.ref a) >>= _) _ _ s
      refine wpAny_bind (next_genG (A := A.in1) (Er := fun _ _ => False) hh hl hd hg hgs hgo' (fun v s₁ gs' hbare hv => ?_) (fun s₁ hp h' hk => ?_) fun e s₁ he => he.elim)
      · obtain ⟨c, σ', H', rfl, I, hq⟩ := hv
        by_cases hcd : c = true
        · rw [if_pos hcd] at hq
          exact (hq s₁ ⟨rfl, I.bare, fun _ _ e => e⟩).elim
        · rw [if_neg hcd] at hq
          have hc : c = false := by cases c <;> simp at hcd ⊢
          subst hc
          refine wpAny_bind (wpAny_holding (wpAny_truthy_bool ?_))
          refine wpAny_bind (wpAny_letGo ?_)
          simp only [Bool.false_eq_true, if_false]
          refine wpAny_bind (wpAny_rule (wpAny_pure ?_))
          exact hF σ' H' s₁ _ I hq ⟨rfl, allBare_setGen I.bare hbare, fun _ _ e => e⟩
      · obtain ⟨H', I, q⟩ := hp
        refine wpAny_bind (wpAny_rule (wpAny_pure ?_))
        exact hT H' s₁ _ I q ⟨rfl, allBare_setGen I.bare rfl, hk⟩
  | succ n ih =>
    intro s hg hl ⟨gs, hgs, hgo'⟩
    have hgl : g < s.gens.size := (Array.getElem?_eq_some_iff.mp hgs).1
    have again : ∀ (σ' : L2.St) (H' : Hp) (s₁ : Shared) (gs' : GenState), gs'.bare = true → Inv X pz σ' H' s₁ → g + 1 ≤ (s₁.setGen g gs').gens.size → (∀ s', Kept s₁ s' → gs'.Goes (model X.prog X.w) A.in1.in1 (RG X pz σ0 QT) (YG X pz d QF) n (.send .none) s') →
        codeAny (model X.prog X.w) A (.builtin (loopId d) ⟨[.ref a], []⟩) R (s₁.setGen g gs') := fun σ' H' s₁ gs' hbare I hsz hq => by
      have hsz1 : g < s₁.gens.size := by
        have q : (s₁.setGen g gs').gens.size = s₁.gens.size := setGen_size _ _ _
        omega
      refine ih (s₁.setGen g gs') (hgo _ (I.pin (a, go) (List.mem_append_right _ hpz)).1) I.nolimit ⟨gs', setGen_at hsz1, hq _ ⟨rfl, allBare_setGen (s := s₁.setGen g gs') (allBare_setGen I.bare hbare) rfl, fun _ _ e => e⟩⟩
    cases d
    · show codeAny (model X.prog X.w) A (.builtin "any.loop" ⟨[.ref a], []⟩) R s
      refine codeAny_builtin F.entry_any_loop ?_
      rw [Around.under_plainId F.plain_any_loop _]
      show wpAny _ A.in1 (pyNext (.ref a) >>= _) _ _ s
      refine wpAny_bind (wpAny_gsz (n := g + 1) hgl (next_genG (A := A.in1) (Er := fun _ _ => False) hh hl hd hg hgs hgo' (fun v s₁ gs' hbare hv => ?_) (fun s₁ hp h' hk => ?_) fun e s₁ he => he.elim))
      · intro hsz
        obtain ⟨c, σ', H', rfl, I, hq⟩ := hv
        refine wpAny_bind (wpAny_holding (wpAny_truthy_bool ?_))
        refine wpAny_bind (wpAny_letGo ?_)
        cases c with
        | false =>
          rw [if_pos rfl] at hq
          simp only [Bool.false_eq_true, if_false]
          exact wpAny_pure ⟨plainId_quiet F.plain_any_loop _, again σ' H' s₁ gs' hbare I hsz hq⟩
        | true =>
          rw [if_neg (by decide)] at hq
          simp only [if_true]
          refine wpAny_bind (wpAny_rule (wpAny_pure ?_))
          exact hF σ' H' s₁ _ I hq ⟨rfl, allBare_setGen I.bare hbare, fun _ _ e => e⟩
      · intro hsz
        obtain ⟨H', I, q⟩ := hp
        refine wpAny_bind (wpAny_rule (wpAny_pure ?_))
        exact hT H' s₁ _ I q ⟨rfl, allBare_setGen I.bare rfl, hk⟩
    · show codeAny (model X.prog X.w) A (.builtin "all.loop" ⟨[.ref a], []⟩) R s
      refine codeAny_builtin F.entry_all_loop ?_
      rw [Around.under_plainId F.plain_all_loop _]
      show wpAny _ A.in1 (pyNext (.ref a) >>= _) _ _ s
      refine wpAny_bind (wpAny_gsz (n := g + 1) hgl (next_genG (A := A.in1) (Er := fun _ _ => False) hh hl hd hg hgs hgo' (fun v s₁ gs' hbare hv => ?_) (fun s₁ hp h' hk => ?_) fun e s₁ he => he.elim))
      · intro hsz
        obtain ⟨c, σ', H', rfl, I, hq⟩ := hv
        refine wpAny_bind (wpAny_holding (wpAny_truthy_bool ?_))
        refine wpAny_bind (wpAny_letGo ?_)
        cases c with
        | true =>
          rw [if_pos rfl] at hq
          simp only [if_true]
          exact wpAny_pure ⟨plainId_quiet F.plain_all_loop _, again σ' H' s₁ gs' hbare I hsz hq⟩
        | false =>
          rw [if_neg (by decide)] at hq
          simp only [Bool.false_eq_true, if_false]
          refine wpAny_bind (wpAny_rule (wpAny_pure ?_))
          exact hF σ' H' s₁ _ I hq ⟨rfl, allBare_setGen I.bare hbare, fun _ _ e => e⟩
      · intro hsz
        obtain ⟨H', I, q⟩ := hp
        refine wpAny_bind (wpAny_rule (wpAny_pure ?_))
        exact hT H' s₁ _ I q ⟨rfl, allBare_setGen I.bare rfl, hk⟩
end Gx

set_option Elab.async false
set_option linter.all false
set_option maxRecDepth 100000
set_option maxHeartbeats 4000000
namespace Gx
open PySem PySem.Spec PyProof.Rows L2 GenW
theorem over_gen {B : Around} {elt : Expr} {gens : List Comprehension} {scope : Scope} {pos : Pos} {it acc : Value} {env : Env} {st : List Env} (h : B.frames = some st) :
    (B.over (.compLoop (.GeneratorExp elt gens scope pos) 0 it acc env) []).frames = some (env :: st) := by
  have e1 : (B.over (.compLoop (.GeneratorExp elt gens scope pos) 0 it acc env) []).frames = pushEnvs (Code.envs (.compLoop (.GeneratorExp elt gens scope pos) 0 it acc env)) (pushEnvs (envsOf (([] : List Frame).map Frame.where_)) B.frames) := rfl
  rw [e1, h]
  rfl
/-- the reading: by d the walk goes on -/
def tQX (d : Bool) (wi : TI) (g : TG) (tt : TT) (te : TE) (vs : List Nat) (P : Addr) : TE := fun σ H Q => wi σ H fun J H1 => GxR.TabG H1 P ∧ ∀ H2, GxR.Tabbed P H1 H2 → ∃ W : Nat → Nat → Hp → Prop, (∃ m, W 0 m H2) ∧
  Turns J g tt te vs σ d (fun H => Q (.bl d) H) (fun H => Q (.bl (!d)) H) W
section
variable {X : Cx} {pins : List (Addr × Obj)} {σ : L2.St} {H : Hp} {s : Shared}
theorem gen_core {c P : Addr} {elt tg iter : Expr} {ifs : List Expr} {gpos : Pos} {scope : Scope} {own : List (Str × Nat)} {wi : TI} {g : TG} {tt : TT} {te : TE} {k : Nat} {d : Bool} {Q : VK}
    (hr : Room (k + 1) X.A) (hc : X.calm = true) (hN : X.N.Nodup) (TB : GxR.TabB X.base X.mg c P) (hcode : X.env.code = .ref c) (ok : BlkOk X.N X.env.scope scope own) (S : GenK scope) (hi : PI X tg iter wi) (hs : ∀ v, genFold iter X.env v = pure v)
    (hg : ∀ (A : Around) (s : Shared) (H : Hp) (C : Addr) (code : Value) (fp : List Addr), Room k A → PG (gcx X A s H (genEnv scope (cloFrom X.env.cells scope.names []) C code builtinsNs X.env) fp) tg g)
    (ht : ∀ (A : Around) (s : Shared) (H : Hp) (C : Addr) (code : Value) (fp : List Addr), Room k A → PTs (gcx X A s H (genEnv scope (cloFrom X.env.cells scope.names []) C code builtinsNs X.env) fp) ifs tt)
    (he : ∀ (A : Around) (s : Shared) (H : Hp) (C : Addr) (code : Value) (fp : List Addr), Room k A → PE (gcx X A s H (genEnv scope (cloFrom X.env.cells scope.names []) C code builtinsNs X.env) fp) elt te)
    (I : Inv X pins σ H s) (h : tQX d wi g tt te (own.map (·.2)) P σ H Q) :
    wpAny (model X.prog X.w) X.A (eval (.GeneratorExp elt [⟨tg, iter, ifs, 0⟩] scope gpos) X.env) (fun v s5 => ∃ (a : Addr) (gn : Nat), v = .ref a ∧ s5.heap.IsGen a gn ∧
      codeAny (model X.prog X.w) X.A (.builtin (loopId d) ⟨[.ref a], []⟩) (fun r s' => ∃ b, r = .ok (.ret (.bool b)) ∧ EP X pins σ Q (.bool b) s') s5) X.xe s := by
  have hfree : ∀ y ∈ scope.names, y.2 = .free → ∃ c, X.env.cells.lookup y.1 = some c := fun y hy e => by
    rcases ok.free y hy e with k | k
    · exact I.ok.has _ (.inl k)
    · exact I.ok.has _ (.inr k)
  refine wpAny_GeneratorExp_make S.co (closure_ok hfree) S.cell S.dot ok.kind hr.depth (wpAny_mono (hi.run pins s σ H _ I h) (fun xv s1 h1 => wpAny_mono h1 (fun itv s2 h2 => ?_) fun _ _ e => e) fun _ _ e => e) hs
  obtain ⟨it, fp, tn, J, H1, rfl, I2, T, st2, f2, ⟨ps, hP, htr⟩, hW⟩ := h2
  refine ⟨I2.nolimit, ?_⟩
  have tabS : s2.heap.get? P = some { cls := .none, data := .fields ps } := I2.hok P _ hP
  have hd : PySem.W.CodeHd s2.heap c P := TB.code.keeps fun b u e => I2.bk b u e
  have key : ∀ (REST : Value → Shared → Prop), (∀ (cv : Value) (h3 : Heap) (tk : Nat) (more : Array Value), Heap.ExtBut P s2.heap h3 → s2.heap.objs.size ≤ h3.objs.size → h3.get? P = some { cls := .none, data := .fields (ps ++ more) } → TriplesOk (ps ++ more).toList → REST cv { s2 with heap := h3, toks := tk }) →
      wpAny (model X.prog X.w) X.A (genexprCode X.env gpos (X.env.qual ++ "<genexpr>") scope) REST X.xe s2 := fun REST fin => by
    cases hf : codeAmong gpos ps.toList with
    | some cv =>
      have e : ps = ps ++ #[] := by simp
      exact wpAny_genexprCode_hit hcode (hd.code tabS htr) hf (fin cv _ s2.toks #[] (Heap.ExtBut.refl _ _) (Nat.le_refl _) (e ▸ tabS) (e ▸ htr))
    | none =>
      refine wpAny_genexprCodeX hcode (hd.code tabS htr) (hd.tab tabS) hf fun c' h3 tk ex ge lt ic _ ta _ => ?_
      obtain ⟨_, _, _, _, _, _, _, _, _, _, _, _, _, _, _, _, _, _, _, tr, _⟩ := ic
      exact fin _ h3 tk _ ex (Nat.le_trans ge (Nat.le_of_lt lt)) ta.2 tr
  refine key _ fun cv h3 tk more ex ge tab3 tr3 => ?_
  obtain ⟨bm, ob, b1, b2, b3, b4, b5, b6, b7, b8⟩ := TB.bm
  refine wpAny_builtinsFor (m := X.mg) (by rw [I2.ok.glob]; exact (I2.mod.glob.keeps I2.bk).extBut ex TB.gP) b1 b2 (ex _ _ b4 (I2.bk _ _ b5)) b6 b7 b8 ?_
  intro h' hn' hs'
  generalize hs3 : ({ s2 with heap := h3, toks := tk } : Shared) = s3 at hn' hs' ⊢
  have e3 : s3.heap = h3 := by rw [← hs3]
  have I3 : Inv X pins σ (upd H1 P (.tbl (ps ++ more))) s3 := by
    rw [← hs3]
    exact GxR.inv_tab (more := more) (h' := h3) (g' := s2.gens) (d' := s2.drawn) (t' := tk) I2 hP (fun b o n e => ex b o n e) tab3 I2.bare
  obtain ⟨W, ⟨m0, w0⟩, turn⟩ := hW _ ⟨⟨ps ++ more, upd_same, tr3⟩, fun b hb => upd_ne hb⟩
  have neP : ∀ b ∈ fp, b ≠ P := fun b hb z => by
    have := (f2 b hb).1
    rw [z, hP] at this
    cases this
  have f3 : ∀ b ∈ fp, FpOk X pins (upd H1 P (.tbl (ps ++ more))) b ∧ b < s3.heap.objs.size := fun b hb => by
    obtain ⟨o, e, _⟩ := T.obj _ _ st2 b hb
    refine ⟨⟨?_, (f2 b hb).2⟩, by rw [e3]; exact Nat.lt_of_lt_of_le (Heap.lt_size e) ge⟩
    rw [upd_ne (neP b hb)]
    exact (f2 b hb).1
  have st3 : tn 0 s3.heap := T.keep _ _ _ st2 fun b hb o e => by rw [e3]; exact ex b o (neP b hb) e
  generalize hH3 : upd H1 P (.tbl (ps ++ more)) = H3 at I3 w0 f3
  have nf : ∀ b ∈ fp, H3 b = none := fun b hb => (f3 b hb).1.1
  -- the generator's object
  generalize hgo : ({ cls := .type "generator", data := .fields #[.int s3.gens.size 0, .str "<genexpr>" (s3.toks + 1), .str (X.env.qual ++ "<genexpr>") (s3.toks + 1 + 1)] } : Obj) = go
  have sz' : h'.objs.size = s3.heap.objs.size + 1 := by rw [hs'.1, Heap.size_push]
  generalize hs5 : ({ s3 with gens := s3.gens.push (.fresh (.compStart (.GeneratorExp elt [⟨tg, iter, ifs, 0⟩] scope gpos) 0 (.ref it) .none (genEnv scope (cloFrom X.env.cells scope.names []) s3.heap.objs.size cv builtinsNs X.env))), toks := s3.toks + 1 + 1 + 1, heap := h'.push go } : Shared) = s5
  have h5 : s5.heap = h'.push go := by rw [← hs5]
  have kp : Kept s3 s5 := by
    refine ⟨by rw [← hs5], by rw [← hs5]; exact AllBare.push I3.bare rfl, fun b o e => ?_⟩
    rw [h5]
    exact Heap.get?_push_of_some _ (hs'.extBut b o (Nat.ne_of_lt (Heap.lt_size e)) (Heap.get?_push_of_some _ e))
  have hga : s5.heap.get? h'.objs.size = some go := by rw [h5, ← hgo]; exact Heap.get?_push_size _ rfl
  have isg : ∀ h : Heap, h.get? h'.objs.size = some go → h.IsGen h'.objs.size s3.gens.size := fun h e => ⟨go, _, _, e, by rw [← hgo], by rw [← hgo], by rw [← hgo]⟩
  have hgs : s5.gens[s3.gens.size]? = some (.fresh (.compStart (.GeneratorExp elt [⟨tg, iter, ifs, 0⟩] scope gpos) 0 (.ref it) .none (genEnv scope (cloFrom X.env.cells scope.names []) s3.heap.objs.size cv builtinsNs X.env))) := by
    rw [← hs5]
    exact Array.getElem?_push_size ..
  have hns : s5.heap.Ns s3.heap.objs.size (fun y => if y = ".0" then some (.ref it) else none) := by rw [h5]; exact hn'.push _
  have hfrX : X.A.frames = some X.stack := I3.ok.frames
  have rm : Room k (X.A.in1.in1.over (.compLoop (.GeneratorExp elt [⟨tg, iter, ifs, 0⟩] scope gpos) 0 (.ref it) .none (genEnv scope (cloFrom X.env.cells scope.names []) s3.heap.objs.size cv builtinsNs X.env)) []) := by
    have h1 := hr.dp
    have h2 := hr.un
    refine ⟨hr.hd, ?_, ?_⟩
    · show X.A.depth + 0 + 1 + 3 * k + 5 < _
      omega
    · show X.A.units + 1 + 1 + 0 + 3 + 16 * k + 200 < _
      omega
  have Ig := gen_start I3 ok S hN f3 rm.hd (over_gen (show X.A.in1.in1.frames = some X.stack from hfrX)) kp hns
  have aC : h'.objs.size ≠ s3.heap.objs.size := by omega
  have Ig2 : Inv (gcx X (X.A.in1.in1.over (.compLoop (.GeneratorExp elt [⟨tg, iter, ifs, 0⟩] scope gpos) 0 (.ref it) .none (genEnv scope (cloFrom X.env.cells scope.names []) s3.heap.objs.size cv builtinsNs X.env)) []) s3 H3 (genEnv scope (cloFrom X.env.cells scope.names []) s3.heap.objs.size cv builtinsNs X.env) fp) [(h'.objs.size, go)] (wipe σ (own.map (·.2))) H3 s5 := by
    refine Ig.pins_of fun p hp => ?_
    rw [List.mem_singleton.mp hp]
    refine ⟨hga, I3.hok.fresh (by omega), aC, fun z => ?_, fun v q => by rw [← hgo] at q; cases q⟩
    rcases List.mem_cons.mp (I3.stkSub _ z) with z | z
    · have z : h'.objs.size = X.env.locals := z
      have q : h'.objs.size < s3.heap.objs.size := by rw [z]; exact I3.lt
      omega
    · exact I3.nofs (by omega) z
  have hpz : ∀ p ∈ [(h'.objs.size, go)], p.1 ∉ fp := fun p hp z => by
    rw [List.mem_singleton.mp hp] at z
    have q : h'.objs.size < s3.heap.objs.size := (f3 _ z).2
    omega
  have back : ∀ (σ' : L2.St) (H' : Hp) (s1 s' : Shared), Inv (gcx X (X.A.in1.in1.over (.compLoop (.GeneratorExp elt [⟨tg, iter, ifs, 0⟩] scope gpos) 0 (.ref it) .none (genEnv scope (cloFrom X.env.cells scope.names []) s3.heap.objs.size cv builtinsNs X.env)) []) s3 H3 (genEnv scope (cloFrom X.env.cells scope.names []) s3.heap.objs.size cv builtinsNs X.env) fp) [(h'.objs.size, go)] σ' H' s1 → Kept s1 s' → Inv X pins σ H' s' := fun σ' H' s1 s' J1 k1 => by
    have J := Inv.keptS J1 k1
    exact I3.call' (ch := fp) J.os J.base J.hok J.bare fun b hb => ⟨(f3 b hb).1.2.2.2.1, (f3 b hb).1.2.1, (f3 b hb).1.2.2.2.2.1, (f3 b hb).1.2.2.2.2.2⟩
  refine ⟨_, s3.gens.size, rfl, isg _ hga, walk_loop (X := gcx X (X.A.in1.in1.over (.compLoop (.GeneratorExp elt [⟨tg, iter, ifs, 0⟩] scope gpos) 0 (.ref it) .none (genEnv scope (cloFrom X.env.cells scope.names []) s3.heap.objs.size cv builtinsNs X.env)) []) s3 H3 (genEnv scope (cloFrom X.env.cells scope.names []) s3.heap.objs.size cv builtinsNs X.env) fp) (pz := [(h'.objs.size, go)]) (σ0 := wipe σ (own.map (·.2))) (QT := fun H => Q (.bl d) H) (QF := fun H => Q (.bl (!d)) H) d (List.mem_singleton.mpr rfl) isg hr.hd hr.depth (fun H' s1 s' J1 q k1 => ⟨d, rfl, .bl d, H', back _ H' s1 s' J1 k1, rfl, q⟩) (fun σ' H' s1 s' J1 q k1 => ⟨!d, rfl, .bl (!d), H', back σ' H' s1 s' J1 k1, rfl, q⟩) (m0 + 1) s5 (isg _ hga) Ig2.nolimit ⟨_, hgs, rfl, ?_⟩⟩
  have k6 : Kept s5 (s5.setGen s3.gens.size .running) := ⟨rfl, allBare_setGen kp.bare rfl, fun _ _ e => e⟩
  have st5 : tn 0 (s5.setGen s3.gens.size .running).heap := T.keep _ _ _ st3 fun b hb o e => kp.keep b o e
  exact seg_start T st5 (seg_loop T hc rfl S.co hpz (hg _ _ _ _ _ _ rm) (ht _ _ _ _ _ _ rm) (he _ _ _ _ _ _ rm) turn m0 (m0 + 1) 0 _ _ H3 (Nat.lt_succ_self _) (Inv.keptS Ig2 k6) st5 nf w0)
theorem pe_allX {c P : Addr} {elt tg iter : Expr} {ifs : List Expr} {gpos p pos : Pos} {scope : Scope} {own : List (Str × Nat)} {wi : TI} {g : TG} {tt : TT} {te : TE} {k : Nat}
    (hr : Room (k + 1) X.A) (hgl : Gl X "all") (hm : X.mg "all" = none) (hc : X.calm = true) (hN : X.N.Nodup) (TB : GxR.TabB X.base X.mg c P) (hcode : X.env.code = .ref c) (ok : BlkOk X.N X.env.scope scope own) (S : GenK scope) (hi : PI X tg iter wi)
    (hg : ∀ (A : Around) (s : Shared) (H : Hp) (C : Addr) (code : Value) (fp : List Addr), Room k A → PG (gcx X A s H (genEnv scope (cloFrom X.env.cells scope.names []) C code builtinsNs X.env) fp) tg g)
    (ht : ∀ (A : Around) (s : Shared) (H : Hp) (C : Addr) (code : Value) (fp : List Addr), Room k A → PTs (gcx X A s H (genEnv scope (cloFrom X.env.cells scope.names []) C code builtinsNs X.env) fp) ifs tt)
    (he : ∀ (A : Around) (s : Shared) (H : Hp) (C : Addr) (code : Value) (fp : List Addr), Room k A → PE (gcx X A s H (genEnv scope (cloFrom X.env.cells scope.names []) C code builtinsNs X.env) fp) elt te)
    (hs : ∀ v, genFold iter X.env v = pure v := by intro _; rfl)
    (hst : starEach [.GeneratorExp elt [⟨tg, iter, ifs, 0⟩] scope gpos] X.env = (false, eval (.GeneratorExp elt [⟨tg, iter, ifs, 0⟩] scope gpos) X.env) :: starEach [] X.env := by rfl) :
    PE X (.Call (.Name "all" p) [.GeneratorExp elt [⟨tg, iter, ifs, 0⟩] scope gpos] [] pos) (tQX true wi g tt te (own.map (·.2)) P) := by
  refine ⟨fun pins s σ H Q I h => ?_⟩
  refine wpAny_Call_Name_kw (ld_blt I hgl hm boot_all (PyProof.Rows.callWith_builtin1 ?_ hst (by rfl)))
  rw [hst]
  show wpAny _ _ (spliced ((false, _) :: backTo pos (starEach [] X.env))) _ _ s
  refine Calls.spliced_cons (wpAny_mono (gen_core hr hc hN TB hcode ok S hi hs hg ht he I h) (fun v s5 hx => ?_) fun _ _ e => e)
  obtain ⟨a, gn, rfl, hgn, hcd⟩ := hx
  refine Calls.spliced_nil ?_
  refine call_function_tree F.kind_all F.plain_all F.entry_all (F.args_all1 _) ?_
  unfold Builtin.«all»
  refine wpAny_bind (m := oneArg "all" _) (wpAny_pure ?_)
  refine wpAny_bind (wpAny_pyIter_gen hgn ?_)
  exact wpAny_pure ⟨plainId_quiet F.plain_all_loop _, codeAny_mono hcd fun r s' hx => by obtain ⟨b, rfl, q⟩ := hx; exact q⟩
theorem pe_anyX {c P : Addr} {elt tg iter : Expr} {ifs : List Expr} {gpos p pos : Pos} {scope : Scope} {own : List (Str × Nat)} {wi : TI} {g : TG} {tt : TT} {te : TE} {k : Nat}
    (hr : Room (k + 1) X.A) (hgl : Gl X "any") (hm : X.mg "any" = none) (hc : X.calm = true) (hN : X.N.Nodup) (TB : GxR.TabB X.base X.mg c P) (hcode : X.env.code = .ref c) (ok : BlkOk X.N X.env.scope scope own) (S : GenK scope) (hi : PI X tg iter wi)
    (hg : ∀ (A : Around) (s : Shared) (H : Hp) (C : Addr) (code : Value) (fp : List Addr), Room k A → PG (gcx X A s H (genEnv scope (cloFrom X.env.cells scope.names []) C code builtinsNs X.env) fp) tg g)
    (ht : ∀ (A : Around) (s : Shared) (H : Hp) (C : Addr) (code : Value) (fp : List Addr), Room k A → PTs (gcx X A s H (genEnv scope (cloFrom X.env.cells scope.names []) C code builtinsNs X.env) fp) ifs tt)
    (he : ∀ (A : Around) (s : Shared) (H : Hp) (C : Addr) (code : Value) (fp : List Addr), Room k A → PE (gcx X A s H (genEnv scope (cloFrom X.env.cells scope.names []) C code builtinsNs X.env) fp) elt te)
    (hs : ∀ v, genFold iter X.env v = pure v := by intro _; rfl)
    (hst : starEach [.GeneratorExp elt [⟨tg, iter, ifs, 0⟩] scope gpos] X.env = (false, eval (.GeneratorExp elt [⟨tg, iter, ifs, 0⟩] scope gpos) X.env) :: starEach [] X.env := by rfl) :
    PE X (.Call (.Name "any" p) [.GeneratorExp elt [⟨tg, iter, ifs, 0⟩] scope gpos] [] pos) (tQX false wi g tt te (own.map (·.2)) P) := by
  refine ⟨fun pins s σ H Q I h => ?_⟩
  refine wpAny_Call_Name_kw (ld_blt I hgl hm boot_any (PyProof.Rows.callWith_builtin1 ?_ hst (by rfl)))
  rw [hst]
  show wpAny _ _ (spliced ((false, _) :: backTo pos (starEach [] X.env))) _ _ s
  refine Calls.spliced_cons (wpAny_mono (gen_core hr hc hN TB hcode ok S hi hs hg ht he I h) (fun v s5 hx => ?_) fun _ _ e => e)
  obtain ⟨a, gn, rfl, hgn, hcd⟩ := hx
  refine Calls.spliced_nil ?_
  refine call_function_tree F.kind_any F.plain_any F.entry_any (F.args_any1 _) ?_
  unfold Builtin.«any»
  refine wpAny_bind (m := oneArg "any" _) (wpAny_pure ?_)
  refine wpAny_bind (wpAny_pyIter_gen hgn ?_)
  exact wpAny_pure ⟨plainId_quiet F.plain_any_loop _, codeAny_mono hcd fun r s' hx => by obtain ⟨b, rfl, q⟩ := hx; exact q⟩
end
end Gx

set_option Elab.async false
set_option linter.all false
set_option maxRecDepth 100000
set_option maxHeartbeats 4000000
/-! the turns, by source -/
namespace Gx
open PySem PySem.Spec PyProof.Rows L2
theorem all_range {lo : Int} {n : Nat} {g : TG} {tt : TT} {te : TE} {vs : List Nat} {σ : L2.St} {d : Bool} {QT QF : Hp → Prop} {H2 : Hp} (Pv : Nat → Hp → Prop) (h0 : Pv 0 H2)
    (hs : ∀ i H, i < n → Pv i H → g (.int (lo + i)) (wipe σ vs) H fun σ2 H2 => wipe σ2 vs = wipe σ vs ∧ tt σ2 H2 fun b H3 => if b = true then te σ2 H3 fun y H4 => ∃ c, y = .bl c ∧ (if c = d then Pv (i + 1) H4 else QF H4) else Pv (i + 1) H3) (hd : ∀ H, Pv n H → QT H) :
    ∃ W : Nat → Nat → Hp → Prop, (∃ m, W 0 m H2) ∧ Turns (Itr lo n) g tt te vs σ d QT QF W := by
  refine ⟨fun i m H => m = n - i ∧ i ≤ n ∧ Pv i H, ⟨n, by simp, Nat.zero_le _, h0⟩, ?_⟩
  rintro i m H ⟨rfl, hi, p⟩
  by_cases hlt : i < n
  · refine .inr ⟨hlt, Pv (i + 1), fun H' p' => ⟨n - (i + 1), by omega, rfl, hlt, p'⟩, fun x H' y => ?_⟩
    obtain ⟨e, y⟩ := y
    subst e y
    exact hs i _ hlt p
  · have e : i = n := by omega
    subst e
    exact .inl ⟨Nat.le_refl _, hd H p⟩
theorem all_tup {K : PySem.W.Frag} {a : Addr} {xs : List V} {g : TG} {tt : TT} {te : TE} {vs : List Nat} {σ : L2.St} {d : Bool} {QT QF : Hp → Prop} {H2 : Hp} (Pv : Nat → Hp → Prop) (h0 : Pv 0 H2) (hl : ∀ i H, i ≤ xs.length → Pv i H → SqT K H a xs)
    (hs : ∀ i x H, xs[i]? = some x → Pv i H → g x (wipe σ vs) H fun σ2 H2 => wipe σ2 vs = wipe σ vs ∧ tt σ2 H2 fun b H3 => if b = true then te σ2 H3 fun y H4 => ∃ c, y = .bl c ∧ (if c = d then Pv (i + 1) H4 else QF H4) else Pv (i + 1) H3) (hd : ∀ H, Pv xs.length H → QT H) :
    ∃ W : Nat → Nat → Hp → Prop, (∃ m, W 0 m H2) ∧ Turns (Itt K a) g tt te vs σ d QT QF W := by
  refine ⟨fun i m H => m = xs.length - i ∧ i ≤ xs.length ∧ Pv i H, ⟨xs.length, by simp, Nat.zero_le _, h0⟩, ?_⟩
  rintro i m H ⟨rfl, hi, p⟩
  have q := hl i H hi p
  by_cases hlt : i < xs.length
  · refine .inr ⟨⟨xs, xs[i], q, by simp [hlt]⟩, Pv (i + 1), fun H' p' => ⟨xs.length - (i + 1), by omega, rfl, hlt, p'⟩, fun x H' y => ?_⟩
    obtain ⟨e, y⟩ := y
    subst e
    exact hs i x _ (y xs q) p
  · have e : i = xs.length := by omega
    subst e
    exact .inl ⟨⟨xs, q, Nat.le_refl _⟩, hd H p⟩
theorem all_list {K : PySem.W.Frag} {a : Addr} {xs : List V} {g : TG} {tt : TT} {te : TE} {vs : List Nat} {σ : L2.St} {d : Bool} {QT QF : Hp → Prop} {H2 : Hp} (Pv : Nat → Hp → Prop) (h0 : Pv 0 H2) (hl : ∀ i H, i ≤ xs.length → Pv i H → SqL K H a xs)
    (hs : ∀ i x H, xs[i]? = some x → Pv i H → g x (wipe σ vs) H fun σ2 H2 => wipe σ2 vs = wipe σ vs ∧ tt σ2 H2 fun b H3 => if b = true then te σ2 H3 fun y H4 => ∃ c, y = .bl c ∧ (if c = d then Pv (i + 1) H4 else QF H4) else Pv (i + 1) H3) (hd : ∀ H, Pv xs.length H → QT H) :
    ∃ W : Nat → Nat → Hp → Prop, (∃ m, W 0 m H2) ∧ Turns (Itl K a) g tt te vs σ d QT QF W := by
  refine ⟨fun i m H => m = xs.length - i ∧ i ≤ xs.length ∧ Pv i H, ⟨xs.length, by simp, Nat.zero_le _, h0⟩, ?_⟩
  rintro i m H ⟨rfl, hi, p⟩
  have q := hl i H hi p
  by_cases hlt : i < xs.length
  · refine .inr ⟨⟨xs, xs[i], q, by simp [hlt]⟩, Pv (i + 1), fun H' p' => ⟨xs.length - (i + 1), by omega, rfl, hlt, p'⟩, fun x H' y => ?_⟩
    obtain ⟨e, y⟩ := y
    subst e
    exact hs i x _ (y xs q) p
  · have e : i = xs.length := by omega
    subst e
    exact .inl ⟨⟨xs, q, by simp⟩, hd H p⟩
end Gx

set_option Elab.async false
set_option linter.all false
set_option maxRecDepth 100000
set_option maxHeartbeats 4000000
/-! tuple(..) of a generator expression: any source, any target, any element -/
namespace Gx
open PySem PySem.Spec PyProof.Rows L2 GenW
def TurnsC (J : It) (g : TG) (tt : TT) (te : TE) (vs : List Nat) (σ : L2.St) (Q : List V → Hp → Prop) (W : Nat → Nat → List V → Hp → Prop) : Prop := ∀ i m ys H, W i m ys H →
  (J.stop i H ∧ Q ys H) ∨ (J.go i H ∧ ys.length < sizeLine ∧ ∃ Nx : List V → Hp → Prop, (∀ ys' H', Nx ys' H' → ∃ m', m' < m ∧ W (i + 1) m' ys' H') ∧ ∀ x H', J.yld i H x H' → g x (wipe σ vs) H' fun σ2 H2 => wipe σ2 vs = wipe σ vs ∧ tt σ2 H2 fun b H3 =>
    if b = true then te σ2 H3 fun y H4 => Nx (ys ++ [y]) H4 else Nx ys H3)
section
variable {X : Cx} {A B : Around} {s3 : Shared} {H3 : Hp} {cenv : Env} {fp : List Addr} {σ : L2.St}
theorem seg_loopC {elt tg iter : Expr} {ifs : List Expr} {scope : Scope} {pos : Pos} {it a : Addr} {gn : Nat} {go : Obj} {J : It} {tn : Nat → Heap → Prop} {g : TG} {tt : TT} {te : TE} {vs : List Nat} {Q : List V → Hp → Prop} {W : Nat → Nat → List V → Hp → Prop} {S : Addr} {E : XK}
    (T : Turn X.prog X.w X.K tg J fp it tn) (hc : X.calm = true) (hov : B.over (.compLoop (.GeneratorExp elt [⟨tg, iter, ifs, 0⟩] scope pos) 0 (.ref it) .none cenv) [] = A) (hco : cenv.scope.isCoroutine = false) (haf : a ∉ fp) (hSf : S ∉ fp) (haS : a ≠ S) (hAp : Apart (gcx X A s3 H3 cenv fp) S)
    (hgo : ∀ h : Heap, h.get? a = some go → h.IsGen a gn)
    (pg : PG (gcx X A s3 H3 cenv fp) tg g) (pt : PTs (gcx X A s3 H3 cenv fp) ifs tt) (pe : PE (gcx X A s3 H3 cenv fp) elt te) (turn : TurnsC J g tt te vs σ Q W) :
    ∀ (m n i : Nat) (ys : List V) (s₀ s : Shared) (H : Hp), n + ys.length = sizeLine → GI (gcx X A s3 H3 cenv fp) S [(a, go)] ys (wipe σ vs) H s → tn i s.heap → (∀ b ∈ fp, H b = none) → W i m ys H →
      Seg (model X.prog X.w) B (REnd X.prog X.w X.stack H3 s3 fp S a gn Q E) (YItem s3 S a gn) n s₀
        (.compLoop (.GeneratorExp elt [⟨tg, iter, ifs, 0⟩] scope pos) 0 (.ref it) .none cenv)
        ((model X.prog X.w).den (.compLoop (.GeneratorExp elt [⟨tg, iter, ifs, 0⟩] scope pos) 0 (.ref it) .none cenv)) [] s := by
  have stat : ∀ {σ' : L2.St} {H' : Hp} {s' : Shared} {acc : Array Value} {c : Nat}, Inv (gcx X A s3 H3 cenv fp) ((S, lstObj acc c) :: [(a, go)]) σ' H' s' → (∀ b ∈ fp, H' b = none) → ∀ b ∈ fp, FpOk (gcx X A s3 H3 cenv fp) ((S, lstObj acc c) :: [(a, go)]) H' b := fun {σ' H' s' acc c} I' hn b hb =>
    ⟨hn b hb, (I'.ok.exf b hb).1, I'.ok.exfs b hb, .inl hb, fun x c e => (I'.ok.exf b hb).2 x c e, fun p hp z => by
      have hp : p ∈ (S, lstObj acc c) :: [(a, go)] := by simpa using hp
      rcases List.mem_cons.mp hp with q | q
      · rw [q] at z; exact hSf (by have z : S = b := z; rw [z]; exact hb)
      · rw [List.mem_singleton.mp q] at z; exact haf (by have z : a = b := z; rw [z]; exact hb)⟩
  intro m
  induction m using Nat.strongRecOn with
  | ind m ih =>
    intro n i ys s₀ s H hmn hG st nf w
    obtain ⟨acc, cc, rv, I⟩ := hG
    show Seg _ B _ _ _ s₀ _ ((compTurn (.GeneratorExp elt [⟨tg, iter, ifs, 0⟩] scope pos) 0 (.ref it) .none cenv).onRaise (leaving cenv)) [] s
    rw [compTurn_gen, Sem.onRaise_eq_wrap]
    refine seg_bind_wrap (wpAny_standAt ?_)
    rcases turn i m ys H w with ⟨stop, qq⟩ | ⟨go', hys, Nx, hNx, step⟩
    · refine seg_bind_wrap ?_
      rw [hov]
      refine wpAny_mono (T.done (gcx X A s3 H3 cenv fp) rfl rfl rfl hc i _ s _ H (fun _ _ => False) I (stat I nf) st stop) (fun r s6 hx => ?_) fun _ _ e => e.elim
      obtain ⟨rfl, I6⟩ := hx
      obtain ⟨z1, z2, z3, z4, _⟩ := I6.pin (S, lstObj acc cc) (List.mem_append_right _ List.mem_cons_self)
      exact seg_end (.ok .next) (.inl ⟨.inr rfl, H, ys, acc, cc, I6.os, I6.bare, I6.base, I6.hok, z2, z1, rv, by omega, qq⟩)
    · refine seg_bind_wrap ?_
      rw [hov]
      refine wpAny_mono (T.item (gcx X A s3 H3 cenv fp) rfl rfl rfl hc i _ s _ H (fun _ _ => False) I (stat I nf) st go') (fun r s6 hx => ?_) fun _ _ e => e.elim
      obtain ⟨u, rfl, h6⟩ := hx
      refine seg_bind_wrap ?_
      rw [hov]
      refine wpAny_mono h6 (fun _ s7 hx => ?_) fun _ _ e => e.elim
      obtain ⟨x, H7, I7, r7, y7, st7, n7⟩ := hx
      have I7' := I7.pinned (stat I7 n7) (T.obj _ _ st7)
      refine seg_bind_wrap ?_
      rw [hov]
      refine wpAny_mono (pg.run _ s7 _ H7 x u _ I7' r7 (step x H7 y7)) (fun _ s8 hx => ?_) fun _ _ e => e.elim
      obtain ⟨σ8, H8, I8, hw8, q8⟩ := hx
      refine seg_bind_wrap ?_
      rw [hov]
      refine wpAny_mono (pt.run _ s8 σ8 H8 _ I8 q8) (fun b s9 hx => ?_) fun _ _ e => e.elim
      obtain ⟨H9, I9, q9⟩ := hx
      have fin : ∀ {s' : Shared} {H' : Hp} {ys' : List V}, GI (gcx X A s3 H3 cenv fp) S ([(a, go)] ++ pinsAt fp s7.heap) ys' σ8 H' s' → GI (gcx X A s3 H3 cenv fp) S [(a, go)] ys' (wipe σ vs) H' s' ∧ tn (i + 1) s'.heap ∧ ∀ b ∈ fp, H' b = none := fun {s' H' ys'} hG' => by
        obtain ⟨acc', cc', rv', I'⟩ := hG'
        have I' : Inv (gcx X A s3 H3 cenv fp) (((S, lstObj acc' cc') :: [(a, go)]) ++ pinsAt fp s7.heap) σ8 H' s' := I'
        have pin' : ∀ b ∈ fp, ∀ o, s7.heap.get? b = some o → s'.heap.get? b = some o ∧ H' b = none := fun b hb o e =>
          let z := I'.pin (b, o) (List.mem_append_right _ (List.mem_append_right _ (mem_pinsAt hb e)))
          ⟨z.1, z.2.1⟩
        have hl : (wipe σ vs).length = σ8.length := by rw [← hw8, wipe_length]
        refine ⟨⟨acc', cc', rv', I'.unpinned.weak hl (fun j v e => ?_)⟩, T.keep _ _ _ st7 fun b hb o e => (pin' b hb o e).1, fun b hb => ?_⟩
        · rw [← hw8] at e
          exact (wipe_some e).1
        · obtain ⟨o, e, _⟩ := T.obj _ _ st7 b hb
          exact (pin' b hb o e).2
      cases b with
      | false =>
        simp only [Bool.false_eq_true, if_false] at q9 ⊢
        obtain ⟨m', hm, w'⟩ := hNx ys H9 q9
        obtain ⟨f1, f2, f3⟩ := fin (ys' := ys) ⟨acc, cc, rv, I9⟩
        exact seg_again rfl (ih m' hm n (i + 1) ys s₀ _ H9 hmn f1 f2 f3 w')
      | true =>
        simp only [if_true] at q9 ⊢
        have hy : ∀ v, yieldOut cenv v = yieldValue v := fun v => by simp only [yieldOut, hco, Bool.false_eq_true, if_false]
        simp only [hy]
        rw [Sem.bind_eq_wrap', Sem.bind_eq_wrap', Sem.wrap_wrap, Sem.wrap_wrap]
        refine seg_wrap ?_
        rw [hov]
        refine wpAny_mono (pe.run _ s9 σ8 H9 _ I9 q9) (fun z s10 hx => ?_) fun _ _ e => e.elim
        obtain ⟨yv, H10, I10, r10, nx⟩ := hx
        obtain ⟨n, rfl⟩ : ∃ n', n = n' + 1 := ⟨n - 1, by omega⟩
        have hasz : acc.size = ys.length := by
          have e1 := rv.length
          have e2 : acc.toList.length = acc.size := by simp
          omega
        have pS := I10.pin (S, lstObj acc cc) (List.mem_append_right _ List.mem_cons_self)
        have pA := I10.pin (a, go) (List.mem_append_right _ (List.mem_append_left _ (List.mem_cons_of_mem _ (List.mem_singleton.mpr rfl))))
        refine seg_at (seg_yield rfl rfl rfl ⟨I10.os, I10.bare, I10.nolimit, hgo _ pA.1, ⟨acc, cc, pS.1, by rw [hasz]; omega⟩, fun s'' hk => ?_⟩)
        obtain ⟨m', hm, w'⟩ := hNx (ys ++ [yv]) H10 nx
        have hG10 : GI (gcx X A s3 H3 cenv fp) S ([(a, go)] ++ pinsAt fp s7.heap) ys σ8 H10 s10 := ⟨acc, cc, rv, I10⟩
        have wk := hG10.woken (x := yv) (fun p hp => by simp at hp) (fun p hp z => by
          rcases List.mem_append.mp hp with q | q
          · rw [List.mem_singleton.mp q] at z; exact haS z
          · obtain ⟨hb, _⟩ := of_pinsAt q
            exact hSf (by rw [← z]; exact hb)) hAp r10 hk
        obtain ⟨f1, f2, f3⟩ := fin wk
        exact seg_again rfl (ih m' hm n (i + 1) (ys ++ [yv]) s'' s'' H10 (by rw [List.length_append, List.length_singleton]; omega) f1 f2 f3 w')
end
/-- tuple(g), g a generator that has not begun -/
theorem call_tuple_new {P : Program} {w : World} {outer : List Env} {H : Hp} {sc s : Shared} {ex : List Addr} {Q : List V → Hp → Prop} {A : Around} {k : Nat} {u : Value} {Q' : Value → Shared → Prop} {E : Value → Shared → Prop}
    (hr : Room (k + 1) A) (hfr : A.frames = some outer) (h : GMade P w k outer H sc ex Q (fun _ _ _ => False) u s)
    (hQ : ∀ (s' : Shared) (acc : Array Value) (H' : Hp) (ys : List V), Vals ys acc.toList → ys.length ≤ sizeLine → s'.os = sc.os → AllBare s'.gens → Un (frs outer) ex H H' sc.heap s'.heap → HOk P w H' s'.heap → Q ys H' → Q' (.ref s'.heap.objs.size) { s' with heap := s'.heap.push { cls := .type "tuple", data := .seq acc } }) :
    wpAny (model P w) A (call (.type "tuple") [u]) Q' E s := by
  obtain ⟨a, g, c, rfl, ha1, ha2, hg, hgs, hos, hb, hl, hkp, wake⟩ := h
  have hSa : s.heap.objs.size ≠ a := Nat.ne_of_gt ha2
  have hcl : cStatics < s.heap.objs.size := let ⟨_, hn, _⟩ := hl; hn.lt
  have hSc : s.heap.objs.size ≠ cStatics := Nat.ne_of_gt hcl
  refine callType_codes (Q₁ := fun obj s₁ => s₁.TypeIs obj "tuple" ∧ Q' obj s₁) F.called_tuple (F.typeCall_tuple_1 _) F.entry_object_init ?_ fun obj s₁ h₁ =>
    ⟨h₁.1, F.args_object_init_2 obj _, object_init_meets F.called_tuple.init.lookup F.called_tuple.made (by decide) P w A.in1 _ s₁ ⟨h₁.1, rfl, h₁.2⟩⟩
  refine codeAny_of_tree ?_
  show wpAny _ A.in1.in1 (do checkBuiltinCall "tuple.__new__" ⟨[.type "tuple", .ref a], []⟩; again (.builtin "tuple.__new__" ⟨[.type "tuple", .ref a], []⟩)) _ _ s
  refine wpAny_bind (wpAny_of_eq (F.newCall_tuple_1 _) (wpAny_pure ⟨plainId_quiet F.plain_tuple_new _, codeAny_builtin F.entry_tuple_new ?_⟩))
  rw [Around.under_plainId F.plain_tuple_new _]
  have hsub := sub_tuple_self
  have hinit := init_tuple_lookup
  have hmh := madeHere_tuple
  have hTI := hg.typeIs (s := s)
  have coll : ∀ {A2 : Around} {QC : List Value → Shared → Prop} {EC : Value → Shared → Prop}, A2.handled = none → A2.depth = A.depth → A2.units ≤ A.units + 8 → A2.frames = some outer →
      (∀ (s' : Shared) (acc : Array Value) (H' : Hp) (ys : List V), Vals ys acc.toList → ys.length ≤ sizeLine → s'.os = sc.os → AllBare s'.gens → Un (frs outer) ex H H' sc.heap s'.heap → HOk P w H' s'.heap → Q ys H' → QC acc.toList s') → wpAny (model P w) A2 (collect (.ref a)) QC EC s := fun {A2 QC EC} h1 h2 h3 h4 hq => by
    unfold collect
    refine wpAny_bind (wpAny_runValue (codeAny_builtin F.entry_proto_collect ?_))
    rw [Around.under_plainId F.plain_proto_collect _]
    show wpAny _ A2.in1 (newList [] >>= fun l => again (.builtin "list.__iadd__" ⟨[l, .ref a], []⟩)) _ _ s
    refine wpAny_bind (wpAny_newObj_type ?_)
    refine wpAny_pure ⟨plainId_quiet F.plain_list_iadd _, codeAny_builtin F.entry_list_iadd ?_⟩
    rw [Around.under_plainId F.plain_list_iadd _]
    show wpAny _ A2.in1 (Builtin.List.listExtendWith (.ref s.heap.objs.size) (.ref a) (.ref s.heap.objs.size)) _ _ _
    unfold Builtin.List.listExtendWith
    have up : ∀ (h : Heap) (f : Obj → Obj), (∀ b o, s.heap.get? b = some o → h.get? b = some o) → ∀ b o, s.heap.get? b = some o → (h.update s.heap.objs.size f).get? b = some o := fun h f q b o e =>
      (Heap.get?_update_other _ _ (Ne.symm (Nat.ne_of_lt (Heap.lt_size e)))).trans (q b o e)
    have k1 : ∀ b o, s.heap.get? b = some o → (s.heap.push { cls := .type "list", data := .seq ([] : List Value).toArray }).get? b = some o := fun b o e => Heap.get?_push_of_some _ e
    have gty : ∀ {h : Heap}, (∀ b o, s.heap.get? b = some o → h.get? b = some o) → h.IsGen a g := fun {h} q => hg.keeps q
    refine wpAny_bind (wpAny_typeOf (Heap.IsGen.typeIs (s := { s with heap := _ }) (gty k1)) ?_)
    have e1 : Builtin.List.listSameRef (.ref s.heap.objs.size) (.ref a) = false := by simp [Builtin.List.listSameRef, hSa]
    have e2 : (Value.type "generator" == Value.type "list") = false := by decide
    have e3 : (Value.type "generator" == Value.type "tuple") = false := by decide
    simp only [e1, e2, e3, Bool.or_false, Bool.false_eq_true, if_false]
    refine wpAny_bind (wpAny_pyIter_gen (s := { s with heap := _ }) (gty k1) ?_)
    refine wpAny_bind (wpAny_holding ?_)
    unfold Builtin.List.listLengthHint
    refine wpAny_bind (wpAny_specialOf (Heap.IsGen.typeIs (s := { s with heap := _ }) (gty k1)) F.gen_no_len ?_)
    show wpAny _ A2.in1 (specialOf (Value.ref a) (Str.ofString "__length_hint__") >>= _) _ _ _
    refine wpAny_bind (wpAny_specialOf (Heap.IsGen.typeIs (s := { s with heap := _ }) (gty k1)) F.gen_no_hint ?_)
    refine wpAny_pure ?_
    show wpAny _ A2.in1 (rule "list.extend.makes-room" >>= fun _ => Builtin.List.listTouch (.ref s.heap.objs.size) >>= fun _ =>
      again (.builtin "list.extend.loop" ⟨[.ref s.heap.objs.size, .ref a, .ref s.heap.objs.size], []⟩)) _ _ _
    refine wpAny_bind (wpAny_rule ?_)
    have hS₁ : (s.heap.push { cls := .type "list", data := .seq ([] : List Value).toArray }).get? s.heap.objs.size = some { cls := .type "list", data := .seq ([] : List Value).toArray } := Heap.get?_push_size _ rfl
    refine wpAny_bind ?_
    show wpAny _ A2.in1 (updateSeq s.heap.objs.size (·.push .none) >>= fun _ => updateSeq s.heap.objs.size (·.pop)) _ _ _
    refine wpAny_bind (wpAny_updateSeq hS₁ rfl ?_)
    have hS₂ := Heap.get?_update_self (Obj.mapSeq (·.push Value.none)) hS₁ rfl
    refine wpAny_updateSeq hS₂ rfl ?_
    have hS₃ := Heap.get?_update_self (Obj.mapSeq (·.pop)) hS₂ rfl
    have k4 := up _ (Obj.mapSeq (·.pop)) (up _ (Obj.mapSeq (·.push Value.none)) k1)
    refine wpAny_pure ⟨plainId_quiet F.plain_extend_loop _, ?_⟩
    refine drain (P := P) (w := w) (outer := outer) (H := H) (sc := sc) (ex := ex) (Q := Q) (EX := fun _ _ _ => False) (A := A2) (g := g) h1 (by have := hr.dp; omega) hSa hSc
      (fun s' acc c H' ys q1 q2 q3 q4 q5 q6 q7 q8 q9 => ?_) (fun e s' hc => by obtain ⟨_, _, _, _, _, _, _, _, _, _, _, _, hf⟩ := hc; exact hf.elim)
      sizeLine _ (gty k4) (hl.keeps k4) ⟨_, hgs, rfl, ?_⟩
    · show wpAny _ A2 (load s.heap.objs.size >>= _) _ _ s'
      refine wpAny_bind (wpAny_load q1 ?_)
      exact wpAny_pure (hq s' acc H' ys q2 q3 q4 q5 q6 q7 q9)
    · refine wake _ _ _ ⟨h1, ?_, ?_⟩ h4 (Nat.le_refl _) k4 ⟨_, hS₃⟩ hos (allBare_setGen (s := { s with heap := _ }) hb rfl)
      · have := hr.dp
        show A2.depth + 3 * k + 5 < _
        omega
      · have := hr.un
        show A2.units + 1 + 1 + 16 * k + 200 < _
        omega
  wp_walk using wpAny_typeOf hTI, coll (A2 := A.in1.in1) hr.hd rfl (by show A.units + 1 + 1 ≤ A.units + 8; omega) hfr
  intro s' acc H' ys q1 q2 q3 q4 q5 q6 q7
  show wpAny _ _ (Builtin.Tuple.tupleExact acc.toList.toArray >>= fun v => ret v) _ _ _
  unfold Builtin.Tuple.tupleExact
  have hz : acc.size ≤ sizeLine := by
    have e1 := q1.length
    have e2 : acc.toList.length = acc.size := by simp
    omega
  refine wpAny_bind (wpAny_newObj_type ?_ (by show acc.toList.toArray.size ≤ sizeLine; simp only [Array.toArray_toList]; exact hz))
  refine wpAny_pure ?_
  have e : acc.toList.toArray = acc := by simp
  rw [e]
  exact ⟨⟨_, Heap.get?_push_size _ rfl, rfl⟩, hQ s' acc H' ys q1 q2 q3 q4 q5 q6 q7⟩
end Gx

set_option Elab.async false
set_option linter.all false
set_option maxRecDepth 100000
set_option maxHeartbeats 4000000
namespace Gx
open PySem PySem.Spec PyProof.Rows L2 GenW
def tCX (wi : TI) (g : TG) (tt : TT) (te : TE) (vs : List Nat) (P : Addr) : TE := fun σ H Q => wi σ H fun J H1 => GxR.TabG H1 P ∧ ∀ H2, GxR.Tabbed P H1 H2 → ∃ W : Nat → Nat → List V → Hp → Prop, (∃ m, W 0 m [] H2) ∧
  TurnsC J g tt te vs σ (fun ys H => ∀ p, H p = none → Q (.ref p) (upd H p (.tup ys))) W
section
variable {X : Cx} {pins : List (Addr × Obj)} {σ : L2.St} {H : Hp} {s : Shared}
theorem gen_made {c P : Addr} {elt tg iter : Expr} {ifs : List Expr} {gpos : Pos} {scope : Scope} {own : List (Str × Nat)} {wi : TI} {g : TG} {tt : TT} {te : TE} {k : Nat} {QQ : List V → Hp → Prop}
    (hr : Room (k + 1) X.A) (hc : X.calm = true) (hN : X.N.Nodup) (TB : GxR.TabB X.base X.mg c P) (hcode : X.env.code = .ref c) (ok : BlkOk X.N X.env.scope scope own) (S : GenK scope) (hi : PI X tg iter wi) (hs : ∀ v, genFold iter X.env v = pure v)
    (hg : ∀ (A : Around) (s : Shared) (H : Hp) (C : Addr) (code : Value) (fp : List Addr), Room k A → PG (gcx X A s H (genEnv scope (cloFrom X.env.cells scope.names []) C code builtinsNs X.env) fp) tg g)
    (ht : ∀ (A : Around) (s : Shared) (H : Hp) (C : Addr) (code : Value) (fp : List Addr), Room k A → PTs (gcx X A s H (genEnv scope (cloFrom X.env.cells scope.names []) C code builtinsNs X.env) fp) ifs tt)
    (he : ∀ (A : Around) (s : Shared) (H : Hp) (C : Addr) (code : Value) (fp : List Addr), Room k A → PE (gcx X A s H (genEnv scope (cloFrom X.env.cells scope.names []) C code builtinsNs X.env) fp) elt te)
    (I : Inv X pins σ H s) (h : wi σ H fun J H1 => GxR.TabG H1 P ∧ ∀ H2, GxR.Tabbed P H1 H2 → ∃ W : Nat → Nat → List V → Hp → Prop, (∃ m, W 0 m [] H2) ∧ TurnsC J g tt te (own.map (·.2)) σ QQ W) :
    wpAny (model X.prog X.w) X.A (eval (.GeneratorExp elt [⟨tg, iter, ifs, 0⟩] scope gpos) X.env) (fun v s5 => ∃ (s3 : Shared) (H3 : Hp) (fp : List Addr), GMade X.prog X.w (k + 1) X.stack H3 s3 fp QQ (fun _ _ _ => False) v s5 ∧
      ∀ (H' : Hp) (s' : Shared), s'.os = s3.os → AllBare s'.gens → Un (frs X.stack) fp H3 H' s3.heap s'.heap → HOk X.prog X.w H' s'.heap → Inv X pins σ H' s') X.xe s := by
  have hfree : ∀ y ∈ scope.names, y.2 = .free → ∃ c, X.env.cells.lookup y.1 = some c := fun y hy e => by
    rcases ok.free y hy e with k | k
    · exact I.ok.has _ (.inl k)
    · exact I.ok.has _ (.inr k)
  refine wpAny_GeneratorExp_make S.co (closure_ok hfree) S.cell S.dot ok.kind hr.depth (wpAny_mono (hi.run pins s σ H _ I h) (fun xv s1 h1 => wpAny_mono h1 (fun itv s2 h2 => ?_) fun _ _ e => e) fun _ _ e => e) hs
  obtain ⟨it, fp, tn, J, H1, rfl, I2, T, st2, f2, ⟨ps, hP, htr⟩, hW⟩ := h2
  refine ⟨I2.nolimit, ?_⟩
  have tabS : s2.heap.get? P = some { cls := .none, data := .fields ps } := I2.hok P _ hP
  have hd : PySem.W.CodeHd s2.heap c P := TB.code.keeps fun b u e => I2.bk b u e
  have key : ∀ (REST : Value → Shared → Prop), (∀ (cv : Value) (h3 : Heap) (tk : Nat) (more : Array Value), Heap.ExtBut P s2.heap h3 → s2.heap.objs.size ≤ h3.objs.size → h3.get? P = some { cls := .none, data := .fields (ps ++ more) } → TriplesOk (ps ++ more).toList → REST cv { s2 with heap := h3, toks := tk }) →
      wpAny (model X.prog X.w) X.A (genexprCode X.env gpos (X.env.qual ++ "<genexpr>") scope) REST X.xe s2 := fun REST fin => by
    cases hf : codeAmong gpos ps.toList with
    | some cv =>
      have e : ps = ps ++ #[] := by simp
      exact wpAny_genexprCode_hit hcode (hd.code tabS htr) hf (fin cv _ s2.toks #[] (Heap.ExtBut.refl _ _) (Nat.le_refl _) (e ▸ tabS) (e ▸ htr))
    | none =>
      refine wpAny_genexprCodeX hcode (hd.code tabS htr) (hd.tab tabS) hf fun c' h3 tk ex ge lt ic _ ta _ => ?_
      obtain ⟨_, _, _, _, _, _, _, _, _, _, _, _, _, _, _, _, _, _, _, tr, _⟩ := ic
      exact fin _ h3 tk _ ex (Nat.le_trans ge (Nat.le_of_lt lt)) ta.2 tr
  refine key _ fun cv h3 tk more ex ge tab3 tr3 => ?_
  obtain ⟨bm, ob, b1, b2, b3, b4, b5, b6, b7, b8⟩ := TB.bm
  refine wpAny_builtinsFor (m := X.mg) (by rw [I2.ok.glob]; exact (I2.mod.glob.keeps I2.bk).extBut ex TB.gP) b1 b2 (ex _ _ b4 (I2.bk _ _ b5)) b6 b7 b8 ?_
  intro h' hn' hs'
  generalize hs3 : ({ s2 with heap := h3, toks := tk } : Shared) = s3 at hn' hs' ⊢
  have e3 : s3.heap = h3 := by rw [← hs3]
  have I3 : Inv X pins σ (upd H1 P (.tbl (ps ++ more))) s3 := by
    rw [← hs3]
    exact GxR.inv_tab (more := more) (h' := h3) (g' := s2.gens) (d' := s2.drawn) (t' := tk) I2 hP (fun b o n e => ex b o n e) tab3 I2.bare
  obtain ⟨W, ⟨m0, w0⟩, turn⟩ := hW _ ⟨⟨ps ++ more, upd_same, tr3⟩, fun b hb => upd_ne hb⟩
  have neP : ∀ b ∈ fp, b ≠ P := fun b hb z => by
    have := (f2 b hb).1
    rw [z, hP] at this
    cases this
  have f3 : ∀ b ∈ fp, FpOk X pins (upd H1 P (.tbl (ps ++ more))) b ∧ b < s3.heap.objs.size := fun b hb => by
    obtain ⟨o, e, _⟩ := T.obj _ _ st2 b hb
    refine ⟨⟨?_, (f2 b hb).2⟩, by rw [e3]; exact Nat.lt_of_lt_of_le (Heap.lt_size e) ge⟩
    rw [upd_ne (neP b hb)]
    exact (f2 b hb).1
  have st3 : tn 0 s3.heap := T.keep _ _ _ st2 fun b hb o e => by rw [e3]; exact ex b o (neP b hb) e
  generalize hH3 : upd H1 P (.tbl (ps ++ more)) = H3 at I3 w0 f3
  have nf : ∀ b ∈ fp, H3 b = none := fun b hb => (f3 b hb).1.1
  generalize hgo : ({ cls := .type "generator", data := .fields #[.int s3.gens.size 0, .str "<genexpr>" (s3.toks + 1), .str (X.env.qual ++ "<genexpr>") (s3.toks + 1 + 1)] } : Obj) = go
  have sz' : h'.objs.size = s3.heap.objs.size + 1 := by rw [hs'.1, Heap.size_push]
  generalize hs5 : ({ s3 with gens := s3.gens.push (.fresh (.compStart (.GeneratorExp elt [⟨tg, iter, ifs, 0⟩] scope gpos) 0 (.ref it) .none (genEnv scope (cloFrom X.env.cells scope.names []) s3.heap.objs.size cv builtinsNs X.env))), toks := s3.toks + 1 + 1 + 1, heap := h'.push go } : Shared) = s5
  have h5 : s5.heap = h'.push go := by rw [← hs5]
  have sz5 : s5.heap.objs.size = h'.objs.size + 1 := by rw [h5, Heap.size_push]
  have kp : Kept s3 s5 := by
    refine ⟨by rw [← hs5], by rw [← hs5]; exact AllBare.push I3.bare rfl, fun b o e => ?_⟩
    rw [h5]
    exact Heap.get?_push_of_some _ (hs'.extBut b o (Nat.ne_of_lt (Heap.lt_size e)) (Heap.get?_push_of_some _ e))
  have hga : s5.heap.get? h'.objs.size = some go := by rw [h5, ← hgo]; exact Heap.get?_push_size _ rfl
  have isg : ∀ h : Heap, h.get? h'.objs.size = some go → h.IsGen h'.objs.size s3.gens.size := fun h e => ⟨go, _, _, e, by rw [← hgo], by rw [← hgo], by rw [← hgo]⟩
  have hgs : s5.gens[s3.gens.size]? = some (.fresh (.compStart (.GeneratorExp elt [⟨tg, iter, ifs, 0⟩] scope gpos) 0 (.ref it) .none (genEnv scope (cloFrom X.env.cells scope.names []) s3.heap.objs.size cv builtinsNs X.env))) := by
    rw [← hs5]
    exact Array.getElem?_push_size ..
  have hns : s5.heap.Ns s3.heap.objs.size (fun y => if y = ".0" then some (.ref it) else none) := by rw [h5]; exact hn'.push _
  have nstk : ∀ b, s3.heap.objs.size ≤ b → b ∉ frs X.stack := fun b hb z => by
    rcases List.mem_cons.mp (I3.stkSub _ z) with z | z
    · exact absurd (Nat.lt_of_lt_of_le I3.lt (show s3.heap.objs.size ≤ X.env.locals by rw [← z]; exact hb)) (Nat.lt_irrefl _)
    · exact I3.nofs hb z
  have lt35 : s3.heap.objs.size < s5.heap.objs.size := by omega
  refine ⟨s3, H3, fp, ⟨h'.objs.size, s3.gens.size, _, rfl, (show s3.heap.objs.size ≤ h'.objs.size by omega), (show h'.objs.size < s5.heap.objs.size by omega), isg _ hga, hgs, kp.os, kp.bare, I3.nolimit.keeps kp.keep, kp.keep, fun A' Sx s6 hrA hfrA hSx hk6 hSo hos hba => ?_⟩, fun H' s' ho hb hu hok => I3.call' (ch := fp) ho hu hok hb fun b hb => ⟨(f3 b hb).1.2.2.2.1, (f3 b hb).1.2.1, (f3 b hb).1.2.2.2.2.1, (f3 b hb).1.2.2.2.2.2⟩⟩
  have k6 : Kept s3 s6 := ⟨hos, hba, fun b o e => hk6 b o (kp.keep b o e)⟩
  have rm : Room k (A'.over (.compLoop (.GeneratorExp elt [⟨tg, iter, ifs, 0⟩] scope gpos) 0 (.ref it) .none (genEnv scope (cloFrom X.env.cells scope.names []) s3.heap.objs.size cv builtinsNs X.env)) []) := by
    have h1 := hrA.dp
    have h2 := hrA.un
    refine ⟨hrA.hd, ?_, ?_⟩
    · show A'.depth + 0 + 1 + 3 * k + 5 < _
      omega
    · show A'.units + 0 + 3 + 16 * k + 200 < _
      omega
  have Ig := gen_start I3 ok S hN f3 rm.hd (over_gen hfrA) k6 (hns.keeps hk6)
  obtain ⟨cS, heS⟩ := hSo
  have Sx3 : s3.heap.objs.size ≤ Sx := Nat.le_trans (Nat.le_of_lt lt35) hSx
  have SxC : Sx ≠ s3.heap.objs.size := Nat.ne_of_gt (Nat.lt_of_lt_of_le lt35 hSx)
  have aS : h'.objs.size ≠ Sx := Nat.ne_of_lt (Nat.lt_of_lt_of_le (by omega) hSx)
  have hG : GI (gcx X (A'.over (.compLoop (.GeneratorExp elt [⟨tg, iter, ifs, 0⟩] scope gpos) 0 (.ref it) .none (genEnv scope (cloFrom X.env.cells scope.names []) s3.heap.objs.size cv builtinsNs X.env)) []) s3 H3 (genEnv scope (cloFrom X.env.cells scope.names []) s3.heap.objs.size cv builtinsNs X.env) fp) Sx [(h'.objs.size, go)] [] (wipe σ (own.map (·.2))) H3 s6 := by
    refine ⟨#[], cS, .nil, Ig.pins_of fun p hp => ?_⟩
    rcases List.mem_cons.mp hp with z | z
    · rw [z]
      exact ⟨heS, I3.hok.fresh Sx3, SxC, nstk _ Sx3, fun v q => by cases q⟩
    · rw [List.mem_singleton.mp z]
      exact ⟨hk6 _ _ hga, I3.hok.fresh (by omega), by show h'.objs.size ≠ s3.heap.objs.size; omega, nstk _ (by omega), fun v q => by rw [← hgo] at q; cases q⟩
  have st6 : tn 0 s6.heap := T.keep _ _ _ st3 fun b hb o e => k6.keep b o e
  have hAp : Apart (gcx X (A'.over (.compLoop (.GeneratorExp elt [⟨tg, iter, ifs, 0⟩] scope gpos) 0 (.ref it) .none (genEnv scope (cloFrom X.env.cells scope.names []) s3.heap.objs.size cv builtinsNs X.env)) []) s3 H3 (genEnv scope (cloFrom X.env.cells scope.names []) s3.heap.objs.size cv builtinsNs X.env) fp) Sx := by
    refine ⟨Sx3, SxC, fun x c e z => ?_⟩
    obtain ⟨v, q⟩ := Ig.cell x c e
    have hcl : X.env.cells.lookup x = some c := by
      have e : (cloFrom X.env.cells scope.names []).lookup x = some c := e
      rcases cloFrom_mem (PySem.mem_of_lookup e) with hm | ⟨h1, rfl⟩
      · cases hm
      · obtain ⟨c, hc⟩ := hfree _ h1 rfl
        rw [hc]
        rfl
    obtain ⟨v3, q3⟩ := I3.cell x c hcl
    exact absurd (Nat.lt_of_lt_of_le q3.lt (by rw [z]; exact Sx3)) (Nat.lt_irrefl _)
  refine seg_start T st6 (seg_loopC T hc rfl S.co (fun z => ?_) (fun z => ?_) aS hAp isg (hg _ _ _ _ _ _ rm) (ht _ _ _ _ _ _ rm) (he _ _ _ _ _ _ rm) turn m0 sizeLine 0 [] _ _ H3 (Nat.add_zero _) hG st6 nf w0)
  · have q : h'.objs.size < s3.heap.objs.size := (f3 _ z).2
    omega
  · exact absurd (Nat.lt_of_lt_of_le (f3 _ z).2 Sx3) (Nat.lt_irrefl _)
theorem pe_tupX {c P : Addr} {elt tg iter : Expr} {ifs : List Expr} {gpos p pos : Pos} {scope : Scope} {own : List (Str × Nat)} {wi : TI} {g : TG} {tt : TT} {te : TE} {k : Nat}
    (hr : Room (k + 2) X.A) (hgl : Gl X "tuple") (hm : X.mg "tuple" = none) (hc : X.calm = true) (hN : X.N.Nodup) (TB : GxR.TabB X.base X.mg c P) (hcode : X.env.code = .ref c) (ok : BlkOk X.N X.env.scope scope own) (S : GenK scope) (hi : PI X tg iter wi)
    (hg : ∀ (A : Around) (s : Shared) (H : Hp) (C : Addr) (code : Value) (fp : List Addr), Room k A → PG (gcx X A s H (genEnv scope (cloFrom X.env.cells scope.names []) C code builtinsNs X.env) fp) tg g)
    (ht : ∀ (A : Around) (s : Shared) (H : Hp) (C : Addr) (code : Value) (fp : List Addr), Room k A → PTs (gcx X A s H (genEnv scope (cloFrom X.env.cells scope.names []) C code builtinsNs X.env) fp) ifs tt)
    (he : ∀ (A : Around) (s : Shared) (H : Hp) (C : Addr) (code : Value) (fp : List Addr), Room k A → PE (gcx X A s H (genEnv scope (cloFrom X.env.cells scope.names []) C code builtinsNs X.env) fp) elt te)
    (hs : ∀ v, genFold iter X.env v = pure v := by intro _; rfl)
    (hst : starEach [.GeneratorExp elt [⟨tg, iter, ifs, 0⟩] scope gpos] X.env = (false, eval (.GeneratorExp elt [⟨tg, iter, ifs, 0⟩] scope gpos) X.env) :: starEach [] X.env := by rfl) :
    PE X (.Call (.Name "tuple" p) [.GeneratorExp elt [⟨tg, iter, ifs, 0⟩] scope gpos] [] pos) (tCX wi g tt te (own.map (·.2)) P) := by
  refine ⟨fun pins s σ H Q I h => ?_⟩
  refine wpAny_Call_Name_kw (ld_blt I hgl hm boot_tuple (PyProof.Rows.callWith_type1 ?_ hst (by rfl)))
  rw [hst]
  show wpAny _ _ (spliced ((false, _) :: backTo pos (starEach [] X.env))) _ _ s
  refine Calls.spliced_cons (wpAny_mono (gen_made (k := k) (hr.mono (by omega)) hc hN TB hcode ok S hi hs hg ht he I h) (fun v s5 hx => ?_) fun _ _ e => e)
  obtain ⟨s3, H3, fp, hG, back⟩ := hx
  refine Calls.spliced_nil (call_tuple_new hr I.ok.frames hG fun s' acc H' ys q1 q2 q3 q4 q5 q6 q7 => ?_)
  have J := back H' s' q3 q4 q5 q6
  refine ⟨.ref s'.heap.objs.size, _, J.laid (t' := s'.toks) (o := .tup ys) (fun b u e => Heap.get?_push_of_some _ e) (Nat.le_refl _) ⟨q2, acc.toList, q1, ?_⟩, rfl, q7 _ (J.hok.fresh (Nat.le_refl _))⟩
  have z := IsTup.new s'.heap acc
  simpa using z
end
/-! ### turns, by source -/
theorem tup_tup {K : PySem.W.Frag} {a : Addr} {xs : List V} {g : TG} {tt : TT} {te : TE} {vs : List Nat} {σ : L2.St} {Q : List V → Hp → Prop} {H2 : Hp} (hz : xs.length ≤ sizeLine) (Pv : Nat → List V → Hp → Prop) (h0 : Pv 0 [] H2) (hl : ∀ i ys H, i ≤ xs.length → Pv i ys H → SqT K H a xs) (hy : ∀ i ys H, Pv i ys H → ys.length ≤ i)
    (hs : ∀ i x ys H, xs[i]? = some x → Pv i ys H → g x (wipe σ vs) H fun σ2 H2 => wipe σ2 vs = wipe σ vs ∧ tt σ2 H2 fun b H3 => if b = true then te σ2 H3 fun y H4 => Pv (i + 1) (ys ++ [y]) H4 else Pv (i + 1) ys H3) (hd : ∀ ys H, Pv xs.length ys H → Q ys H) :
    ∃ W : Nat → Nat → List V → Hp → Prop, (∃ m, W 0 m [] H2) ∧ TurnsC (Itt K a) g tt te vs σ Q W := by
  refine ⟨fun i m ys H => m = xs.length - i ∧ i ≤ xs.length ∧ Pv i ys H, ⟨xs.length, by simp, Nat.zero_le _, h0⟩, ?_⟩
  rintro i m ys H ⟨rfl, hi, p⟩
  have q := hl i ys H hi p
  by_cases hlt : i < xs.length
  · refine .inr ⟨⟨xs, xs[i], q, by simp [hlt]⟩, Nat.lt_of_le_of_lt (hy i ys H p) (Nat.lt_of_lt_of_le hlt hz), Pv (i + 1), fun ys' H' p' => ⟨xs.length - (i + 1), by omega, rfl, hlt, p'⟩, fun x H' y => ?_⟩
    obtain ⟨e, y⟩ := y
    subst e
    exact hs i x ys _ (y xs q) p
  · have e : i = xs.length := by omega
    subst e
    exact .inl ⟨⟨xs, q, Nat.le_refl _⟩, hd ys H p⟩
end Gx

set_option Elab.async false
set_option linter.all false
set_option maxRecDepth 100000
set_option maxHeartbeats 4000000
/-! runs, by themselves -/
namespace Dt
open PySem PySem.Spec PyProof.Rows L2
abbrev Log := List (Int × List Int)
abbrev Res := Bool × List Int × Log
def stand (tb : List (List Int)) (tk : List Int) : List Int := List.zipWith atF tb tk
def leftOf (tb : List (List Int)) (tk : List Int) : List (List Int) := List.zipWith (fun ds k => ds.drop (k.toNat + 1)) tb tk
def firstB (fs : List Int) (wds : List WD) (ord : List Int) : Option Int := ord.find? fun n => brkAt fs wds n.toNat
def plc (wds : List WD) (k : Int) : List Int := (wds.getD k.toNat ([], [])).1
def lenAt (tb : List (List Int)) (p : Int) : Int := ((tb.getD p.toNat []).length : Int)
def canN (tb : List (List Int)) (tk ps : List Int) : Bool := ps.all fun p => decide (atF tk p + 1 < lenAt tb p)
def bumpA (tk ps : List Int) : List Int := ps.foldl (fun t p => bump t p.toNat) tk
def goR (wds : List WD) (tb : List (List Int)) (ord : List Int) : Nat → List Int → Log → Option Res
  | 0, _, _ => none
  | n + 1, tk, log => match firstB (stand tb tk) wds ord with
    | none => some (true, stand tb tk, log)
    | some k => if canN tb tk (plc wds k) = true then goR wds tb ord n (bumpA tk (plc wds k)) (log ++ [(k, huesA (stand tb tk) (plc wds k))]) else some (false, stand tb tk, log)
structure GoodT (many hues : Int) (tb : List (List Int)) : Prop where
  len : (tb.length : Int) = many
  one : ∀ ds ∈ tb, 1 ≤ ds.length
  few : ∀ ds ∈ tb, ds.length ≤ 1000
  hue : ∀ ds ∈ tb, ∀ h ∈ ds, 0 ≤ h ∧ h < hues
structure GoodK (tb : List (List Int)) (tk : List Int) : Prop where
  len : tk.length = tb.length
  at_ : ∀ p : Nat, p < tb.length → 0 ≤ tk.getD p 0 ∧ tk.getD p 0 < ((tb.getD p []).length : Int)
/-- an order of so many numbers -/
structure GoodO (n : Nat) (ord : List Int) : Prop where
  mem : ∀ z ∈ ord, 0 ≤ z ∧ z < (n : Int)
  all : ∀ k : Nat, k < n → (k : Int) ∈ ord
  len : ord.length ≤ n
def zerosI (n : Nat) : List Int := List.replicate n 0
def rem (tb : List (List Int)) (tk : List Int) : Nat := (List.zipWith (fun (ds : List Int) (k : Int) => ds.length - 1 - k.toNat) tb tk).sum
def runOf (wds : List WD) (tb : List (List Int)) (ord : List Int) : Option Res := goR wds tb ord (rem tb (zerosI tb.length) + 1) (zerosI tb.length) []
theorem getD_get {α : Type} {l : List α} {p : Nat} {d : α} (h : p < l.length) : l.getD p d = l[p] := by
  rw [List.getD_eq_getElem?_getD, List.getElem?_eq_getElem h]
  rfl
theorem getD_mem {α : Type} {l : List α} {p : Nat} {d : α} (h : p < l.length) : l.getD p d ∈ l := by
  rw [getD_get h]
  exact List.getElem_mem h
theorem bump_get (tk : List Int) (p i : Nat) : (bump tk p).getD i 0 = if i = p ∧ p < tk.length then tk.getD p 0 + 1 else tk.getD i 0 := by
  unfold bump
  rw [List.getD_eq_getElem?_getD, List.getElem?_set]
  by_cases h : p = i
  · subst h
    by_cases h2 : p < tk.length
    · rw [if_pos rfl, if_pos h2, if_pos ⟨rfl, h2⟩]
      rfl
    · rw [if_pos rfl, if_neg h2, if_neg (fun z => h2 z.2), List.getD_eq_getElem?_getD, List.getElem?_eq_none (by omega)]
  · rw [if_neg h, if_neg (fun z => h z.1.symm), List.getD_eq_getElem?_getD]
theorem zeros_get (n p : Nat) : (zerosI n).getD p 0 = 0 := by
  unfold zerosI
  rw [List.getD_eq_getElem?_getD, List.getElem?_replicate]
  split <;> rfl
theorem zeros_good {many hues : Int} {tb : List (List Int)} (g : GoodT many hues tb) : GoodK tb (zerosI tb.length) := by
  refine ⟨by simp [zerosI], fun p hp => ?_⟩
  rw [zeros_get]
  have := g.one _ (getD_mem (d := []) hp)
  omega
theorem stand_len {tb : List (List Int)} {tk : List Int} (g : GoodK tb tk) : (stand tb tk).length = tb.length := by
  unfold stand
  rw [List.length_zipWith, g.len, Nat.min_self]
theorem left_len {tb : List (List Int)} {tk : List Int} (g : GoodK tb tk) : (leftOf tb tk).length = tb.length := by
  unfold leftOf
  rw [List.length_zipWith, g.len, Nat.min_self]
theorem stand_get {tb : List (List Int)} {tk : List Int} (g : GoodK tb tk) {p : Nat} (hp : p < tb.length) : (stand tb tk)[p]? = some (atF (tb.getD p []) (tk.getD p 0)) := by
  have h2 : p < tk.length := by rw [g.len]; exact hp
  unfold stand
  rw [List.getElem?_zipWith, List.getElem?_eq_getElem hp, List.getElem?_eq_getElem h2, getD_get hp, getD_get h2]
theorem left_get {tb : List (List Int)} {tk : List Int} (g : GoodK tb tk) {p : Nat} (hp : p < tb.length) : (leftOf tb tk)[p]? = some ((tb.getD p []).drop ((tk.getD p 0).toNat + 1)) := by
  have h2 : p < tk.length := by rw [g.len]; exact hp
  unfold leftOf
  rw [List.getElem?_zipWith, List.getElem?_eq_getElem hp, List.getElem?_eq_getElem h2, getD_get hp, getD_get h2]
theorem stand_good {many hues : Int} {tb : List (List Int)} {tk : List Int} (gt : GoodT many hues tb) (g : GoodK tb tk) : GoodF many hues (stand tb tk) := by
  refine ⟨by rw [stand_len g]; exact gt.len, fun h hh => ?_⟩
  obtain ⟨p, hp, e⟩ := List.getElem_of_mem hh
  rw [stand_len g] at hp
  have e2 := stand_get g hp
  rw [List.getElem?_eq_getElem (by rw [stand_len g]; exact hp), e] at e2
  cases e2
  have a := g.at_ p hp
  have m : (tk.getD p 0).toNat < (tb.getD p []).length := by omega
  exact gt.hue _ (getD_mem hp) _ (getD_mem m)
theorem first_some {fs : List Int} {wds : List WD} {ord : List Int} {k : Int} (h : firstB fs wds ord = some k) : k ∈ ord ∧ brkAt fs wds k.toNat = true := ⟨List.mem_of_find?_eq_some h, by
  have z := List.find?_some (p := fun n : Int => brkAt fs wds n.toNat) (l := ord) (a := k) h
  exact z⟩
theorem wd_of {wds : List WD} {k : Int} (h0 : 0 ≤ k) (h1 : k < (wds.length : Int)) : ∃ wd, wds[k.toNat]? = some wd ∧ plc wds k = wd.1 := by
  have h : k.toNat < wds.length := by omega
  exact ⟨wds[k.toNat], List.getElem?_eq_getElem h, by rw [plc, getD_get h]⟩
/-! ### one more draw at a place -/
theorem rem_bump : ∀ {tb : List (List Int)} {tk : List Int} {p : Nat}, p < tb.length → p < tk.length → 0 ≤ tk.getD p 0 → tk.getD p 0 + 1 < ((tb.getD p []).length : Int) → rem tb (bump tk p) + 1 = rem tb tk
  | [], _, _, h, _, _, _ => absurd h (Nat.not_lt_zero _)
  | _ :: _, [], _, _, h, _, _ => absurd h (Nat.not_lt_zero _)
  | ds :: r, k :: q, 0, _, _, h0, h1 => by
    simp only [List.getD_cons_zero] at h0 h1
    unfold rem bump
    simp only [List.getD_cons_zero, List.set_cons_zero, List.zipWith_cons_cons, List.sum_cons]
    omega
  | ds :: r, k :: q, p + 1, hp, hq, h0, h1 => by
    simp only [List.getD_cons_succ] at h0 h1
    have ih := rem_bump (tb := r) (tk := q) (p := p) (Nat.lt_of_succ_lt_succ hp) (Nat.lt_of_succ_lt_succ hq) h0 h1
    unfold rem bump at ih ⊢
    simp only [List.getD_cons_succ, List.set_cons_succ, List.zipWith_cons_cons, List.sum_cons] at ih ⊢
    omega
theorem good_bump {tb : List (List Int)} {tk : List Int} {p : Nat} (g : GoodK tb tk) (hp : p < tb.length) (h : tk.getD p 0 + 1 < ((tb.getD p []).length : Int)) : GoodK tb (bump tk p) := by
  refine ⟨by rw [bump_len]; exact g.len, fun i hi => ?_⟩
  have a := g.at_ i hi
  rw [bump_get]
  by_cases e : i = p
  · subst e
    rw [if_pos ⟨rfl, by rw [g.len]; exact hp⟩]
    omega
  · rw [if_neg (fun z => e z.1)]
    exact a
theorem stand_bump {tb : List (List Int)} {tk : List Int} {p : Nat} {x : Int} {r : List Int} (g : GoodK tb tk) (hp : p < tb.length) (h : (leftOf tb tk)[p]? = some (x :: r)) : stand tb (bump tk p) = (stand tb tk).set p x ∧ leftOf tb (bump tk p) = (leftOf tb tk).set p r ∧ tk.getD p 0 + 1 < ((tb.getD p []).length : Int) := by
  rw [left_get g hp] at h
  have a := g.at_ p hp
  have e := Option.some.inj h
  have hl : (tk.getD p 0).toNat + 1 < (tb.getD p []).length := by
    have z := congrArg List.length e
    rw [List.length_drop, List.length_cons] at z
    omega
  have hc : tk.getD p 0 + 1 < ((tb.getD p []).length : Int) := by omega
  have g2 := good_bump g hp hc
  have en : (tk.getD p 0 + 1).toNat = (tk.getD p 0).toNat + 1 := by omega
  have ex : (tb.getD p []).getD ((tk.getD p 0).toNat + 1) 0 = x := by
    have z := congrArg (fun l : List Int => l[0]?) e
    simp only [List.getElem?_drop, List.getElem?_cons_zero, Nat.add_zero] at z
    rw [List.getD_eq_getElem?_getD, z]
    rfl
  have er : (tb.getD p []).drop ((tk.getD p 0).toNat + 1 + 1) = r := by
    have z := congrArg (fun l : List Int => l.drop 1) e
    simp only [List.drop_drop, List.drop_succ_cons, List.drop_zero] at z
    exact z
  refine ⟨?_, ?_, hc⟩
  · refine List.ext_getElem? fun i => ?_
    rw [List.getElem?_set]
    by_cases hi : i < tb.length
    · rw [stand_get g2 hi, bump_get]
      by_cases e2 : p = i
      · subst e2
        rw [if_pos ⟨rfl, by rw [g.len]; exact hp⟩, if_pos rfl, if_pos (by rw [stand_len g]; exact hp)]
        unfold atF
        rw [en, ex]
      · rw [if_neg (fun z => e2 z.1.symm), if_neg e2, stand_get g hi]
    · rw [List.getElem?_eq_none (by rw [stand_len g2]; omega), if_neg (by omega), List.getElem?_eq_none (by rw [stand_len g]; omega)]
  · refine List.ext_getElem? fun i => ?_
    rw [List.getElem?_set]
    by_cases hi : i < tb.length
    · rw [left_get g2 hi, bump_get]
      by_cases e2 : p = i
      · subst e2
        rw [if_pos ⟨rfl, by rw [g.len]; exact hp⟩, if_pos rfl, if_pos (by rw [left_len g]; exact hp), en, er]
      · rw [if_neg (fun z => e2 z.1.symm), if_neg e2, left_get g hi]
    · rw [List.getElem?_eq_none (by rw [left_len g2]; omega), if_neg (by omega), List.getElem?_eq_none (by rw [left_len g]; omega)]
/-! ### one more draw at some places -/
structure Can (tb : List (List Int)) (tk ps : List Int) : Prop where
  nd : ps.Nodup
  pl : ∀ p ∈ ps, 0 ≤ p ∧ p < (tb.length : Int)
  nx : ∀ p ∈ ps, atF tk p + 1 < lenAt tb p
theorem Can.tail {tb : List (List Int)} {tk ps : List Int} {p : Int} (c : Can tb tk (p :: ps)) : Can tb (bump tk p.toNat) ps := by
  refine ⟨(List.nodup_cons.mp c.nd).2, fun q hq => c.pl q (List.mem_cons_of_mem _ hq), fun q hq => ?_⟩
  have hp := c.pl p List.mem_cons_self
  have hq2 := c.pl q (List.mem_cons_of_mem _ hq)
  have hne : q ≠ p := fun z => (List.nodup_cons.mp c.nd).1 (z ▸ hq)
  have := c.nx q (List.mem_cons_of_mem _ hq)
  unfold atF at this ⊢
  rw [bump_get, if_neg (fun z => hne (by omega))]
  exact this
theorem bumpA_good : ∀ {ps : List Int} {tb : List (List Int)} {tk : List Int}, GoodK tb tk → Can tb tk ps → GoodK tb (bumpA tk ps) ∧ rem tb (bumpA tk ps) + ps.length = rem tb tk
  | [], _, _, g, _ => ⟨g, rfl⟩
  | p :: ps, tb, tk, g, c => by
    have hp := c.pl p List.mem_cons_self
    have hn := c.nx p List.mem_cons_self
    have hpn : p.toNat < tb.length := by omega
    have g2 := good_bump g hpn hn
    have a := g.at_ _ hpn
    have r := rem_bump (tb := tb) (tk := tk) hpn (by rw [g.len]; exact hpn) a.1 hn
    obtain ⟨i1, i2⟩ := bumpA_good (ps := ps) g2 c.tail
    refine ⟨i1, ?_⟩
    show rem tb (bumpA (bump tk p.toNat) ps) + (ps.length + 1) = rem tb tk
    omega
theorem can_of {many hues : Int} {wds : List WD} {tb : List (List Int)} {tk : List Int} {k : Int} {wd : WD} (gr : GoodR many hues wds) (nd : ∀ wd ∈ wds, wd.1.Nodup) (gt : GoodT many hues tb) (hw : wds[k.toNat]? = some wd) (he : plc wds k = wd.1) (h : canN tb tk (plc wds k) = true) : Can tb tk (plc wds k) := by
  have hm := List.mem_of_getElem? hw
  rw [he] at h ⊢
  refine ⟨nd wd hm, fun p hp => ?_, fun p hp => ?_⟩
  · have := (gr.each wd hm).pl p hp
    have := gt.len
    omega
  · exact of_decide_eq_true (List.all_eq_true.mp h p hp)
def LogOk (wds : List WD) (log : Log) : Prop := ∀ e ∈ log, 0 ≤ e.1 ∧ e.1 < (wds.length : Int) ∧ ∃ wd, wds[e.1.toNat]? = some wd ∧ e.2 ∈ wd.2
theorem LogOk.nil (wds : List WD) : LogOk wds [] := fun _ h => nomatch h
theorem LogOk.snoc {wds : List WD} {log : Log} {fs : List Int} {k : Int} {wd : WD} (h : LogOk wds log) (h0 : 0 ≤ k) (h1 : k < (wds.length : Int)) (hw : wds[k.toNat]? = some wd) (he : plc wds k = wd.1) (hb : brkAt fs wds k.toNat = true) : LogOk wds (log ++ [(k, huesA fs (plc wds k))]) := by
  intro e hm
  rcases List.mem_append.mp hm with z | z
  · exact h e z
  · rw [List.mem_singleton.mp z]
    refine ⟨h0, h1, wd, hw, ?_⟩
    rw [brkAt_of hw] at hb
    rw [he]
    exact of_decide_eq_true hb
theorem goR_total {many hues : Int} {wds : List WD} {tb : List (List Int)} {ord : List Int} (gr : GoodR many hues wds) (nd : ∀ wd ∈ wds, wd.1.Nodup) (gt : GoodT many hues tb) (go : GoodO wds.length ord) :
    ∀ (n : Nat) (tk : List Int) (log : Log), GoodK tb tk → LogOk wds log → rem tb tk < n → ∃ R, goR wds tb ord n tk log = some R ∧ GoodF many hues R.2.1 ∧ LogOk wds R.2.2 ∧ R.2.2.length ≤ log.length + rem tb tk
  | 0, _, _, _, _, h => absurd h (Nat.not_lt_zero _)
  | n + 1, tk, log, g, hl, h => by
    cases e : firstB (stand tb tk) wds ord with
    | none => exact ⟨(true, stand tb tk, log), by simp only [goR, e], stand_good gt g, hl, Nat.le_add_right _ _⟩
    | some k =>
      obtain ⟨hk, hb⟩ := first_some e
      obtain ⟨k0, k1⟩ := go.mem k hk
      obtain ⟨wd, hw, he⟩ := wd_of k0 k1
      cases c : canN tb tk (plc wds k) with
      | false => exact ⟨(false, stand tb tk, log), by simp only [goR, e, c]; rfl, stand_good gt g, hl, Nat.le_add_right _ _⟩
      | true =>
        have cn := can_of gr nd gt hw he c
        obtain ⟨g2, r2⟩ := bumpA_good g cn
        have one := (gr.each wd (List.mem_of_getElem? hw)).one
        rw [← he] at one
        obtain ⟨R, hR, a1, a2, a3⟩ := goR_total gr nd gt go n (bumpA tk (plc wds k)) (log ++ [(k, huesA (stand tb tk) (plc wds k))]) g2 (hl.snoc k0 k1 hw he hb) (by omega)
        refine ⟨R, by simp only [goR, e, c, if_true]; exact hR, a1, a2, ?_⟩
        rw [List.length_append, List.length_singleton] at a3
        omega
theorem rem_le : ∀ (tb : List (List Int)) (tk : List Int) (b : Nat), (∀ ds ∈ tb, ds.length ≤ b) → rem tb tk ≤ tb.length * b
  | [], _, _, _ => by simp [rem]
  | _ :: _, [], _, _ => by simp [rem]
  | ds :: r, k :: q, b, h => by
    have ih := rem_le r q b fun d hd => h d (List.mem_cons_of_mem _ hd)
    have a := h ds List.mem_cons_self
    unfold rem at ih ⊢
    rw [List.zipWith_cons_cons, List.sum_cons, List.length_cons, Nat.succ_mul]
    omega
theorem runOf_some {many hues : Int} {wds : List WD} {tb : List (List Int)} {ord : List Int} (gr : GoodR many hues wds) (nd : ∀ wd ∈ wds, wd.1.Nodup) (gt : GoodT many hues tb) (go : GoodO wds.length ord) :
    ∃ R, runOf wds tb ord = some R ∧ GoodF many hues R.2.1 ∧ LogOk wds R.2.2 ∧ R.2.2.length ≤ 6000 := by
  obtain ⟨R, h1, h2, h3, h4⟩ := goR_total gr nd gt go (rem tb (zerosI tb.length) + 1) (zerosI tb.length) [] (zeros_good gt) (LogOk.nil _) (Nat.lt_succ_self _)
  refine ⟨R, h1, h2, h3, ?_⟩
  have a := rem_le tb (zerosI tb.length) 1000 gt.few
  have b := gt.len
  have c := gr.m6
  rw [List.length_nil] at h4
  have : tb.length ≤ 6 := by omega
  omega
/-! ### the first broken one, as the law finds it -/
theorem broL_iff {fs : List Int} {wds : List WD} {n : Nat} {z : Int} : z ∈ broL fs wds n ↔ 0 ≤ z ∧ z < (n : Int) ∧ brkAt fs wds z.toNat = true := by
  unfold broL
  rw [List.mem_map]
  constructor
  · rintro ⟨k, hk, rfl⟩
    obtain ⟨h1, h2⟩ := List.mem_filter.mp hk
    have := List.mem_range.mp h1
    exact ⟨by omega, by omega, by rw [Int.toNat_natCast]; exact h2⟩
  · rintro ⟨h0, h1, h2⟩
    exact ⟨z.toNat, List.mem_filter.mpr ⟨List.mem_range.mpr (by omega), h2⟩, by omega⟩
theorem first_filter {fs : List Int} {wds : List WD} {ord : List Int} (go : GoodO wds.length ord) : (ord.filter fun z => decide (z ∈ broL fs wds wds.length)).head? = firstB fs wds ord := by
  unfold firstB
  rw [List.head?_filter]
  have e : ∀ l : List Int, (∀ z ∈ l, 0 ≤ z ∧ z < (wds.length : Int)) → l.find? (fun z => decide (z ∈ broL fs wds wds.length)) = l.find? (fun n => brkAt fs wds n.toNat) := by
    intro l
    induction l with
    | nil => intro _; rfl
    | cons a r ih =>
      intro h
      have ha := h a List.mem_cons_self
      have hq : decide (a ∈ broL fs wds wds.length) = brkAt fs wds a.toNat := by
        cases c : brkAt fs wds a.toNat with
        | true => exact decide_eq_true (broL_iff.mpr ⟨ha.1, ha.2, c⟩)
        | false => exact decide_eq_false fun z => by rw [(broL_iff.mp z).2.2] at c; cases c
      rw [List.find?_cons, List.find?_cons, hq, ih fun z hz => h z (List.mem_cons_of_mem _ hz)]
  exact e ord go.mem
theorem first_none {fs : List Int} {wds : List WD} {ord : List Int} (go : GoodO wds.length ord) : firstB fs wds ord = none ↔ broL fs wds wds.length = [] := by
  constructor
  · intro h
    rw [List.eq_nil_iff_forall_not_mem]
    intro z hz
    obtain ⟨h0, h1, h2⟩ := broL_iff.mp hz
    have hm := go.all z.toNat (by omega)
    have e : ((z.toNat : Nat) : Int) = z := by omega
    rw [e] at hm
    have := List.find?_eq_none.mp h z hm
    exact this h2
  · intro h
    refine List.find?_eq_none.mpr fun z hz c => ?_
    have hm := go.mem z hz
    have : z ∈ broL fs wds wds.length := broL_iff.mpr ⟨hm.1, hm.2, c⟩
    rw [h] at this
    cases this
end Dt

set_option Elab.async false
set_option linter.all false
set_option maxRecDepth 100000
set_option maxHeartbeats 4000000
/-! calls, frames, tables, logs: over no program -/
namespace Rd
open PySem PySem.Spec PyProof.Rows L2 Dt
theorem same_upd {H : Hp} {p : Addr} {o : HO} (h : H p = none) : Same H (upd H p o) := fun b x e => by
  rw [upd_ne (ne_of_none e h)]
  exact e
def Cal (P : Program) (w : World) (K : PySem.W.Frag) (mg : Str → Option Value) (base : Heap) (k : Nat) (x : Str) (ps : List Str) (sp : Sp) : Prop :=
  ∃ (f : Addr) (fd : FuncData), FnOk P w K mg base CX0 k f fd ps sp ∧ mg x = some (.ref f) ∧ PySem.W.keepIn K (.ref f) = true ∧ Binds K fd ps []
theorem pe_cal {X : Cx} {k : Nat} {x : Str} {ps : List Str} {sp : Sp} {p pos : Pos} {e : Expr} {es : List Expr} {t : TA} (C : Cal X.prog X.w X.K X.mg X.base k x ps sp) (hr : Room k X.A) (hg : Gl X x)
    (ha : PA X (e :: es) t) (hdb : (x == ("__debug__" : Str)) = false := by decide) (he : starEach (e :: es) X.env = (false, eval e X.env) :: starEach es X.env := by rfl) (hpl : (backTo pos (starEach es X.env)).any (·.1) = false := by rfl) :
    PE X (.Call (.Name x p) (e :: es) [] pos) (tCall sp [] E0 t) := by
  obtain ⟨f, fd, F, hm, hk, hb⟩ := C
  exact pe_call F hr hg hm hk hb .nil pass0 ha hdb he hpl
/-- a def whose code object is known -/
structure FunC (K : PySem.W.Frag) (x qual : Str) (st : Stmt) (f : Addr) (fd : FuncData) (cdv : Value) : Prop where
  ex : ∃ (oc : Value) (od : Option Addr) (kV doc pm : Value) (an : Option Addr) (ct : Value) (osl : Array (Option Value)),
    fd = PySem.W.fnOf x qual (defArgs st) (defBody st) (defScope st) .none kV doc pm an cdv ct ∧ K.lookup f = some ⟨oc, od, .func fd, osl⟩ ∧ PySem.W.codeIn K cdv qual = true
theorem FunC.ok {P : Program} {w : World} {K : PySem.W.Frag} {mg : Str → Option Value} {base : Heap} {x qual : Str} {st : Stmt} {f : Addr} {fd : FuncData} {cdv : Value} {N ps : List Str} {k : Nat} {sp : Sp} (F : FunC K x qual st f fd cdv) (S : FnScope N ps (defScope st)) (len : ∀ vs H Q E, sp vs H Q E → vs.length = ps.length)
    (body : ∀ (A : Around) (outer : List Env) (s : Shared) (H : Hp) (vs : List V) (Q : VK) (E : XK), Room k (A.deeper (envOfC qual (defScope st) s.heap.objs.size f cdv)) → sp vs H Q E →
      ∃ t, PSs (cxOf CX0 P w K mg base N qual (defScope st) f cdv A outer s H E).nox (defBody st) t ∧ t { nx := fun _ H' => Q .non H', rt := Q } (start N vs) H) : FnOk P w K mg base CX0 (k + 1) f fd ps sp := by
  obtain ⟨oc, od, kV, doc, pm, an, ct, osl, rfl, lk, hcd⟩ := F.ex
  refine fn_of lk hcd S len fun A outer s H vs Q E hr hsp => ?_
  obtain ⟨t, h, q⟩ := body A outer s H vs Q E hr hsp
  exact ⟨t, h.nox, q⟩
theorem units65 {A : Around} {k : Nat} (hr : Room k A) : A.units + 65 < cLine := by have := hr.un; omega
/-! ### frames but for some tables -/
def Tabs (Ps : List Addr) (H : Hp) : Prop := ∀ P ∈ Ps, GxR.TabG H P
def FrS (Ps : List Addr) (H H' : Hp) : Prop := (∀ b o, b ∉ Ps → H b = some o → H' b = some o) ∧ Tabs Ps H'
/-- tuples and lists stay -/
def Seqs (H H' : Hp) : Prop := Tups H H' ∧ ∀ b xs, H b = some (.lst xs) → H' b = some (.lst xs)
theorem Seqs.refl (H : Hp) : Seqs H H := ⟨Tups.refl H, fun _ _ e => e⟩
theorem Seqs.trans {H H1 H2 : Hp} (a : Seqs H H1) (b : Seqs H1 H2) : Seqs H H2 := ⟨a.1.trans b.1, fun c xs e => b.2 c xs (a.2 c xs e)⟩
theorem seqs_same {H H' : Hp} (s : Same H H') : Seqs H H' := ⟨tups_same s, fun b xs e => s b _ e⟩
theorem FrS.refl {Ps : List Addr} {H : Hp} (t : Tabs Ps H) : FrS Ps H H := ⟨fun _ _ _ e => e, t⟩
theorem FrS.trans {Ps : List Addr} {H H1 H2 : Hp} (a : FrS Ps H H1) (b : FrS Ps H1 H2) : FrS Ps H H2 := ⟨fun x o n e => b.1 x o n (a.1 x o n e), b.2⟩
theorem FrS.of {Ps : List Addr} {H H' : Hp} (t : Tabs Ps H) (s : Same H H') : FrS Ps H H' := ⟨fun b o _ e => s b o e, fun P hP => let ⟨ps, h, q⟩ := t P hP; ⟨ps, s _ _ h, q⟩⟩
theorem FrS.same {Ps : List Addr} {H H1 H2 : Hp} (a : FrS Ps H H1) (s : Same H1 H2) : FrS Ps H H2 := a.trans (FrS.of a.2 s)
theorem FrS.one {Ps : List Addr} {P : Addr} {H H' : Hp} (t : Tabs Ps H) (hP : P ∈ Ps) (f : GxR.Tabbed P H H') : FrS Ps H H' := by
  refine ⟨fun b o n e => ?_, fun Q hQ => ?_⟩
  · rw [f.2 b (fun z => n (by rw [z]; exact hP))]
    exact e
  · by_cases z : Q = P
    · rw [z]; exact f.1
    · obtain ⟨ps, h, q⟩ := t Q hQ
      exact ⟨ps, by rw [f.2 Q z]; exact h, q⟩
theorem Tabs.tup {Ps : List Addr} {H : Hp} (t : Tabs Ps H) {b : Addr} {xs : List V} (e : H b = some (.tup xs)) : b ∉ Ps := fun z => by
  obtain ⟨ps, h, _⟩ := t b z
  rw [e] at h
  cases h
theorem Tabs.lst {Ps : List Addr} {H : Hp} (t : Tabs Ps H) {b : Addr} {xs : List V} (e : H b = some (.lst xs)) : b ∉ Ps := fun z => by
  obtain ⟨ps, h, _⟩ := t b z
  rw [e] at h
  cases h
theorem FrS.seqs {Ps : List Addr} {H H' : Hp} (t : Tabs Ps H) (f : FrS Ps H H') : Seqs H H' := ⟨fun b xs e => f.1 b _ (t.tup e) e, fun b xs e => f.1 b _ (t.lst e) e⟩
theorem FrS.tups {Ps : List Addr} {H H' : Hp} (t : Tabs Ps H) (f : FrS Ps H H') : Tups H H' := (f.seqs t).1
theorem FrS.free {Ps : List Addr} {H H' : Hp} {b : Addr} (f : FrS Ps H H') (h : H' b = none) : H b = none := by
  cases e : H b with
  | none => rfl
  | some o =>
    by_cases z : b ∈ Ps
    · obtain ⟨ps, q, _⟩ := f.2 b z
      rw [q] at h
      cases h
    · rw [f.1 b o z e] at h
      cases h
/-- a store at a place that wasn't there at first -/
theorem FrS.put {Ps : List Addr} {H H1 : Hp} {b : Addr} {o : HO} (a : FrS Ps H H1) (n : H b = none) (nb : b ∉ Ps) : FrS Ps H (upd H1 b o) :=
  ⟨fun x u nx e => by rw [upd_ne (ne_of_none e n)]; exact a.1 x u nx e, fun P hP => by
    obtain ⟨ps, h, q⟩ := a.2 P hP
    exact ⟨ps, by rw [upd_ne (fun z : P = b => nb (by rw [← z]; exact hP))]; exact h, q⟩⟩
theorem Tabs.new {Ps : List Addr} {H : Hp} (t : Tabs Ps H) {b : Addr} (n : H b = none) : b ∉ Ps := fun z => by
  obtain ⟨ps, h, _⟩ := t b z
  rw [n] at h
  cases h
theorem Tabs.same {Ps : List Addr} {H H' : Hp} (t : Tabs Ps H) (s : Same H H') : Tabs Ps H' := (FrS.of t s).2
theorem Tabs.put {Ps : List Addr} {H : Hp} (t : Tabs Ps H) {b : Addr} {o : HO} (nb : b ∉ Ps) : Tabs Ps (upd H b o) := fun P hP => by
  obtain ⟨ps, h, q⟩ := t P hP
  exact ⟨ps, by rw [upd_ne (fun z : P = b => nb (by rw [← z]; exact hP))]; exact h, q⟩
theorem free_same {H H' : Hp} {b : Addr} (s : Same H H') (h : H' b = none) : H b = none := s.free h
theorem same_put {H H1 : Hp} {b : Addr} {o : HO} (s : Same H H1) (n : H b = none) : Same H (upd H1 b o) := fun x u e => by
  rw [upd_ne (ne_of_none e n)]
  exact s x u e
/-! ### numbers, lists -/
theorem cut_from {α : Type} (f : α → V) (l : List α) (k : Nat) : cutV (l.map f) (some (k : Int)) none = (l.drop k).map f := by
  unfold cutV
  rw [HT.sIx_nat, HT.sIx_none, List.length_map, ← List.map_drop]
  by_cases h : k ≤ l.length
  · rw [Nat.min_eq_left h, List.take_of_length_le (by rw [List.length_map, List.length_drop]; exact Nat.le_refl _)]
  · have h2 : l.drop k = [] := List.drop_eq_nil_of_le (by omega)
    rw [Nat.min_eq_right (by omega), Nat.sub_self, List.take_zero, h2]
    rfl
theorem cut_to {α : Type} (f : α → V) (l : List α) (k : Nat) : cutV (l.map f) none (some (k : Int)) = (l.take k).map f := by
  unfold cutV
  rw [HT.sIx_nat, HT.sIx_none, List.length_map, List.drop_zero, Nat.sub_zero, ← List.map_take]
  by_cases h : k ≤ l.length
  · rw [Nat.min_eq_left h]
  · rw [Nat.min_eq_right (by omega), List.take_of_length_le (Nat.le_refl _), List.take_of_length_le (by omega)]
theorem log_small {m : Int} (h0 : 0 ≤ m) (h : m < 4294967296) : m.natAbs.log2 < 9000 := by
  have e : m.natAbs < 2 ^ 32 := by omega
  by_cases z : m.natAbs = 0
  · rw [z]; decide
  · have := (Nat.log2_lt z).mpr e
    omega
def toI : V → Int
  | .int i => i
  | _ => 0
def rowAt (H : Hp) (t : Addr) : List Int := match H t with
  | some (.tup xs) => xs.map toI
  | _ => []
theorem rowAt_of {H : Hp} {t : Addr} {row : Dt.Row} (h : IsRow H t row) : rowAt H t = row := by
  unfold rowAt
  rw [show H t = some (.tup (row.map V.int)) from h]
  show (row.map V.int).map toI = row
  rw [List.map_map]
  have e : (toI ∘ V.int) = id := by funext z; rfl
  rw [e, List.map_id]
def rngI (m : Int) : List Int := (List.range m.toNat).map fun (i : Nat) => (i : Int)
theorem rngI_len (m : Int) : (rngI m).length = m.toNat := by
  unfold rngI
  rw [List.length_map, List.length_range]
theorem rngI_mem {m z : Int} (h : z ∈ rngI m) : 0 ≤ z ∧ z < m := by
  obtain ⟨i, hi, rfl⟩ := List.mem_map.mp h
  have := List.mem_range.mp hi
  omega
theorem rngI_all {m : Int} {k : Nat} (h : (k : Int) < m) : (k : Int) ∈ rngI m := List.mem_map.mpr ⟨k, List.mem_range.mpr (by omega), rfl⟩
theorem rngI_nodup (m : Int) : (rngI m).Nodup := by
  unfold rngI
  refine List.Pairwise.map _ (fun a b h z => h ?_) (List.nodup_range (n := m.toNat))
  omega
theorem rgV_eq (m : Int) : rgV 0 m = (rngI m).map V.int := by
  unfold rgV rngI
  rw [List.map_map]
  have e : (m - 0).toNat = m.toNat := by rw [Int.sub_zero]
  rw [e]
  refine List.map_congr_left fun i _ => ?_
  show V.int (0 + (i : Int)) = V.int (i : Int)
  rw [Int.zero_add]
theorem map_erase {α : Type} (f : α → V) (ls : List α) (k : Nat) : (ls.map f).eraseIdx k = (ls.eraseIdx k).map f := by
  induction ls generalizing k with
  | nil => rfl
  | cons a r ih => cases k with
    | zero => rfl
    | succ k => simp [ih]
theorem erase_perm {α : Type} : ∀ (l : List α) (k : Nat) (h : k < l.length), (l[k] :: l.eraseIdx k).Perm l
  | [], k, h => absurd h (Nat.not_lt_zero _)
  | a :: r, 0, _ => List.Perm.refl _
  | a :: r, k + 1, h => by
    have ih := erase_perm r k (Nat.lt_of_succ_lt_succ h)
    show ((r[k]'(Nat.lt_of_succ_lt_succ h)) :: a :: r.eraseIdx k).Perm (a :: r)
    exact (List.Perm.swap a _ _).trans (List.Perm.cons a ih)
theorem map_get {α : Type} {f : α → V} {l : List α} {i : Nat} {x : V} (h : (l.map f)[i]? = some x) : ∃ a, l[i]? = some a ∧ x = f a := by
  rw [List.getElem?_map] at h
  cases e : l[i]? with
  | none => rw [e] at h; cases h
  | some a => rw [e] at h; cases h; exact ⟨a, rfl, rfl⟩
theorem map_at {α : Type} {f : α → V} {l : List α} {i : Nat} {a : α} (h : l[i]? = some a) : (l.map f)[i]? = some (f a) := by
  rw [List.getElem?_map, h]
  rfl
theorem atI_of {α : Type} {f : α → V} {l : List α} {p : Int} {a : α} (h0 : 0 ≤ p) (h : l[p.toNat]? = some a) : atI (l.map f) p = some (f a) := by
  have e : p = ((p.toNat : Nat) : Int) := by omega
  have q := atI_nat (xs := l.map f) (j := p.toNat) (v := f a) (map_at h)
  rw [← e] at q
  exact q
theorem ixN_of {n : Nat} {p : Int} (h0 : 0 ≤ p) (h1 : p < n) : ixN n p = some p.toNat := by
  unfold ixN
  rw [if_pos h0, if_pos h1]
theorem take_snoc {α : Type} {l : List α} {i : Nat} {a : α} (h : l[i]? = some a) : l.take (i + 1) = l.take i ++ [a] := by
  rw [List.take_add_one, h]
  rfl
/-! ### the tape -/
def Tape (H : Hp) (tp : Addr) : Prop := ∃ b c : Int, H tp = some (.lst [.int b, .int c]) ∧ 0 ≤ b ∧ 0 ≤ c ∧ c ≤ 2147483647
def Taped (tp : Addr) (H H' : Hp) : Prop := (∀ b o, b ≠ tp → H b = some o → H' b = some o) ∧ Tape H' tp
theorem Tape.same {H H' : Hp} {tp : Addr} (h : Tape H tp) (s : Same H H') : Tape H' tp := let ⟨b, c, h1, r⟩ := h; ⟨b, c, s _ _ h1, r⟩
theorem Tape.seqs {H H' : Hp} {tp : Addr} (h : Tape H tp) (s : Seqs H H') : Tape H' tp := let ⟨b, c, h1, r⟩ := h; ⟨b, c, s.2 _ _ h1, r⟩
theorem Tape.new {H : Hp} {tp b : Addr} (h : Tape H tp) (n : H b = none) : b ≠ tp := fun z => by
  obtain ⟨_, _, h1, _⟩ := h
  rw [z, h1] at n
  cases n
theorem Tape.put {H : Hp} {tp b : Addr} {o : HO} (h : Tape H tp) (n : b ≠ tp) : Tape (upd H b o) tp := let ⟨x, c, h1, r⟩ := h; ⟨x, c, by rw [upd_ne n.symm]; exact h1, r⟩
theorem Taped.refl {H : Hp} {tp : Addr} (h : Tape H tp) : Taped tp H H := ⟨fun _ _ _ e => e, h⟩
theorem Taped.trans {H H1 H2 : Hp} {tp : Addr} (a : Taped tp H H1) (b : Taped tp H1 H2) : Taped tp H H2 := ⟨fun x o n e => b.1 x o n (a.1 x o n e), b.2⟩
theorem Taped.same {H H1 H2 : Hp} {tp : Addr} (a : Taped tp H H1) (s : Same H1 H2) : Taped tp H H2 := ⟨fun x o n e => s _ _ (a.1 x o n e), a.2.same s⟩
theorem Taped.put {H H1 : Hp} {tp b : Addr} {o : HO} (a : Taped tp H H1) (n : H b = none) (nb : b ≠ tp) : Taped tp H (upd H1 b o) :=
  ⟨fun x u nx e => by rw [upd_ne (ne_of_none e n)]; exact a.1 x u nx e, a.2.put nb⟩
theorem Taped.tups {H H' : Hp} {tp : Addr} (t : Tape H tp) (a : Taped tp H H') : Tups H H' := fun b xs e => by
  obtain ⟨_, _, h1, _⟩ := t
  exact a.1 b _ (fun z => by rw [z, h1] at e; cases e) e
theorem Taped.free {H H' : Hp} {tp b : Addr} (a : Taped tp H H') (n : H' b = none) : H b = none := by
  cases e : H b with
  | none => rfl
  | some o =>
    have m := a.2.new n
    rw [a.1 b o m e] at n
    cases n
theorem Taped.tabs {Ps : List Addr} {H H' : Hp} {tp : Addr} (t : Tape H tp) (a : Taped tp H H') (tt : Tabs Ps H) : Tabs Ps H' := fun P hP => by
  obtain ⟨ps, h, q⟩ := tt P hP
  obtain ⟨_, _, h1, _⟩ := t
  exact ⟨ps, a.1 P _ (fun z => by rw [z, h1] at h; cases h) h, q⟩
/-- len of a list or a tuple -/
def rLen (K : PySem.W.Frag) : List V → Hp → VK → Prop := fun xs H Q => ∃ p ys, xs = [.ref p] ∧ (SqL K H p ys ∨ SqT K H p ys) ∧ Q (.int (ys.length : Nat)) H
/-! ### pairs of ints, written -/
def pairsT : List (Int × Int) → TA
  | [] => tNil
  | p :: r => tCons (tTup (tCons (tC (.int p.1)) (tCons (tC (.int p.2)) tNil))) (pairsT r)
def IsPr (H : Hp) (t : Addr) (p : Int × Int) : Prop := H t = some (.tup [.int p.1, .int p.2])
theorem pairs_read {σ : L2.St} : ∀ (prs : List (Int × Int)) (H : Hp) (k : List V → Hp → Prop), (∀ ts H', Same H H' → Paired (IsPr H') ts prs → k (ts.map V.ref) H') → pairsT prs σ H k
  | [], H, k, h => h [] H (fun _ _ e => e) .nil
  | p :: r, H, k, h => by
    refine ⟨(by show 2 ≤ sizeLine; decide), fun t nt => ?_⟩
    refine pairs_read r _ _ fun ts H' sm pr => ?_
    exact h (t :: ts) H' ((same_upd nt).trans sm) (.cons (sm _ _ upd_same) pr)
theorem pairs_list {σ : L2.St} {prs : List (Int × Int)} {H : Hp} {Q : VK} (hl : prs.length ≤ 1000) (h : ∀ l ts H', Same H H' → H l = none → H' l = some (.lst (ts.map V.ref)) → Paired (IsPr H') ts prs → Q (.ref l) H') : tLst (pairsT prs) σ H Q := by
  refine pairs_read prs H _ fun ts H' sm pr => ?_
  refine ⟨by rw [List.length_map, pairedLen pr]; exact Nat.le_of_lt (small1000 hl), fun l nl => ?_⟩
  have sl := same_upd (o := .lst (ts.map V.ref)) nl
  exact h l ts _ (sm.trans sl) (sm.free nl) upd_same (pairedMap (fun _ _ e => sl _ _ e) pr)
theorem pairs_asg {i : Nat} {prs : List (Int × Int)} {D : Ends} {σ : L2.St} {H : Hp} (hl : prs.length ≤ 1000) (h : ∀ l ts H', Same H H' → H l = none → H' l = some (.lst (ts.map V.ref)) → Paired (IsPr H') ts prs → D.nx (σ.set i (some (.ref l))) H') : tAsg (tLst (pairsT prs)) (gName i) D σ H := by
  unfold tAsg
  exact pairs_list hl fun l ts H' a b c d => h l ts H' a b c d
theorem pairs_set {i : Nat} {prs : List (Int × Int)} {u : TS} {D : Ends} {σ : L2.St} {H : Hp} (hl : prs.length ≤ 1000) (h : ∀ l ts H', Same H H' → H l = none → H' l = some (.lst (ts.map V.ref)) → Paired (IsPr H') ts prs → u D (σ.set i (some (.ref l))) H') : tSeq (tAsg (tLst (pairsT prs)) (gName i)) u D σ H := pairs_asg hl h
/-! ### things popped at drawn places -/
structure Pops {α : Type} (f : α → V) (tp : Addr) (H : Hp) (l D : Addr) (zs0 : List α) (i : Nat) (H5 : Hp) (acc ls : List α) : Prop where
  fr : Taped tp H H5
  hL : H5 l = some (.lst (ls.map f))
  hD : H5 D = some (.lst (acc.map f))
  la : acc.length = i
  ll : ls.length + i = zs0.length
  pm : (acc ++ ls).Perm zs0
theorem pop_step {α : Type} {f : α → V} {tp : Addr} {H : Hp} {l D : Addr} {zs0 : List α} {i : Nat} {H5 H6 : Hp} {acc ls : List α} {d : Int} (nl : H l = none) (nlt : l ≠ tp) (nD : H D = none) (nDt : D ≠ tp) (nlD : l ≠ D) (hz : zs0.length ≤ 999) (p : Pops f tp H l D zs0 i H5 acc ls) (D6 : Taped tp H5 H6) (d0 : 0 ≤ d) (d1 : d < (ls.length : Int)) :
    ∃ y, (ls.map f)[d.toNat]? = some y ∧ H6 l = some (.lst (ls.map f)) ∧ seqIndex? d (ls.map f).length = some d.toNat ∧ ∃ acc', upd H6 l (.lst ((ls.map f).eraseIdx d.toNat)) D = some (.lst acc') ∧ acc'.length < sizeLine ∧ ∃ acc2 ls2, Pops f tp H l D zs0 (i + 1) (upd (upd H6 l (.lst ((ls.map f).eraseIdx d.toNat))) D (.lst (acc' ++ [y]))) acc2 ls2 := by
  have hd : d.toNat < ls.length := by omega
  have hL6 := D6.1 l _ nlt p.hL
  have hD6 := D6.1 D _ nDt p.hD
  have la := p.la
  have ll := p.ll
  refine ⟨f ls[d.toNat], map_at (List.getElem?_eq_getElem hd), hL6, seqIndex_of d0 (by rw [List.length_map]; exact d1), acc.map f, ?_, ?_, acc ++ [ls[d.toNat]], ls.eraseIdx d.toNat, ?_, ?_, ?_, ?_, ?_, ?_⟩
  · rw [upd_ne (Ne.symm nlD)]
    exact hD6
  · rw [List.length_map]
    exact small1000 (by omega)
  · exact ((p.fr.trans D6).put nl nlt).put nD nDt
  · rw [upd_ne nlD, upd_same, map_erase]
  · rw [upd_same, List.map_append]
    rfl
  · rw [List.length_append, la]
    rfl
  · rw [List.length_eraseIdx_of_lt hd]
    omega
  · refine List.Perm.trans ?_ p.pm
    rw [List.append_assoc]
    exact List.Perm.append_left acc (erase_perm ls _ hd)
/-! ### lists of rows -/
def IsFills (H : Hp) (l : Addr) (fss : List (List Int)) : Prop := ∃ as : List Addr, H l = some (.lst (as.map V.ref)) ∧ Paired (IsRow H) as fss
theorem pairedSnoc {α β : Type} {F : α → β → Prop} {a : α} {b : β} : ∀ {l : List α} {m : List β}, Paired F l m → F a b → Paired F (l ++ [a]) (m ++ [b])
  | _, _, .nil, h => .cons h .nil
  | _, _, .cons h t, k => .cons h (pairedSnoc t k)
theorem pairedApp {α β : Type} {F : α → β → Prop} {l2 : List α} {m2 : List β} : ∀ {l : List α} {m : List β}, Paired F l m → Paired F l2 m2 → Paired F (l ++ l2) (m ++ m2)
  | _, _, .nil, h => h
  | _, _, .cons h t, k => .cons h (pairedApp t k)
theorem yes_if {σ : L2.St} {H : Hp} {A B : Hp → Prop} (h : A H) : tYes σ H (fun b H3 => if b = true then A H3 else B H3) := by
  dsimp only [tYes]
  rw [if_pos rfl]
  exact h
theorem longer_at {hues j : Nat} (f : List Int) (h : j < hues) : (longer hues f)[j]? = some (f ++ [(j : Int)]) := by
  unfold longer
  rw [List.getElem?_map, List.getElem?_range h]
  rfl
theorem pairedZip {α β : Type} {F : α → β → Prop} : ∀ {l : List α} {m : List β}, Paired F l m → ∃ zs : List (α × β), zs.map (·.1) = l ∧ zs.map (·.2) = m ∧ ∀ z ∈ zs, F z.1 z.2
  | _, _, .nil => ⟨[], rfl, rfl, fun _ h => nomatch h⟩
  | a :: _, b :: _, .cons h t => by
    obtain ⟨zs, h1, h2, h3⟩ := pairedZip t
    refine ⟨(a, b) :: zs, by rw [List.map_cons, h1], by rw [List.map_cons, h2], fun z hz => ?_⟩
    rcases List.mem_cons.mp hz with e | e
    · rw [e]; exact h
    · exact h3 z e
theorem pairedOf {α β : Type} {F : α → β → Prop} {g : α → β} : ∀ {l : List α}, (∀ a ∈ l, F a (g a)) → Paired F l (l.map g)
  | [], _ => .nil
  | a :: r, h => .cons (h a List.mem_cons_self) (pairedOf fun b hb => h b (List.mem_cons_of_mem _ hb))
theorem longer_nodup (hues : Nat) (f : List Int) : (longer hues f).Nodup := by
  unfold longer
  refine List.Pairwise.map _ (fun a b h z => h ?_) (List.nodup_range (n := hues))
  have := List.append_cancel_left z
  simp only [List.cons.injEq, and_true] at this
  omega
theorem flat_nodup {hues : Nat} : ∀ {l : List (List Int)}, l.Nodup → (l.flatMap (longer hues)).Nodup
  | [], _ => by simp
  | f :: r, h => by
    rw [List.flatMap_cons]
    have hh := List.nodup_cons.mp h
    refine List.nodup_append.mpr ⟨longer_nodup hues f, flat_nodup hh.2, fun a ha b hb e => ?_⟩
    obtain ⟨i, _, rfl⟩ := List.mem_map.mp ha
    obtain ⟨g, hg, hb2⟩ := List.mem_flatMap.mp hb
    obtain ⟨j, _, rfl⟩ := List.mem_map.mp hb2
    have e2 : f = g := by
      have := congrArg List.dropLast e
      simpa using this
    exact hh.1 (e2 ▸ hg)
theorem fill_nodup (hues : Nat) : ∀ n : Nat, (fillL hues n).Nodup
  | 0 => by simp [fillL]
  | n + 1 => flat_nodup (fill_nodup hues n)
/-- places rising, no row twice -/
structure Neat (wd : WD) : Prop where
  pl : wd.1.Pairwise (· < ·)
  rows : wd.2.Nodup
theorem Neat.nd {wd : WD} (h : Neat wd) : wd.1.Nodup := h.pl.imp fun z e => by omega
theorem rise_of {ps : List Int} (h : ps.Pairwise (· ≤ ·)) (n : ps.Nodup) : ps.Pairwise (· < ·) := by
  have z := List.Pairwise.and h n
  exact z.imp fun ⟨a, b⟩ => by omega
/-! ### tables of draws -/
abbrev IsInts (H : Hp) (a : Addr) (ns : List Int) : Prop := H a = some (.lst (ns.map V.int))
/-- a list of lists of ints, none of them in Av -/
def IsTab (Av : Addr → Prop) (H : Hp) (ta : Addr) (tb : List (List Int)) : Prop := ∃ das : List Addr, H ta = some (.lst (das.map V.ref)) ∧ ¬ Av ta ∧ (∀ d ∈ das, ¬ Av d) ∧ Paired (IsInts H) das tb
theorem IsTab.mono {Av : Addr → Prop} {H H' : Hp} {ta : Addr} {tb : List (List Int)} (h : IsTab Av H ta tb) (k : ∀ b xs, ¬ Av b → H b = some (.lst xs) → H' b = some (.lst xs)) : IsTab Av H' ta tb := by
  obtain ⟨das, h1, h2, h3, h4⟩ := h
  refine ⟨das, k _ _ h2 h1, h2, h3, ?_⟩
  clear h1
  induction h4 with
  | nil => exact .nil
  | @cons a b l m e t ih => exact .cons (k _ _ (h3 a List.mem_cons_self) e) (ih fun d hd => h3 d (List.mem_cons_of_mem _ hd))
theorem IsTab.seqs {Av : Addr → Prop} {H H' : Hp} {ta : Addr} {tb : List (List Int)} (h : IsTab Av H ta tb) (s : Seqs H H') : IsTab Av H' ta tb := h.mono fun b xs _ e => s.2 b xs e
theorem IsTab.weak {Av Bv : Addr → Prop} {H : Hp} {ta : Addr} {tb : List (List Int)} (h : IsTab Av H ta tb) (k : ∀ b, Bv b → Av b) : IsTab Bv H ta tb := let ⟨das, h1, h2, h3, h4⟩ := h; ⟨das, h1, fun z => h2 (k _ z), fun d hd z => h3 d hd (k _ z), h4⟩
theorem IsTab.none {Av : Addr → Prop} {H : Hp} {ta : Addr} {tb : List (List Int)} (h : IsTab Av H ta tb) : IsTab (fun _ => False) H ta tb := h.weak fun _ z => z.elim
abbrev Old (H : Hp) : Addr → Prop := fun b => H b ≠ none
theorem IsTab.taped {tp : Addr} {H H' : Hp} {ta : Addr} {tb : List (List Int)} (h : IsTab (· = tp) H ta tb) (f : Taped tp H H') : IsTab (· = tp) H' ta tb := h.mono fun b xs n e => f.1 b _ n e
theorem Tape.old {H : Hp} {tp : Addr} (h : Tape H tp) : ∀ b, b = tp → Old H b := fun b e z => by
  obtain ⟨_, _, h1, _⟩ := h
  rw [e, h1] at z
  cases z
theorem dpTabs {K : PySem.W.Frag} {H : Hp} : ∀ {das : List Addr} {tb : List (List Int)}, Paired (IsInts H) das tb → DpAll K H (das.map V.ref) (tb.map fun l => .list (l.map .int))
  | _, _, .nil => .nil
  | _, _, .cons h t => .cons (.lst (.inl (.inl h)) (dpInts _)) (dpTabs t)
theorem dpTab {K : PySem.W.Frag} {Av : Addr → Prop} {H : Hp} {ta : Addr} {tb : List (List Int)} (h : IsTab Av H ta tb) : Dp K H (.ref ta) (listsD tb) := by
  obtain ⟨das, h1, _, _, h4⟩ := h
  exact .lst (.inl (.inl h1)) (dpTabs h4)
/-! ### logs and what a run tells -/
def IsEnt (H : Hp) (e : Addr) (x : Int × List Int) : Prop := ∃ r, H e = some (.tup [.int x.1, .ref r]) ∧ IsRow H r x.2
def IsLog (H : Hp) (la : Addr) (log : Log) : Prop := ∃ es : List Addr, H la = some (.lst (es.map V.ref)) ∧ Paired (IsEnt H) es log
theorem IsEnt.mono {H H' : Hp} {e : Addr} {x : Int × List Int} (h : IsEnt H e x) (t : Tups H H') : IsEnt H' e x := let ⟨r, h1, h2⟩ := h; ⟨r, t _ _ h1, t _ _ h2⟩
theorem IsLog.seqs {H H' : Hp} {la : Addr} {log : Log} (h : IsLog H la log) (s : Seqs H H') : IsLog H' la log := let ⟨es, h1, h2⟩ := h; ⟨es, s.2 _ _ h1, pairedMap (fun _ _ e => e.mono s.1) h2⟩
theorem IsLog.keep {H H' : Hp} {la : Addr} {log : Log} (h : IsLog H la log) (t : Tups H H') (k : ∀ xs, H la = some (.lst xs) → H' la = some (.lst xs)) : IsLog H' la log := let ⟨es, h1, h2⟩ := h; ⟨es, k _ h1, pairedMap (fun _ _ e => e.mono t) h2⟩
def entD (x : Int × List Int) : PyData := .tuple [.int x.1, rowD x.2]
def logD (log : Log) : PyData := .list (log.map entD)
def endS (b : Bool) : Str := if b = true then "kept" else "spent"
def resD (R : Res) : PyData := .tuple [.str (endS R.1), rowD R.2.1, logD R.2.2]
theorem dpEnts {K : PySem.W.Frag} {H : Hp} : ∀ {es : List Addr} {log : Log}, Paired (IsEnt H) es log → DpAll K H (es.map V.ref) (log.map entD)
  | _, _, .nil => .nil
  | _, _, .cons ⟨r, h1, h2⟩ t => .cons (.tup (.inl (.inl h1)) (.cons (.int _) (.cons (dpRow h2) .nil))) (dpEnts t)
theorem dpLog {K : PySem.W.Frag} {H : Hp} {la : Addr} {log : Log} (h : IsLog H la log) : Dp K H (.ref la) (logD log) := let ⟨es, h1, h2⟩ := h; .lst (.inl (.inl h1)) (dpEnts h2)
/-- what a run tells: the tuple, the filling and the log's list, which is new -/
def IsRes (H0 H : Hp) (t : Addr) (R : Res) : Prop := ∃ fa la, H t = some (.tup [.str (endS R.1), .ref fa, .ref la]) ∧ IsRow H fa R.2.1 ∧ IsLog H la R.2.2 ∧ H0 la = none
theorem dpRes {K : PySem.W.Frag} {H0 H : Hp} {t : Addr} {R : Res} (h : IsRes H0 H t R) : Dp K H (.ref t) (resD R) := let ⟨fa, la, h1, h2, h3, _⟩ := h; .tup (.inl (.inl h1)) (.cons (.str _) (.cons (dpRow h2) (.cons (dpLog h3) .nil)))
theorem IsRes.seqs {H0 H H' : Hp} {t : Addr} {R : Res} (h : IsRes H0 H t R) (s : Seqs H H') : IsRes H0 H' t R := let ⟨fa, la, h1, h2, h3, h4⟩ := h; ⟨fa, la, s.1 _ _ h1, s.1 _ _ h2, h3.seqs s, h4⟩
theorem IsRes.old {H0 H1 H : Hp} {t : Addr} {R : Res} (h : IsRes H1 H t R) (k : ∀ b, H1 b = none → H0 b = none) : IsRes H0 H t R := let ⟨fa, la, h1, h2, h3, h4⟩ := h; ⟨fa, la, h1, h2, h3, k _ h4⟩
/-- each log's pair is fine -/
theorem fine_ent {many hues : Int} {wds : List WD} (gr : GoodR many hues wds) {x : Int × List Int} (h : 0 ≤ x.1 ∧ x.1 < (wds.length : Int) ∧ ∃ wd, wds[x.1.toNat]? = some wd ∧ x.2 ∈ wd.2) : Fine (entD x) 3 80 := by
  obtain ⟨h0, h1, wd, hw, hr⟩ := h
  have e8 := gr.eight
  have g := gr.each wd (List.mem_of_getElem? hw)
  have a := fine_int (i := x.1) h0 (by omega)
  have b : Fine (rowD x.2) 2 64 := fine_row (fun z hz => ⟨((g.row _ hr).2 z hz).1, by have := ((g.row _ hr).2 z hz).2; have := gr.h4; omega⟩) (by have := (g.row _ hr).1; have := g.three; omega)
  exact (Fine.tuple (FineAll.cons (a.mono (by omega) (Nat.le_refl _)) (FineAll.cons b (FineAll.nil _)))).mono (Nat.le_refl _) (by omega)
theorem fine_log {many hues : Int} {wds : List WD} (gr : GoodR many hues wds) {log : Log} (h : LogOk wds log) (hl : log.length ≤ 6000) : Fine (logD log) 4 600000 :=
  (Fine.list (fineAll_map log fun x hx => fine_ent gr (h x hx))).mono (Nat.le_refl _) (by omega)
theorem fine_end (b : Bool) : Fine (.str (endS b)) 1 64 := by
  cases b <;> exact ⟨by decide +kernel, by decide +kernel, by decide +kernel, by decide +kernel, by decide +kernel, by decide +kernel⟩
theorem fine_res {many hues : Int} {wds : List WD} (gr : GoodR many hues wds) {R : Res} (gf : GoodF many hues R.2.1) (h : LogOk wds R.2.2) (hl : R.2.2.length ≤ 6000) : Fine (resD R) 5 700000 :=
  (Fine.tuple (FineAll.cons ((fine_end R.1).mono (by omega) (Nat.le_refl _)) (FineAll.cons ((fine_fill gf gr.m6 gr.h4).mono (by omega) (Nat.le_refl _)) (FineAll.cons (fine_log gr h hl) (FineAll.nil _))))).mono (Nat.le_refl _) (by omega)
theorem fine_tabT {many hues : Int} {tb : List (List Int)} (m6 : many ≤ 6) (h4 : hues ≤ 4) (g : GoodT many hues tb) : Fine (listsD tb) 3 100000 := by
  have hl := g.len
  refine (Fine.list (fineAll_map tb (n := 2) (w := 15000) fun l hm => (fine_ints fun z hz => ⟨(g.hue l hm z hz).1, by have := (g.hue l hm z hz).2; omega⟩).mono (Nat.le_refl _) (by have := g.few l hm; omega))).mono (Nat.le_refl _) ?_
  have : tb.length ≤ 6 := by omega
  omega
/-! ### equality of data -/
theorem eqv_str (a b : Str) : PyData.eqv (.str a) (.str b) = (a == b) := by simp [PyData.eqv]
end Rd
namespace Gx
open PySem PySem.Spec PyProof.Rows L2 GenW
theorem tup_zipL {K : PySem.W.Frag} {a b : Addr} {xs ys : List V} {g : TG} {tt : TT} {te : TE} {vs : List Nat} {σ : L2.St} {Q : List V → Hp → Prop} {H2 : Hp} (hl : xs.length = ys.length) (hz : xs.length ≤ sizeLine) (Pv : Nat → List V → Hp → Prop) (h0 : Pv 0 [] H2) (hq : ∀ i zs H, Pv i zs H → SqL K H a xs ∧ SqL K H b ys) (hy : ∀ i zs H, Pv i zs H → zs.length ≤ i)
    (hs : ∀ i x y T zs H, xs[i]? = some x → ys[i]? = some y → Pv i zs H → H T = none → g (.ref T) (wipe σ vs) (upd H T (.tup [x, y])) fun σ2 H2 => wipe σ2 vs = wipe σ vs ∧ tt σ2 H2 fun b H3 => if b = true then te σ2 H3 fun y H4 => Pv (i + 1) (zs ++ [y]) H4 else Pv (i + 1) zs H3) (hd : ∀ zs H, Pv xs.length zs H → Q zs H) :
    ∃ W : Nat → Nat → List V → Hp → Prop, (∃ m, W 0 m [] H2) ∧ TurnsC (Itz K a b) g tt te vs σ Q W := by
  refine ⟨fun i m zs H => m = xs.length - i ∧ i ≤ xs.length ∧ Pv i zs H, ⟨xs.length, by simp, Nat.zero_le _, h0⟩, ?_⟩
  rintro i m zs H ⟨rfl, hi, p⟩
  obtain ⟨qx, qy⟩ := hq i zs H p
  by_cases hlt : i < xs.length
  · have hx : xs[i]? = some xs[i] := List.getElem?_eq_getElem hlt
    have hlt2 : i < ys.length := by omega
    have hy2 : ys[i]? = some ys[i] := List.getElem?_eq_getElem hlt2
    refine .inr ⟨⟨xs, ys, _, _, qx, qy, hx, hy2⟩, Nat.lt_of_le_of_lt (hy i zs H p) (Nat.lt_of_lt_of_le hlt hz), Pv (i + 1), fun zs' H' p' => ⟨xs.length - (i + 1), by omega, rfl, hlt, p'⟩, fun v H' y => ?_⟩
    obtain ⟨T, x', y', rfl, hT, rfl, f1, f2⟩ := y
    exact hs i x' y' T zs H (f1 xs qx) (f2 ys qy) p hT
  · have e : i = xs.length := by omega
    subst e
    exact .inl ⟨⟨xs, ys, qx, qy, Or.inl (Nat.le_refl _)⟩, hd zs H p⟩
end Gx
namespace Rd
open PySem PySem.Spec PyProof.Rows L2 Dt
def leftAt (tb : List (List Int)) (tk : List Int) (p : Int) : List Int := (leftOf tb tk).getD p.toNat []
theorem leftAt_get {tb : List (List Int)} {tk : List Int} {p : Int} (g : GoodK tb tk) (h0 : 0 ≤ p) (h1 : p < (tb.length : Int)) : (leftOf tb tk)[p.toNat]? = some (leftAt tb tk p) := by
  have h : p.toNat < (leftOf tb tk).length := by rw [left_len g]; omega
  rw [leftAt, getD_get h]
  exact List.getElem?_eq_getElem h
theorem leftAt_nil {tb : List (List Int)} {tk : List Int} {p : Int} (g : GoodK tb tk) (h0 : 0 ≤ p) (h1 : p < (tb.length : Int)) : (leftAt tb tk p = []) ↔ ¬ (atF tk p + 1 < lenAt tb p) := by
  have hp : p.toNat < tb.length := by omega
  have e := left_get g hp
  rw [leftAt_get g h0 h1] at e
  rw [Option.some.inj e, List.drop_eq_nil_iff]
  have a := g.at_ _ hp
  unfold atF lenAt
  omega
theorem eqv_ints_nil (l : List Int) : PyData.eqv (.list (l.map .int)) (.list []) = decide (l = []) := by
  cases l with
  | nil => simp [PyData.eqv, PyData.eqvAll]
  | cons a r => simp [PyData.eqv, PyData.eqvAll]
theorem any_left {tb : List (List Int)} {tk : List Int} (g : GoodK tb tk) : ∀ ps : List Int, (∀ p ∈ ps, 0 ≤ p ∧ p < (tb.length : Int)) → ((ps.map fun p => PyData.list ((leftAt tb tk p).map .int)).any fun z => PyData.eqv z (.list [])) = !canN tb tk ps
  | [], _ => rfl
  | p :: r, h => by
    have hp := h p List.mem_cons_self
    rw [List.map_cons, List.any_cons, any_left g r fun q hq => h q (List.mem_cons_of_mem _ hq), eqv_ints_nil]
    unfold canN
    rw [List.all_cons, Bool.not_and]
    congr 1
    by_cases e : leftAt tb tk p = []
    · rw [decide_eq_true e, decide_eq_false ((leftAt_nil g hp.1 hp.2).mp e)]
      rfl
    · rw [decide_eq_false e, decide_eq_true (Classical.not_not.mp fun z => e ((leftAt_nil g hp.1 hp.2).mpr z))]
      rfl
theorem stand0 {many hues : Int} {tb : List (List Int)} (g : GoodT many hues tb) {i : Nat} {ds : List Int} (h : tb[i]? = some ds) : (stand tb (zerosI tb.length))[i]? = some (atF ds 0) := by
  have hi : i < tb.length := (List.getElem?_eq_some_iff.mp h).1
  rw [stand_get (zeros_good g) hi, zeros_get, List.getD_eq_getElem?_getD, h]
  rfl
theorem left0 {many hues : Int} {tb : List (List Int)} (g : GoodT many hues tb) {i : Nat} {ds : List Int} (h : tb[i]? = some ds) : (leftOf tb (zerosI tb.length))[i]? = some (ds.drop 1) := by
  have hi : i < tb.length := (List.getElem?_eq_some_iff.mp h).1
  rw [left_get (zeros_good g) hi, zeros_get, List.getD_eq_getElem?_getD, h]
  rfl
theorem paired_upd {H : Hp} {D : Addr} {o : HO} : ∀ {l : List Addr} {m : List (List Int)}, Paired (IsInts H) l m → (∀ d ∈ l, d ≠ D) → Paired (IsInts (upd H D o)) l m
  | _, _, .nil, _ => .nil
  | a :: _, _, .cons h t, n => .cons (by show upd H D o a = _; rw [upd_ne (n a List.mem_cons_self)]; exact h) (paired_upd t fun d hd => n d (List.mem_cons_of_mem _ hd))
theorem paired_set {α β : Type} {F : α → β → Prop} : ∀ {l : List α} {m : List β} {i : Nat} {a : α} {b : β}, Paired F l m → F a b → Paired F (l.set i a) (m.set i b)
  | _, _, _, _, _, .nil, _ => .nil
  | _, _, 0, _, _, .cons _ t, h => .cons h t
  | _, _, i + 1, _, _, .cons e t, h => .cons e (paired_set (i := i) t h)
theorem paired_fresh {H : Hp} {D : Addr} {l : List Addr} {m : List (List Int)} (p : Paired (IsInts H) l m) (n : H D = none) : ∀ d ∈ l, d ≠ D := fun d hd z => by
  obtain ⟨j, hj⟩ := List.getElem?_of_mem hd
  obtain ⟨row, _, e⟩ := pairedGetL p hj
  have e2 : H d = some (.lst (row.map V.int)) := e
  rw [z, n] at e2
  cases e2
end Rd
namespace Rd
open PySem PySem.Spec PyProof.Rows L2 Dt
/-! ### the script's list, the tape and the tables, together -/
def rListO (K : PySem.W.Frag) : List V → Hp → VK → Prop := fun xs H Q => ∃ p ys, xs = [.ref p] ∧ (SqL K H p ys ∨ SqT K H p ys) ∧ ∀ l, H l = none → Q (.ref l) (upd H l (.lst ys))
theorem sq_keep {K : PySem.W.Frag} {H H' : Hp} {a : Addr} {xs : List V} (h : SqL K H a xs) (k : ∀ o, H a = some o → H' a = some o) : SqL K H' a xs := by
  rcases h with (h | ⟨o, h⟩) | h
  · exact .inl (.inl (k _ h))
  · exact .inl (.inr ⟨o, k _ h⟩)
  · exact .inr h
theorem sq_new {K : PySem.W.Frag} {H : Hp} {a tp : Addr} {xs : List V} (h : SqL K H a xs) (n : H tp = none) (e : a = tp) (H' : Hp) : SqL K H' a xs := by
  rcases h with (h | ⟨o, h⟩) | h
  · rw [e, n] at h; cases h
  · rw [e, n] at h; cases h
  · exact .inr h
theorem Tabs.sq {K : PySem.W.Frag} {Ps : List Addr} {H H' : Hp} {a : Addr} {xs : List V} (t : Tabs Ps H) (f : FrS Ps H H') (h : SqL K H a xs) : SqL K H' a xs := by
  rcases h with (h | ⟨o, h⟩) | h
  · exact .inl (.inl (f.1 _ _ (t.lst h) h))
  · exact .inl (.inr ⟨o, f.1 _ _ (fun z => by obtain ⟨ps, q, _⟩ := t a z; rw [h] at q; cases q) h⟩)
  · exact .inr h
structure LI (K : PySem.W.Frag) (a : Addr) (xs : List V) (Ps : List Addr) (tp : Addr) (H : Hp) : Prop where
  tape : Tape H tp
  tabs : Tabs Ps H
  scr : SqL K H a xs
  far : a = tp → ∀ H', SqL K H' a xs
theorem LI.frs {K : PySem.W.Frag} {a : Addr} {xs : List V} {Ps : List Addr} {tp : Addr} {H H' : Hp} (h : LI K a xs Ps tp H) (f : FrS Ps H H') : LI K a xs Ps tp H' := ⟨h.tape.seqs (f.seqs h.tabs), f.2, h.tabs.sq f h.scr, h.far⟩
theorem LI.same {K : PySem.W.Frag} {a : Addr} {xs : List V} {Ps : List Addr} {tp : Addr} {H H' : Hp} (h : LI K a xs Ps tp H) (s : Same H H') : LI K a xs Ps tp H' := h.frs (FrS.of h.tabs s)
theorem LI.taped {K : PySem.W.Frag} {a : Addr} {xs : List V} {Ps : List Addr} {tp : Addr} {H H' : Hp} (h : LI K a xs Ps tp H) (f : Taped tp H H') : LI K a xs Ps tp H' := by
  refine ⟨f.2, f.tabs h.tape h.tabs, ?_, h.far⟩
  by_cases e : a = tp
  · exact h.far e H'
  · exact sq_keep h.scr fun o => f.1 a o e
theorem fine_eqv {d : PyData} {n w : Nat} (h : Fine d n w) : PyData.eqv d d = true := PySem.SeqAt.eqv_refl d h.lay
theorem pairedRep {α β : Type} {F : α → β → Prop} {a : α} {b : β} (h : F a b) : ∀ n : Nat, Paired F (List.replicate n a) (List.replicate n b)
  | 0 => .nil
  | n + 1 => .cons h (pairedRep h n)
theorem rep_flat {α : Type} (f : α → V) (a : α) (n : Nat) : (List.replicate n [f a]).flatten = (List.replicate n a).map f := by
  rw [List.map_replicate]
  induction n with
  | zero => rfl
  | succ n ih => rw [List.replicate_succ, List.flatten_cons, ih, List.replicate_succ]; rfl
theorem goodT_rep {many hues : Int} {tb : List (List Int)} {ds : List Int} (g : GoodT many hues tb) (h : ds ∈ tb) (m0 : 0 ≤ many) : GoodT many hues (List.replicate many.toNat ds) := by
  refine ⟨by rw [List.length_replicate]; omega, fun x hx => ?_, fun x hx => ?_, fun x hx => ?_⟩
  · rw [(List.mem_replicate.mp hx).2]; exact g.one ds h
  · rw [(List.mem_replicate.mp hx).2]; exact g.few ds h
  · rw [(List.mem_replicate.mp hx).2]; exact g.hue ds h
end Rd

set_option Elab.async false
set_option linter.all false
set_option maxRecDepth 100000
set_option maxHeartbeats 4000000
/-! runs step by step, and the draws told back -/
namespace Dt
open PySem PySem.Spec PyProof.Rows L2
inductive Steps (wds : List WD) (tb : List (List Int)) (ord : List Int) : List Int → Log → List Int → Log → Prop
  | refl (tk : List Int) (log : Log) : Steps wds tb ord tk log tk log
  | step {tk tk' : List Int} {log log' : Log} {k : Int} : firstB (stand tb tk) wds ord = some k → canN tb tk (plc wds k) = true → Steps wds tb ord (bumpA tk (plc wds k)) (log ++ [(k, huesA (stand tb tk) (plc wds k))]) tk' log' → Steps wds tb ord tk log tk' log'
/-- how a run ends -/
structure EndsAt (wds : List WD) (tb : List (List Int)) (ord : List Int) (tk : List Int) (b : Bool) : Prop where
  kept : b = true → firstB (stand tb tk) wds ord = none
  spent : b = false → ∃ k, firstB (stand tb tk) wds ord = some k ∧ canN tb tk (plc wds k) = false
theorem goR_steps {wds : List WD} {tb : List (List Int)} {ord : List Int} {R : Res} : ∀ (n : Nat) (tk : List Int) (log : Log), goR wds tb ord n tk log = some R → ∃ tkE, Steps wds tb ord tk log tkE R.2.2 ∧ R.2.1 = stand tb tkE ∧ EndsAt wds tb ord tkE R.1
  | 0, _, _, h => nomatch h
  | n + 1, tk, log, h => by
    rw [goR] at h
    cases e : firstB (stand tb tk) wds ord with
    | none =>
      rw [e] at h
      have z := Option.some.inj h
      rw [← z]
      exact ⟨tk, .refl _ _, rfl, fun _ => e, fun z => nomatch z⟩
    | some k =>
      rw [e] at h
      dsimp only at h
      cases c : canN tb tk (plc wds k) with
      | false =>
        rw [c, if_neg (by decide)] at h
        have z := Option.some.inj h
        rw [← z]
        exact ⟨tk, .refl _ _, rfl, (fun z => nomatch z), fun _ => ⟨k, e, c⟩⟩
      | true =>
        rw [c, if_pos rfl] at h
        obtain ⟨tkE, h1, h2, h3⟩ := goR_steps n _ _ h
        exact ⟨tkE, .step e c h1, h2, h3⟩
theorem steps_goR {wds : List WD} {tb : List (List Int)} {ord : List Int} {tk tk' : List Int} {log log' : Log} (s : Steps wds tb ord tk log tk' log') : ∃ c : Nat, ∀ m, goR wds tb ord (m + c) tk log = goR wds tb ord m tk' log' := by
  induction s with
  | refl tk log => exact ⟨0, fun m => rfl⟩
  | @step tk tk' log log' k e c s ih =>
    obtain ⟨n, hn⟩ := ih
    refine ⟨n + 1, fun m => ?_⟩
    show goR wds tb ord (m + n + 1) tk log = _
    rw [goR, e]
    dsimp only
    rw [c, if_pos rfl]
    exact hn m
theorem ends_goR {wds : List WD} {tb : List (List Int)} {ord : List Int} {tk : List Int} {b : Bool} (h : EndsAt wds tb ord tk b) (m : Nat) (log : Log) : goR wds tb ord (m + 1) tk log = some (b, stand tb tk, log) := by
  rw [goR]
  cases b with
  | true => rw [h.kept rfl]
  | false =>
    obtain ⟨k, h1, h2⟩ := h.spent rfl
    rw [h1]
    dsimp only
    rw [h2, if_neg (by decide)]
theorem goR_more {wds : List WD} {tb : List (List Int)} {ord : List Int} {R : Res} : ∀ (n : Nat) (tk : List Int) (log : Log) (m : Nat), goR wds tb ord n tk log = some R → goR wds tb ord (n + m) tk log = some R
  | 0, _, _, _, h => nomatch h
  | n + 1, tk, log, m, h => by
    rw [show n + 1 + m = (n + m) + 1 by omega]
    rw [goR] at h ⊢
    cases e : firstB (stand tb tk) wds ord with
    | none => rw [e] at h; exact h
    | some k =>
      rw [e] at h
      dsimp only at h ⊢
      cases c : canN tb tk (plc wds k) with
      | false => rw [c, if_neg (by decide)] at h; rw [if_neg (by decide)]; exact h
      | true =>
        rw [c, if_pos rfl] at h
        rw [if_pos rfl]
        exact goR_more n _ _ m h
theorem goR_one {wds : List WD} {tb : List (List Int)} {ord : List Int} {R R' : Res} {n n' : Nat} {tk : List Int} {log : Log} (h : goR wds tb ord n tk log = some R) (h' : goR wds tb ord n' tk log = some R') : R = R' := by
  have a := goR_more n tk log n' h
  have b := goR_more n' tk log n h'
  rw [Nat.add_comm] at b
  exact Option.some.inj (a.symm.trans b)
/-- a run by its steps -/
theorem runOf_of {many hues : Int} {wds : List WD} {tb : List (List Int)} {ord : List Int} (gr : GoodR many hues wds) (nd : ∀ wd ∈ wds, wd.1.Nodup) (gt : GoodT many hues tb) (go : GoodO wds.length ord) {tk : List Int} {log : Log} {b : Bool} (s : Steps wds tb ord (zerosI tb.length) [] tk log) (e : EndsAt wds tb ord tk b) : runOf wds tb ord = some (b, stand tb tk, log) := by
  obtain ⟨R, hR, _⟩ := runOf_some gr nd gt go
  obtain ⟨c, hc⟩ := steps_goR s
  have z := ends_goR e 0 log
  rw [← hc (0 + 1)] at z
  rw [hR]
  exact congrArg some (goR_one hR z)
theorem runOf_steps {wds : List WD} {tb : List (List Int)} {ord : List Int} {R : Res} (h : runOf wds tb ord = some R) : ∃ tkE, Steps wds tb ord (zerosI tb.length) [] tkE R.2.2 ∧ R.2.1 = stand tb tkE ∧ EndsAt wds tb ord tkE R.1 := goR_steps _ _ _ h
/-! ### what stays along steps -/
structure Fit (many hues : Int) (wds : List WD) (tb : List (List Int)) (ord : List Int) : Prop where
  gr : GoodR many hues wds
  nd : ∀ wd ∈ wds, wd.1.Nodup
  len : (tb.length : Int) = many
  go : GoodO wds.length ord
theorem can_fit {many hues : Int} {wds : List WD} {tb : List (List Int)} {tk : List Int} {ord : List Int} {k : Int} (f : Fit many hues wds tb ord) (e : firstB (stand tb tk) wds ord = some k) (h : canN tb tk (plc wds k) = true) : Can tb tk (plc wds k) ∧ ∃ wd, wds[k.toNat]? = some wd ∧ plc wds k = wd.1 ∧ brkAt (stand tb tk) wds k.toNat = true ∧ 0 ≤ k ∧ k < (wds.length : Int) := by
  obtain ⟨hk, hb⟩ := first_some e
  obtain ⟨k0, k1⟩ := f.go.mem k hk
  obtain ⟨wd, hw, he⟩ := wd_of k0 k1
  refine ⟨⟨?_, fun p hp => ?_, fun p hp => of_decide_eq_true (List.all_eq_true.mp h p hp)⟩, wd, hw, he, hb, k0, k1⟩
  · rw [he]; exact f.nd wd (List.mem_of_getElem? hw)
  · rw [he] at hp
    have := (f.gr.each wd (List.mem_of_getElem? hw)).pl p hp
    have := f.len
    omega
theorem steps_good {many hues : Int} {wds : List WD} {tb : List (List Int)} {ord : List Int} (f : Fit many hues wds tb ord) {tk tk' : List Int} {log log' : Log} (s : Steps wds tb ord tk log tk' log') (g : GoodK tb tk) : GoodK tb tk' := by
  induction s with
  | refl => exact g
  | step e c s ih => exact ih (bumpA_good g (can_fit f e c).1).1
theorem atF_bump (tk : List Int) (p q : Int) (h0 : 0 ≤ p) (h1 : p < (tk.length : Int)) (hq : 0 ≤ q) : atF (bump tk p.toNat) q = atF tk q + (if q = p then 1 else 0) := by
  unfold atF
  rw [bump_get]
  by_cases e : q = p
  · subst e
    rw [if_pos ⟨rfl, by omega⟩, if_pos rfl]
  · rw [if_neg (fun z => e (by omega)), if_neg e, Int.add_zero]
theorem atF_bumpA : ∀ (ps : List Int) (tk : List Int) (q : Int), ps.Nodup → (∀ p ∈ ps, 0 ≤ p ∧ p < (tk.length : Int)) → 0 ≤ q → atF (bumpA tk ps) q = atF tk q + (if q ∈ ps then 1 else 0)
  | [], tk, q, _, _, _ => by simp [bumpA]
  | p :: r, tk, q, nd, h, hq => by
    have hp := h p List.mem_cons_self
    have nd2 := List.nodup_cons.mp nd
    show atF (bumpA (bump tk p.toNat) r) q = _
    rw [atF_bumpA r (bump tk p.toNat) q nd2.2 (fun x hx => by rw [bump_len]; exact h x (List.mem_cons_of_mem _ hx)) hq, atF_bump tk p q hp.1 hp.2 hq]
    by_cases e : q = p
    · subst e
      rw [if_pos rfl, if_neg nd2.1, if_pos List.mem_cons_self]
      omega
    · rw [if_neg e, Int.add_zero]
      by_cases e2 : q ∈ r
      · rw [if_pos e2, if_pos (List.mem_cons_of_mem _ e2)]
      · rw [if_neg e2, if_neg (fun z => (List.mem_cons.mp z).elim e e2)]
def cntP (wds : List WD) (log : Log) (p : Int) : Nat := (log.filter fun e => decide (p ∈ plc wds e.1)).length
theorem cntP_snoc (wds : List WD) (log : Log) (e : Int × List Int) (p : Int) : cntP wds (log ++ [e]) p = cntP wds log p + (if p ∈ plc wds e.1 then 1 else 0) := by
  unfold cntP
  rw [List.filter_append, List.length_append]
  by_cases h : p ∈ plc wds e.1
  · simp [h]
  · simp [h]
theorem steps_cnt {many hues : Int} {wds : List WD} {tb : List (List Int)} {ord : List Int} (f : Fit many hues wds tb ord) {tk tk' : List Int} {log log' : Log} (s : Steps wds tb ord tk log tk' log') (g : GoodK tb tk) (h : ∀ p, 0 ≤ p → p < (tb.length : Int) → atF tk p = cntP wds log p) : ∀ p, 0 ≤ p → p < (tb.length : Int) → atF tk' p = cntP wds log' p := by
  induction s with
  | refl => exact h
  | @step tk tk' log log' k e c s ih =>
    have cf := (can_fit f e c).1
    refine ih (bumpA_good g cf).1 fun p p0 p1 => ?_
    rw [atF_bumpA _ _ _ cf.nd (fun x hx => by rw [g.len]; exact cf.pl x hx) p0, cntP_snoc, h p p0 p1]
    by_cases e2 : p ∈ plc wds k
    · rw [if_pos e2, if_pos e2]; rfl
    · rw [if_neg e2, if_neg e2]; rfl
theorem steps_le {many hues : Int} {wds : List WD} {tb : List (List Int)} {ord : List Int} (f : Fit many hues wds tb ord) {tk tk' : List Int} {log log' : Log} (s : Steps wds tb ord tk log tk' log') (g : GoodK tb tk) : ∀ p, 0 ≤ p → atF tk p ≤ atF tk' p := by
  induction s with
  | refl => exact fun _ _ => Int.le_refl _
  | @step tk tk' log log' k e c s ih =>
    intro p p0
    have cf := (can_fit f e c).1
    have a := ih (bumpA_good g cf).1 p p0
    rw [atF_bumpA _ _ _ cf.nd (fun x hx => by rw [g.len]; exact cf.pl x hx) p0] at a
    split at a <;> omega
theorem steps_pre {wds : List WD} {tb : List (List Int)} {ord : List Int} {tk tk' : List Int} {log log' : Log} (s : Steps wds tb ord tk log tk' log') : ∃ more, log' = log ++ more := by
  induction s with
  | refl => exact ⟨[], by rw [List.append_nil]⟩
  | step e c s ih =>
    obtain ⟨more, h⟩ := ih
    exact ⟨_, by rw [h, List.append_assoc]⟩
/-! ### tables that agree so far -/
structure Agree (tb tb' : List (List Int)) (tk : List Int) : Prop where
  len : tb'.length = tb.length
  long : ∀ p : Nat, p < tb.length → tk.getD p 0 < ((tb'.getD p []).length : Int)
  eq : ∀ p : Nat, p < tb.length → (tb'.getD p []).take ((tk.getD p 0).toNat + 1) = (tb.getD p []).take ((tk.getD p 0).toNat + 1)
theorem take_at {a b : List Int} {n j : Nat} (h : a.take (n + 1) = b.take (n + 1)) (hj : j ≤ n) : a.getD j 0 = b.getD j 0 := by
  have z := congrArg (fun l : List Int => l[j]?) h
  simp only [List.getElem?_take] at z
  rw [if_pos (by omega), if_pos (by omega)] at z
  rw [List.getD_eq_getElem?_getD, List.getD_eq_getElem?_getD, z]
theorem Agree.stand {tb tb' : List (List Int)} {tk tkE : List Int} (a : Agree tb tb' tkE) (g : GoodK tb tk) (h : ∀ p, 0 ≤ p → atF tk p ≤ atF tkE p) : stand tb' tk = stand tb tk := by
  have g' : GoodK tb' tk := by
    refine ⟨by rw [a.len]; exact g.len, fun p hp => ?_⟩
    rw [a.len] at hp
    have b := g.at_ p hp
    have c := a.long p hp
    have d := h p (by omega)
    unfold atF at d
    rw [Int.toNat_natCast] at d
    omega
  refine List.ext_getElem? fun i => ?_
  by_cases hi : i < tb.length
  · rw [stand_get g' (by rw [a.len]; exact hi), stand_get g hi]
    have b := g.at_ i hi
    have d := h i (by omega)
    unfold atF at d ⊢
    rw [Int.toNat_natCast] at d
    rw [take_at (a.eq i hi) (by omega)]
  · rw [List.getElem?_eq_none (by rw [stand_len g', a.len]; omega), List.getElem?_eq_none (by rw [stand_len g]; omega)]
theorem agree_good {tb tb' : List (List Int)} {tk tkE : List Int} (a : Agree tb tb' tkE) (g : GoodK tb tk) (h : ∀ p, 0 ≤ p → atF tk p ≤ atF tkE p) : GoodK tb' tk := by
  refine ⟨by rw [a.len]; exact g.len, fun p hp => ?_⟩
  rw [a.len] at hp
  have b := g.at_ p hp
  have c := a.long p hp
  have d := h p (by omega)
  unfold atF at d
  rw [Int.toNat_natCast] at d
  omega
theorem steps_agree {many hues : Int} {wds : List WD} {tb tb' : List (List Int)} {ord : List Int} (f : Fit many hues wds tb ord) {tk tkE : List Int} {log log' : Log} (s : Steps wds tb ord tk log tkE log') (g : GoodK tb tk) (a : Agree tb tb' tkE) : Steps wds tb' ord tk log tkE log' := by
  induction s with
  | refl => exact .refl _ _
  | @step tk tkE log log' k e c s ih =>
    have cf := (can_fit f e c).1
    have g2 := (bumpA_good g cf).1
    have le2 := steps_le f s g2
    have le1 := steps_le f (.step e c s) g
    have es := a.stand g le1
    have ih2 := ih g2 a
    refine .step (k := k) (by rw [es]; exact e) ?_ (by rw [es]; exact ih2)
    refine List.all_eq_true.mpr fun p hp => decide_eq_true ?_
    have pp := cf.pl p hp
    have b := le2 p pp.1
    rw [atF_bumpA _ _ _ cf.nd (fun x hx => by rw [g.len]; exact cf.pl x hx) pp.1, if_pos hp] at b
    have d := a.long p.toNat (by omega)
    unfold atF lenAt at *
    omega
/-! ### the draws told back -/
def app1 (tb : List (List Int)) (p : Nat) (h : Int) : List (List Int) := tb.set p (tb.getD p [] ++ [h])
def appA (tb : List (List Int)) (ps row : List Int) : List (List Int) := (ps.zip row).foldl (fun t x => app1 t x.1.toNat x.2) tb
def toldL (wds : List WD) (n : Nat) (log : Log) : List (List Int) := log.foldl (fun t e => appA t (plc wds e.1) e.2) (List.replicate n [])
def finA (tb : List (List Int)) (fs : List Int) (i : Nat) : List (List Int) := (List.range i).foldl (fun t j => app1 t j (fs.getD j 0)) tb
def toldT (wds : List WD) (fs : List Int) (log : Log) : List (List Int) := finA (toldL wds fs.length log) fs fs.length
def takes (tb : List (List Int)) (tk : List Int) : List (List Int) := List.zipWith (fun ds k => ds.take k.toNat) tb tk
def firsts (tb : List (List Int)) (tk : List Int) : List (List Int) := List.zipWith (fun ds k => ds.take (k.toNat + 1)) tb tk
theorem app1_len (tb : List (List Int)) (p : Nat) (h : Int) : (app1 tb p h).length = tb.length := by simp [app1]
theorem app1_get (tb : List (List Int)) (p i : Nat) (h : Int) : (app1 tb p h).getD i [] = if i = p ∧ p < tb.length then tb.getD p [] ++ [h] else tb.getD i [] := by
  unfold app1
  rw [List.getD_eq_getElem?_getD, List.getElem?_set]
  by_cases e : p = i
  · subst e
    by_cases h2 : p < tb.length
    · rw [if_pos rfl, if_pos h2, if_pos ⟨rfl, h2⟩]; rfl
    · rw [if_pos rfl, if_neg h2, if_neg (fun z => h2 z.2), List.getD_eq_getElem?_getD, List.getElem?_eq_none (by omega)]
  · rw [if_neg e, if_neg (fun z => e z.1.symm), List.getD_eq_getElem?_getD]
theorem appA_len : ∀ (ps row : List Int) (tb : List (List Int)), (appA tb ps row).length = tb.length
  | [], _, _ => rfl
  | _ :: _, [], _ => rfl
  | p :: r, h :: q, tb => by
    show (appA (app1 tb p.toNat h) r q).length = _
    rw [appA_len r q, app1_len]
theorem toldL_len (wds : List WD) (n : Nat) : ∀ log : Log, (toldL wds n log).length = n := fun log => by
  unfold toldL
  have : ∀ (log : Log) (tb : List (List Int)), (log.foldl (fun t e => appA t (plc wds e.1) e.2) tb).length = tb.length := by
    intro log
    induction log with
    | nil => intro _; rfl
    | cons e r ih => intro tb; rw [List.foldl_cons, ih, appA_len]
  rw [this, List.length_replicate]
theorem toldL_snoc (wds : List WD) (n : Nat) (log : Log) (e : Int × List Int) : toldL wds n (log ++ [e]) = appA (toldL wds n log) (plc wds e.1) e.2 := by
  unfold toldL
  rw [List.foldl_append]
  rfl
theorem finA_succ (tb : List (List Int)) (fs : List Int) (i : Nat) : finA tb fs (i + 1) = app1 (finA tb fs i) i (fs.getD i 0) := by
  unfold finA
  rw [List.range_succ, List.foldl_append]
  rfl
theorem finA_len (tb : List (List Int)) (fs : List Int) : ∀ i : Nat, (finA tb fs i).length = tb.length
  | 0 => rfl
  | i + 1 => by rw [finA_succ, app1_len, finA_len tb fs i]
theorem finA_get (tb : List (List Int)) (fs : List Int) : ∀ (i q : Nat), i ≤ tb.length → (finA tb fs i).getD q [] = if q < i then tb.getD q [] ++ [fs.getD q 0] else tb.getD q []
  | 0, q, _ => by rw [if_neg (Nat.not_lt_zero _)]; rfl
  | i + 1, q, h => by
    rw [finA_succ, app1_get, finA_len, finA_get tb fs i q (by omega), finA_get tb fs i i (by omega)]
    by_cases e : q = i
    · subst e
      rw [if_pos ⟨rfl, by omega⟩, if_neg (Nat.lt_irrefl _), if_pos (Nat.lt_succ_self _)]
    · rw [if_neg (fun z => e z.1)]
      by_cases e2 : q < i
      · rw [if_pos e2, if_pos (by omega)]
      · rw [if_neg e2, if_neg (by omega)]
theorem toldT_len (wds : List WD) (fs : List Int) (log : Log) : (toldT wds fs log).length = fs.length := by
  rw [toldT, finA_len, toldL_len]
theorem toldT_get (wds : List WD) (fs : List Int) (log : Log) {q : Nat} (h : q < fs.length) : (toldT wds fs log).getD q [] = (toldL wds fs.length log).getD q [] ++ [fs.getD q 0] := by
  rw [toldT, finA_get _ _ _ _ (by rw [toldL_len]; exact Nat.le_refl _), if_pos h]
theorem takes_len {tb : List (List Int)} {tk : List Int} (g : GoodK tb tk) : (takes tb tk).length = tb.length := by
  unfold takes
  rw [List.length_zipWith, g.len, Nat.min_self]
theorem takes_get {tb : List (List Int)} {tk : List Int} (g : GoodK tb tk) {p : Nat} (hp : p < tb.length) : (takes tb tk)[p]? = some ((tb.getD p []).take (tk.getD p 0).toNat) := by
  have h2 : p < tk.length := by rw [g.len]; exact hp
  unfold takes
  rw [List.getElem?_zipWith, List.getElem?_eq_getElem hp, List.getElem?_eq_getElem h2, getD_get hp, getD_get h2]
theorem firsts_len {tb : List (List Int)} {tk : List Int} (g : GoodK tb tk) : (firsts tb tk).length = tb.length := by
  unfold firsts
  rw [List.length_zipWith, g.len, Nat.min_self]
theorem firsts_get {tb : List (List Int)} {tk : List Int} (g : GoodK tb tk) {p : Nat} (hp : p < tb.length) : (firsts tb tk)[p]? = some ((tb.getD p []).take ((tk.getD p 0).toNat + 1)) := by
  have h2 : p < tk.length := by rw [g.len]; exact hp
  unfold firsts
  rw [List.getElem?_zipWith, List.getElem?_eq_getElem hp, List.getElem?_eq_getElem h2, getD_get hp, getD_get h2]
theorem getD_of {α : Type} {l : List α} {i : Nat} {a d : α} (h : l[i]? = some a) : l.getD i d = a := by
  rw [List.getD_eq_getElem?_getD, h]
  rfl
theorem take1 {tb : List (List Int)} {tk : List Int} {p : Nat} (g : GoodK tb tk) (hp : p < tb.length) (h : tk.getD p 0 + 1 < ((tb.getD p []).length : Int)) : app1 (takes tb tk) p (atF (tb.getD p []) (tk.getD p 0)) = takes tb (bump tk p) := by
  have g2 := good_bump g hp h
  have a := g.at_ p hp
  refine List.ext_getElem? fun i => ?_
  unfold app1
  rw [List.getElem?_set]
  by_cases hi : i < tb.length
  · rw [takes_get g2 hi, bump_get]
    by_cases e : p = i
    · subst e
      rw [if_pos rfl, if_pos (by rw [takes_len g]; exact hp), if_pos ⟨rfl, by rw [g.len]; exact hp⟩, getD_of (takes_get g hp)]
      have en : (tk.getD p 0 + 1).toNat = (tk.getD p 0).toNat + 1 := by omega
      have hl : (tk.getD p 0).toNat < (tb.getD p []).length := by omega
      rw [en, List.take_add_one, atF, getD_get hl, List.getElem?_eq_getElem hl]
      rfl
    · rw [if_neg e, if_neg (fun z => e z.1.symm), takes_get g hi]
  · rw [if_neg (by omega), List.getElem?_eq_none (by rw [takes_len g]; omega), List.getElem?_eq_none (by rw [takes_len g2]; omega)]
theorem takeA : ∀ (ps : List Int) {tb : List (List Int)} {tk : List Int} (w : Int → Int), GoodK tb tk → Can tb tk ps → (∀ p ∈ ps, w p = atF (tb.getD p.toNat []) (atF tk p)) → appA (takes tb tk) ps (ps.map w) = takes tb (bumpA tk ps)
  | [], _, _, _, _, _, _ => rfl
  | p :: r, tb, tk, w, g, c, h => by
    have hp := c.pl p List.mem_cons_self
    have hn := c.nx p List.mem_cons_self
    have hpn : p.toNat < tb.length := by omega
    show appA (app1 (takes tb tk) p.toNat (w p)) r (r.map w) = takes tb (bumpA (bump tk p.toNat) r)
    rw [h p List.mem_cons_self, show atF tk p = tk.getD p.toNat 0 from rfl, take1 g hpn hn]
    refine takeA r w (good_bump g hpn hn) c.tail fun q hq => ?_
    have hq2 := c.pl q (List.mem_cons_of_mem _ hq)
    have hne : q ≠ p := fun z => (List.nodup_cons.mp c.nd).1 (z ▸ hq)
    rw [h q (List.mem_cons_of_mem _ hq), atF_bump tk p q hp.1 (by rw [g.len]; exact hp.2) hq2.1, if_neg hne, Int.add_zero]
theorem steps_told {many hues : Int} {wds : List WD} {tb : List (List Int)} {ord : List Int} (f : Fit many hues wds tb ord) {tk tk' : List Int} {log log' : Log} (s : Steps wds tb ord tk log tk' log') (g : GoodK tb tk) (h : toldL wds tb.length log = takes tb tk) : toldL wds tb.length log' = takes tb tk' := by
  induction s with
  | refl => exact h
  | @step tk tk' log log' k e c s ih =>
    have cf := (can_fit f e c).1
    refine ih (bumpA_good g cf).1 ?_
    rw [toldL_snoc, h]
    refine takeA _ _ g cf fun p hp => ?_
    have pp := cf.pl p hp
    have hpn : p.toNat < tb.length := by omega
    show atF (stand tb tk) p = _
    rw [atF, getD_of (stand_get g hpn)]
    rfl
theorem told_end {wds : List WD} {tb : List (List Int)} {tk : List Int} {log : Log} (g : GoodK tb tk) (h : toldL wds tb.length log = takes tb tk) : toldT wds (stand tb tk) log = firsts tb tk := by
  refine List.ext_getElem? fun i => ?_
  by_cases hi : i < tb.length
  · have hs : i < (stand tb tk).length := by rw [stand_len g]; exact hi
    have e := toldT_get wds (stand tb tk) log hs
    rw [stand_len g, h, getD_of (takes_get g hi), getD_of (stand_get g hi)] at e
    have hl : i < (toldT wds (stand tb tk) log).length := by rw [toldT_len]; exact hs
    rw [getD_get hl] at e
    rw [List.getElem?_eq_getElem hl, e, firsts_get g hi]
    have a := g.at_ i hi
    have hl2 : (tk.getD i 0).toNat < (tb.getD i []).length := by omega
    rw [List.take_add_one, atF, getD_get hl2, List.getElem?_eq_getElem hl2]
    rfl
  · rw [List.getElem?_eq_none (by rw [toldT_len, stand_len g]; omega), List.getElem?_eq_none (by rw [firsts_len g]; omega)]
theorem takes_zero {tb : List (List Int)} : toldL wds tb.length [] = takes tb (zerosI tb.length) := by
  show List.replicate tb.length [] = _
  unfold takes zerosI
  refine List.ext_getElem? fun i => ?_
  rw [List.getElem?_zipWith, List.getElem?_replicate, List.getElem?_replicate]
  by_cases hi : i < tb.length
  · rw [if_pos hi, if_pos hi, List.getElem?_eq_getElem hi]
    rfl
  · rw [if_neg hi, if_neg hi, List.getElem?_eq_none (by omega)]
/-- all of a run -/
structure RunEnd (many hues : Int) (wds : List WD) (tb : List (List Int)) (ord : List Int) (R : Res) (tk : List Int) : Prop where
  gk : GoodK tb tk
  st : Steps wds tb ord (zerosI tb.length) [] tk R.2.2
  fs : R.2.1 = stand tb tk
  en : EndsAt wds tb ord tk R.1
  told : toldT wds R.2.1 R.2.2 = firsts tb tk
  cnt : ∀ p, 0 ≤ p → p < (tb.length : Int) → atF tk p = cntP wds R.2.2 p
theorem runEnd_of {many hues : Int} {wds : List WD} {tb : List (List Int)} {ord : List Int} {R : Res} (gr : GoodR many hues wds) (nd : ∀ wd ∈ wds, wd.1.Nodup) (gt : GoodT many hues tb) (go : GoodO wds.length ord) (h : runOf wds tb ord = some R) : ∃ tk, RunEnd many hues wds tb ord R tk := by
  obtain ⟨tk, s, e, en⟩ := runOf_steps h
  have f : Fit many hues wds tb ord := ⟨gr, nd, gt.len, go⟩
  have g0 := zeros_good gt
  have gk := steps_good f s g0
  refine ⟨tk, gk, s, e, en, ?_, steps_cnt f s g0 fun p p0 _ => ?_⟩
  · rw [e]
    exact told_end gk (steps_told f s g0 takes_zero)
  · unfold atF
    rw [zeros_get]
    rfl
theorem firsts_good {many hues : Int} {tb : List (List Int)} {tk : List Int} (gt : GoodT many hues tb) (g : GoodK tb tk) : GoodT many hues (firsts tb tk) := by
  have key : ∀ ds ∈ firsts tb tk, ∃ d ∈ tb, ∃ n, ds = d.take (n + 1) := fun ds h => by
    obtain ⟨i, hi, e⟩ := List.getElem_of_mem h
    rw [firsts_len g] at hi
    have z := firsts_get g hi
    rw [List.getElem?_eq_getElem (by rw [firsts_len g]; exact hi), e] at z
    exact ⟨_, getD_mem hi, _, Option.some.inj z⟩
  refine ⟨by rw [firsts_len g]; exact gt.len, fun ds h => ?_, fun ds h => ?_, fun ds h z hz => ?_⟩
  · obtain ⟨d, hd, n, rfl⟩ := key ds h
    have := gt.one d hd
    rw [List.length_take]
    omega
  · obtain ⟨d, hd, n, rfl⟩ := key ds h
    have := gt.few d hd
    rw [List.length_take]
    omega
  · obtain ⟨d, hd, n, rfl⟩ := key ds h
    exact gt.hue d hd z (List.mem_of_mem_take hz)
theorem firsts_agree {tb : List (List Int)} {tk : List Int} (g : GoodK tb tk) : Agree tb (firsts tb tk) tk := by
  refine ⟨firsts_len g, fun p hp => ?_, fun p hp => ?_⟩
  · rw [getD_of (firsts_get g hp), List.length_take]
    have := g.at_ p hp
    omega
  · rw [getD_of (firsts_get g hp), List.take_take, Nat.min_self]
/-- the run of the draws taken alone -/
theorem run_firsts {many hues : Int} {wds : List WD} {tb : List (List Int)} {ord : List Int} {R : Res} {tk : List Int} (gr : GoodR many hues wds) (nd : ∀ wd ∈ wds, wd.1.Nodup) (gt : GoodT many hues tb) (go : GoodO wds.length ord) (e : RunEnd many hues wds tb ord R tk) : runOf wds (firsts tb tk) ord = some R := by
  have f : Fit many hues wds tb ord := ⟨gr, nd, gt.len, go⟩
  have ag := firsts_agree e.gk
  have s' := steps_agree f e.st (zeros_good gt) ag
  have es : stand (firsts tb tk) tk = stand tb tk := ag.stand e.gk fun _ _ => Int.le_refl _
  have s2 : Steps wds (firsts tb tk) ord (zerosI (firsts tb tk).length) [] tk R.2.2 := by rw [firsts_len e.gk]; exact s'
  have z := runOf_of gr nd (firsts_good gt e.gk) go (b := R.1) s2 ⟨fun b => by rw [es]; exact e.en.kept b, fun b => by
    obtain ⟨k, h1, h2⟩ := e.en.spent b
    refine ⟨k, by rw [es]; exact h1, ?_⟩
    obtain ⟨hk, hb⟩ := first_some h1
    obtain ⟨k0, k1⟩ := go.mem k hk
    obtain ⟨wd, hw, he⟩ := wd_of k0 k1
    have gw := gr.each wd (List.mem_of_getElem? hw)
    obtain ⟨p, hp⟩ := List.exists_mem_of_length_pos (show 0 < wd.1.length from gw.one)
    rw [canN, List.all_eq_false]
    refine ⟨p, by rw [he]; exact hp, ?_⟩
    have pp := gw.pl p hp
    have hl := gt.len
    have hpn : p.toNat < tb.length := by omega
    have a := e.gk.at_ _ hpn
    rw [decide_eq_true_eq, lenAt, getD_of (firsts_get e.gk hpn), List.length_take]
    unfold atF
    omega⟩
  rw [z, es, ← e.fs]
/-- the run of a table that goes on -/
theorem run_longer {many hues : Int} {wds : List WD} {tb tb' : List (List Int)} {ord : List Int} {R R' : Res} {tk : List Int} (gr : GoodR many hues wds) (nd : ∀ wd ∈ wds, wd.1.Nodup) (gt : GoodT many hues tb) (gt' : GoodT many hues tb') (go : GoodO wds.length ord) (e : RunEnd many hues wds tb ord R tk) (hR' : runOf wds tb' ord = some R')
    (pre : ∀ p : Nat, p < tb.length → ∃ more, tb'.getD p [] = tb.getD p [] ++ more) : (R.1 = true → R' = R) ∧ ∃ more, R'.2.2 = R.2.2 ++ more := by
  have f : Fit many hues wds tb ord := ⟨gr, nd, gt.len, go⟩
  have hl := gt.len
  have hl' := gt'.len
  have ag : Agree tb tb' tk := by
    refine ⟨by omega, fun p hp => ?_, fun p hp => ?_⟩
    · obtain ⟨more, hm⟩ := pre p hp
      have a := e.gk.at_ p hp
      rw [hm, List.length_append]
      omega
    · obtain ⟨more, hm⟩ := pre p hp
      have a := e.gk.at_ p hp
      rw [hm, List.take_append_of_le_length (by omega)]
  have s' := steps_agree f e.st (zeros_good gt) ag
  have es : stand tb' tk = stand tb tk := ag.stand e.gk fun _ _ => Int.le_refl _
  rw [← ag.len] at s'
  refine ⟨fun b => ?_, ?_⟩
  · have z := runOf_of gr nd gt' go (b := R.1) s' ⟨fun b => by rw [es]; exact e.en.kept b, fun z => by rw [b] at z; cases z⟩
    rw [hR', es, ← e.fs] at z
    exact Option.some.inj z
  · obtain ⟨c, hc⟩ := steps_goR s'
    have a := goR_more _ _ _ c hR'
    rw [hc] at a
    obtain ⟨tkE, s2, _⟩ := goR_steps _ _ _ a
    exact steps_pre s2
end Dt

set_option Elab.async false
set_option linter.all false
set_option maxRecDepth 100000
set_option maxHeartbeats 4000000
namespace Rd
open PySem PySem.Spec PyProof.Rows L2 Dt
/-- a statement that is never come to -/
theorem ps_never {X : Cx} {st : Stmt} : PS X st (fun _ _ _ => False) := ⟨fun _ _ _ _ _ _ h => h.elim⟩
/-! ### lists within one that are changed -/
theorem paired_mod {H : Hp} {d : Addr} {l' : List Int} : ∀ {das : List Addr} {T : List (List Int)} {p : Nat}, Paired (IsInts H) das T → das.Nodup → das[p]? = some d → Paired (IsInts (upd H d (.lst (l'.map V.int)))) das (T.set p l')
  | _, _, p, .nil, _, h => by simp at h
  | a :: r, l :: q, 0, .cons h t, nd, e => by
    have ea : a = d := Option.some.inj e
    subst ea
    have nd2 := List.nodup_cons.mp nd
    exact .cons (by show upd H a _ a = _; exact upd_same) (paired_upd t fun x hx (z : x = a) => nd2.1 (by rw [← z]; exact hx))
  | a :: r, l :: q, p + 1, .cons h t, nd, e => by
    have nd2 := List.nodup_cons.mp nd
    have hm : d ∈ r := List.mem_of_getElem? (show r[p]? = some d from e)
    exact .cons (by show upd H d _ a = _; rw [upd_ne (fun z : a = d => nd2.1 (by rw [z]; exact hm))]; exact h) (paired_mod t nd2.2 e)
theorem paired_len_upd {H : Hp} {D : Addr} {o : HO} {das : List Addr} {T : List (List Int)} (p : Paired (IsInts H) das T) (n : D ∉ das) : Paired (IsInts (upd H D o)) das T := paired_upd p fun d hd (z : d = D) => n (by rw [← z]; exact hd)
/-- a new list of new lists, no two one -/
structure NewTab (H H' : Hp) (ta : Addr) (das : List Addr) (T : List (List Int)) : Prop where
  ht : H' ta = some (.lst (das.map V.ref))
  nt : H ta = none
  nd : das.Nodup
  new : ∀ d ∈ das, H d = none ∧ d ≠ ta
  pr : Paired (IsInts H') das T
theorem NewTab.tab {H H' : Hp} {ta : Addr} {das : List Addr} {T : List (List Int)} (h : NewTab H H' ta das T) : IsTab (Old H) H' ta T := ⟨das, h.ht, fun z => z h.nt, fun d hd z => z (h.new d hd).1, h.pr⟩
theorem NewTab.app {H H' : Hp} {ta : Addr} {das : List Addr} {T : List (List Int)} {p : Nat} {d : Addr} {l : List Int} {x : Int} (h : NewTab H H' ta das T) (hd : das[p]? = some d) (hl : T[p]? = some l) : NewTab H (upd H' d (.lst ((l ++ [x]).map V.int))) ta das (app1 T p x) := by
  have hm := List.mem_of_getElem? hd
  refine ⟨by rw [upd_ne (h.new d hm).2.symm]; exact h.ht, h.nt, h.nd, h.new, ?_⟩
  unfold app1
  rw [getD_of hl]
  exact paired_mod h.pr h.nd hd
theorem NewTab.mono {H H' H2 : Hp} {ta : Addr} {das : List Addr} {T : List (List Int)} (h : NewTab H H' ta das T) (s : Seqs H' H2) : NewTab H H2 ta das T := ⟨s.2 _ _ h.ht, h.nt, h.nd, h.new, pairedMap (fun _ _ e => s.2 _ _ e) h.pr⟩
/-! ### how long told draws are -/
theorem app1_le (T : List (List Int)) (p q : Nat) (h : Int) : ((app1 T p h).getD q []).length ≤ (T.getD q []).length + 1 := by
  rw [app1_get]
  split
  · rename_i e
    rw [e.1, List.length_append]
    exact Nat.le_refl _
  · omega
theorem appA_le : ∀ (ps row : List Int) (T : List (List Int)) (q : Nat), ((appA T ps row).getD q []).length ≤ (T.getD q []).length + ps.length
  | [], _, _, _ => Nat.le_refl _
  | _ :: _, [], _, _ => Nat.le_add_right _ _
  | p :: r, h :: s, T, q => by
    have a := appA_le r s (app1 T p.toNat h) q
    have b := app1_le T p.toNat q h
    show ((appA (app1 T p.toNat h) r s).getD q []).length ≤ _
    rw [List.length_cons]
    omega
theorem appA_snoc (T : List (List Int)) : ∀ {ps row : List Int} {j : Nat} {p h : Int}, ps[j]? = some p → row[j]? = some h → appA T (ps.take (j + 1)) (row.take (j + 1)) = app1 (appA T (ps.take j) (row.take j)) p.toNat h := by
  intro ps row j p h hp hh
  unfold appA
  have e : (ps.take (j + 1)).zip (row.take (j + 1)) = (ps.take j).zip (row.take j) ++ [(p, h)] := by
    rw [take_snoc hp, take_snoc hh]
    rw [List.zip_append]
    · rfl
    · rw [List.length_take, List.length_take]
      have a := (List.getElem?_eq_some_iff.mp hp).1
      have b := (List.getElem?_eq_some_iff.mp hh).1
      omega
  rw [e, List.foldl_append]
  rfl
theorem toldL_le {wds : List WD} (h3 : ∀ wd ∈ wds, wd.1.length ≤ 3) (n q : Nat) : ∀ log : Log, ((toldL wds n log).getD q []).length ≤ 3 * log.length := by
  have pl3 : ∀ k : Int, (plc wds k).length ≤ 3 := fun k => by
    unfold plc
    rw [List.getD_eq_getElem?_getD]
    cases e : wds[k.toNat]? with
    | none => simp
    | some wd => exact h3 wd (List.mem_of_getElem? e)
  have key : ∀ (log : Log) (T : List (List Int)), ((log.foldl (fun t e => appA t (plc wds e.1) e.2) T).getD q []).length ≤ (T.getD q []).length + 3 * log.length := by
    intro log
    induction log with
    | nil => intro T; exact Nat.le_refl _
    | cons e r ih =>
      intro T
      rw [List.foldl_cons, List.length_cons]
      have a := ih (appA T (plc wds e.1) e.2)
      have b := appA_le (plc wds e.1) e.2 T q
      have c := pl3 e.1
      omega
  intro log
  have a := key log (List.replicate n [])
  have b : ((List.replicate n ([] : List Int)).getD q []).length = 0 := by
    rw [List.getD_eq_getElem?_getD, List.getElem?_replicate]
    split <;> rfl
  unfold toldL
  omega
/-! ### logs looked at -/
def entB (wds : List WD) (x : Int × List Int) : Bool := decide (0 ≤ x.1 ∧ x.1 < (wds.length : Int) ∧ x.2 ∈ (wds.getD x.1.toNat ([], [])).2)
def logB (wds : List WD) (log : Log) : Bool := log.all (entB wds)
theorem logB_ok {wds : List WD} {log : Log} (h : logB wds log = true) : LogOk wds log := fun e he => by
  obtain ⟨h0, h1, h2⟩ := of_decide_eq_true (List.all_eq_true.mp h e he)
  have hk : e.1.toNat < wds.length := by omega
  rw [getD_get hk] at h2
  exact ⟨h0, h1, _, List.getElem?_eq_getElem hk, h2⟩
theorem logB_of {wds : List WD} {log : Log} (h : LogOk wds log) : logB wds log = true := List.all_eq_true.mpr fun e he => by
  obtain ⟨h0, h1, wd, hw, hr⟩ := h e he
  exact decide_eq_true ⟨h0, h1, by rw [getD_of hw]; exact hr⟩
theorem shaped_row (r : Dt.Row) : SeqAt.shaped (rowD r) = true := by
  have a : ∀ l : List Int, PyData.canLayAll0 (l.map .int) = true := Gv.canAll_ints
  have b : ∀ l : List Int, PyData.depthAll (l.map .int) ≤ 1 := fun l => by
    induction l with
    | nil => simp [PyData.depthAll]
    | cons x q ih => simp only [List.map_cons, PyData.depthAll, PyData.depth]; omega
  show ((rowD r).canLay0 && decide ((rowD r).depth ≤ 64)) = true
  have d : (rowD r).depth ≤ 64 := by
    unfold rowD
    simp only [PyData.depth]
    have := b r
    omega
  have c : (rowD r).canLay0 = true := by
    unfold rowD
    simp only [PyData.canLay0]
    exact a r
  rw [c, decide_eq_true d]
  rfl
theorem row_hue {many hues : Int} {wds : List WD} (gr : GoodR many hues wds) {log : Log} (h : LogOk wds log) : ∀ e ∈ log, ∀ z ∈ e.2, 0 ≤ z ∧ z < hues := fun e he z hz => by
  obtain ⟨_, _, wd, hw, hr⟩ := h e he
  exact ((gr.each wd (List.mem_of_getElem? hw)).row _ hr).2 z hz
theorem app1_all {Pz : Int → Prop} {T : List (List Int)} {p : Nat} {x : Int} (h : ∀ l ∈ T, ∀ z ∈ l, Pz z) (hx : Pz x) : ∀ l ∈ app1 T p x, ∀ z ∈ l, Pz z := fun l hl z hz => by
  rcases List.mem_or_eq_of_mem_set hl with e | e
  · exact h l e z hz
  · rw [e] at hz
    rcases List.mem_append.mp hz with q | q
    · by_cases hp : p < T.length
      · exact h _ (getD_mem (d := []) hp) z q
      · rw [List.getD_eq_getElem?_getD, List.getElem?_eq_none (by omega)] at q
        cases q
    · rw [List.mem_singleton.mp q]; exact hx
theorem appA_all {Pz : Int → Prop} : ∀ (ps row : List Int) (T : List (List Int)), (∀ l ∈ T, ∀ z ∈ l, Pz z) → (∀ z ∈ row, Pz z) → ∀ l ∈ appA T ps row, ∀ z ∈ l, Pz z
  | [], _, _, h, _ => h
  | _ :: _, [], _, h, _ => h
  | p :: r, x :: s, T, h, hr => appA_all r s (app1 T p.toNat x) (app1_all h (hr x List.mem_cons_self)) fun z hz => hr z (List.mem_cons_of_mem _ hz)
theorem toldL_all {Pz : Int → Prop} (wds : List WD) (n : Nat) : ∀ log : Log, (∀ e ∈ log, ∀ z ∈ e.2, Pz z) → ∀ l ∈ toldL wds n log, ∀ z ∈ l, Pz z := by
  have key : ∀ (log : Log) (T : List (List Int)), (∀ l ∈ T, ∀ z ∈ l, Pz z) → (∀ e ∈ log, ∀ z ∈ e.2, Pz z) → ∀ l ∈ log.foldl (fun t e => appA t (plc wds e.1) e.2) T, ∀ z ∈ l, Pz z := by
    intro log
    induction log with
    | nil => intro T h _; exact h
    | cons e r ih =>
      intro T h hl
      rw [List.foldl_cons]
      exact ih _ (appA_all _ _ _ h (hl e List.mem_cons_self)) fun x hx => hl x (List.mem_cons_of_mem _ hx)
  intro log h
  refine key log _ (fun l hl z hz => ?_) h
  rw [(List.mem_replicate.mp hl).2] at hz
  cases hz
theorem told_good {many hues : Int} {wds : List WD} (gr : GoodR many hues wds) {fs : List Int} {log : Log} (gf : GoodF many hues fs) (h : LogOk wds log) (few : ∀ ds ∈ toldT wds fs log, ds.length ≤ 1000) : GoodT many hues (toldT wds fs log) := by
  have each : ∀ ds ∈ toldT wds fs log, ∃ q, q < fs.length ∧ ds = (toldL wds fs.length log).getD q [] ++ [fs.getD q 0] := fun ds hd => by
    obtain ⟨i, hi, e⟩ := List.getElem_of_mem hd
    rw [toldT_len] at hi
    refine ⟨i, hi, ?_⟩
    rw [← toldT_get wds fs log hi, getD_get (by rw [toldT_len]; exact hi), e]
  refine ⟨by rw [toldT_len]; exact gf.len, fun ds hd => ?_, few, fun ds hd z hz => ?_⟩
  · obtain ⟨q, _, e⟩ := each ds hd
    rw [e, List.length_append]
    exact Nat.le_add_left _ _
  · obtain ⟨q, hq, e⟩ := each ds hd
    rw [e] at hz
    rcases List.mem_append.mp hz with y | y
    · have hq2 : q < (toldL wds fs.length log).length := by rw [toldL_len]; exact hq
      exact toldL_all (Pz := fun z => 0 ≤ z ∧ z < hues) wds _ log (row_hue gr h) _ (getD_mem hq2) z y
    · rw [List.mem_singleton.mp y]
      exact gf.hue _ (Dt.getD_mem hq)
/-! ### equality of what is told -/
theorem eqv_ent (x y : Int × List Int) : PyData.eqv (entD x) (entD y) = decide (x = y) := by
  obtain ⟨a, r⟩ := x
  obtain ⟨b, s⟩ := y
  unfold entD
  have e := eqv_row r s
  simp only [PyData.eqv, PyData.eqvAll, e, Bool.and_true]
  by_cases h : a = b
  · subst h
    by_cases h2 : r = s
    · subst h2; simp
    · simp [h2]
  · simp [h]
theorem eqvAll_ents : ∀ a b : Log, PyData.eqvAll (a.map entD) (b.map entD) = decide (a = b)
  | [], [] => by simp [PyData.eqvAll]
  | [], _ :: _ => by simp [PyData.eqvAll]
  | _ :: _, [] => by simp [PyData.eqvAll]
  | x :: r, y :: q => by
    simp only [List.map_cons, PyData.eqvAll, eqv_ent, eqvAll_ents r q]
    by_cases h : x = y
    · subst h; simp
    · simp [h]
theorem eqv_log (a b : Log) : PyData.eqv (logD a) (logD b) = decide (a = b) := by
  unfold logD
  rw [PyData.eqv]
  exact eqvAll_ents a b
theorem eqv_endS (a b : Bool) : PyData.eqv (.str (endS a)) (.str (endS b)) = decide (a = b) := by
  cases a <;> cases b <;> decide +kernel
theorem eqv_res (R S : Res) : PyData.eqv (resD R) (resD S) = decide (R = S) := by
  obtain ⟨a, f, l⟩ := R
  obtain ⟨b, g, m⟩ := S
  unfold resD
  have e1 := eqv_endS a b
  have e2 := eqv_row f g
  have e3 := eqv_log l m
  rw [PyData.eqv]
  simp only [PyData.eqvAll, e1, e2, e3, Bool.and_true]
  by_cases h1 : a = b
  · by_cases h2 : f = g
    · by_cases h3 : l = m
      · subst h1; subst h2; subst h3; simp
      · simp [h3]
    · simp [h2]
  · simp [h1]
def isRunB (wds : List WD) (ord : List Int) (b : Bool) (fs : List Int) (log : Log) : Bool := logB wds log && decide (runOf wds (toldT wds fs log) ord = some (b, fs, log))
/-! ### frames but for the tape and some tables -/
structure FrT (tp : Addr) (Ps : List Addr) (H H' : Hp) : Prop where
  keep : ∀ b o, b ≠ tp → b ∉ Ps → H b = some o → H' b = some o
  tape : Tape H' tp
  tabs : Tabs Ps H'
theorem FrT.frs {tp : Addr} {Ps : List Addr} {H H' : Hp} (t : Tape H tp) (tt : Tabs Ps H) (f : FrS Ps H H') : FrT tp Ps H H' := ⟨fun b o _ n e => f.1 b o n e, t.seqs (f.seqs tt), f.2⟩
theorem FrT.taped {tp : Addr} {Ps : List Addr} {H H' : Hp} (t : Tape H tp) (tt : Tabs Ps H) (f : Taped tp H H') : FrT tp Ps H H' := ⟨fun b o n _ e => f.1 b o n e, f.2, f.tabs t tt⟩
theorem FrT.trans {tp : Addr} {Ps : List Addr} {H H1 H2 : Hp} (a : FrT tp Ps H H1) (b : FrT tp Ps H1 H2) : FrT tp Ps H H2 := ⟨fun x o n m e => b.keep x o n m (a.keep x o n m e), b.tape, b.tabs⟩
theorem FrT.refl {tp : Addr} {Ps : List Addr} {H : Hp} (t : Tape H tp) (tt : Tabs Ps H) : FrT tp Ps H H := ⟨fun _ _ _ _ e => e, t, tt⟩
theorem FrT.same {tp : Addr} {Ps : List Addr} {H H1 H2 : Hp} (a : FrT tp Ps H H1) (s : Same H1 H2) : FrT tp Ps H H2 := ⟨fun x o n m e => s _ _ (a.keep x o n m e), a.tape.same s, a.tabs.same s⟩
theorem FrT.put {tp : Addr} {Ps : List Addr} {H H1 : Hp} {b : Addr} {o : HO} (a : FrT tp Ps H H1) (n : H b = none) (nt : b ≠ tp) (np : b ∉ Ps) : FrT tp Ps H (upd H1 b o) := ⟨fun x u m k e => by rw [upd_ne (ne_of_none e n)]; exact a.keep x u m k e, a.tape.put nt, a.tabs.put np⟩
theorem FrT.tups {tp : Addr} {Ps : List Addr} {H H' : Hp} (t : Tape H tp) (tt : Tabs Ps H) (f : FrT tp Ps H H') : Tups H H' := fun b xs e => f.keep b _ (fun z => by
  obtain ⟨_, _, h1, _⟩ := t
  rw [z, h1] at e
  cases e) (tt.tup e) e
theorem FrT.lst {tp : Addr} {Ps : List Addr} {H H' : Hp} (tt : Tabs Ps H) (f : FrT tp Ps H H') {b : Addr} {xs : List V} (n : b ≠ tp) (e : H b = some (.lst xs)) : H' b = some (.lst xs) := f.keep b _ n (tt.lst e) e
theorem FrT.free {tp : Addr} {Ps : List Addr} {H H' : Hp} {b : Addr} (f : FrT tp Ps H H') (h : H' b = none) : H b = none := by
  cases e : H b with
  | none => rfl
  | some o =>
    have h1 := f.tape.new h
    have h2 := f.tabs.new h
    rw [f.keep b o h1 h2 e] at h
    cases h
theorem LI.frt {K : PySem.W.Frag} {a : Addr} {xs : List V} {Ps : List Addr} {tp : Addr} {H H' : Hp} (h : LI K a xs Ps tp H) (f : FrT tp Ps H H') : LI K a xs Ps tp H' := by
  refine ⟨f.tape, f.tabs, ?_, h.far⟩
  by_cases e : a = tp
  · exact h.far e H'
  · rcases h.scr with (z | ⟨o, z⟩) | z
    · exact .inl (.inl (f.lst h.tabs e z))
    · exact .inl (.inr ⟨o, f.keep a _ e (fun y => by obtain ⟨ps, q, _⟩ := h.tabs a y; rw [z] at q; cases q) z⟩)
    · exact .inr z
theorem IsTab.frt {tp : Addr} {Ps : List Addr} {H H' : Hp} {ta : Addr} {tb : List (List Int)} (h : IsTab (· = tp) H ta tb) (tt : Tabs Ps H) (f : FrT tp Ps H H') : IsTab (· = tp) H' ta tb := h.mono fun b xs n e => f.lst tt n e
/-- a list of the items of two lists -/
theorem lc_zipL {K : PySem.W.Frag} {a b : Addr} {xs ys : List V} {g : TG} {tt : TT} {te : TE} {vs : List Nat} {σ : L2.St} {H1 : Hp} {D : Addr} {Qd : Hp → Prop} (hl : xs.length = ys.length) (Pv : Nat → Hp → Prop) (h0 : Pv 0 (upd H1 D (.lst []))) (hq : ∀ i H, Pv i H → SqL K H a xs ∧ SqL K H b ys)
    (hs : ∀ i x y T H, xs[i]? = some x → ys[i]? = some y → Pv i H → H T = none → g (.ref T) (wipe σ vs) (upd H T (.tup [x, y])) fun σ2 H2 => wipe σ2 vs = wipe σ vs ∧ tt σ2 H2 fun b H3 =>
      if b = true then te σ2 H3 fun y H4 => ∃ acc, H4 D = some (.lst acc) ∧ acc.length < sizeLine ∧ Pv (i + 1) (upd H4 D (.lst (acc ++ [y]))) else Pv (i + 1) H3) (hd : ∀ H, Pv xs.length H → Qd H) :
    ∃ W : Nat → Nat → Hp → Prop, (∃ m, W 0 m (upd H1 D (.lst []))) ∧ ∀ i m H, W i m H →
      ((Itz K a b).stop i H ∧ Qd H) ∨ ((Itz K a b).go i H ∧ ∃ Nx : Hp → Prop, (∀ H', Nx H' → ∃ m', m' < m ∧ W (i + 1) m' H') ∧ ∀ x H', (Itz K a b).yld i H x H' → g x (wipe σ vs) H' fun σ2 H2 => wipe σ2 vs = wipe σ vs ∧ tt σ2 H2 fun b H3 =>
        if b = true then te σ2 H3 fun y H4 => ∃ acc, H4 D = some (.lst acc) ∧ acc.length < sizeLine ∧ Nx (upd H4 D (.lst (acc ++ [y]))) else Nx H3) := by
  refine ⟨fun i m H => m = xs.length - i ∧ i ≤ xs.length ∧ Pv i H, ⟨xs.length, by simp, Nat.zero_le _, h0⟩, ?_⟩
  rintro i m H ⟨rfl, hi, p⟩
  obtain ⟨qx, qy⟩ := hq i H p
  by_cases hlt : i < xs.length
  · have hx : xs[i]? = some xs[i] := List.getElem?_eq_getElem hlt
    have hlt2 : i < ys.length := by omega
    have hy : ys[i]? = some ys[i] := List.getElem?_eq_getElem hlt2
    refine .inr ⟨⟨xs, ys, _, _, qx, qy, hx, hy⟩, Pv (i + 1), fun H' p' => ⟨xs.length - (i + 1), by omega, rfl, hlt, p'⟩, fun v H' y => ?_⟩
    obtain ⟨T, x', y', rfl, hT, rfl, f1, f2⟩ := y
    exact hs i x' y' T H (f1 xs qx) (f2 ys qy) p hT
  · have e : i = xs.length := by omega
    subst e
    exact .inl ⟨⟨xs, ys, qx, qy, Or.inl (Nat.le_refl _)⟩, hd H p⟩
theorem pairedTake {α β : Type} {F : α → β → Prop} : ∀ {l : List α} {m : List β} (n : Nat), Paired F l m → Paired F (l.take n) (m.take n)
  | _, _, 0, _ => by rw [List.take_zero, List.take_zero]; exact .nil
  | _, _, _ + 1, .nil => .nil
  | _, _, n + 1, .cons h t => .cons h (pairedTake n t)
theorem pairedDrop {α β : Type} {F : α → β → Prop} : ∀ {l : List α} {m : List β} (n : Nat), Paired F l m → Paired F (l.drop n) (m.drop n)
  | _, _, 0, h => h
  | _, _, _ + 1, .nil => .nil
  | _, _, n + 1, .cons _ t => pairedDrop n t
end Rd

set_option Elab.async false
set_option linter.all false
set_option maxRecDepth 100000
set_option maxHeartbeats 4000000
namespace Rd
open PySem PySem.Spec PyProof.Rows L2 Dt
/-! ### numbers -/
def CPowW (i j : Int) : Prop := 0 ≤ j ∧ (Builtin.Int.intBits i : Int) * j ≤ 2 ^ 27
theorem op_powW {X : Cx} : OpR X (binaryOp .Pow) (rI CPowW fun i j => .int (i ^ j.toNat)) := opI fun _ _ _ _ _ _ _ hc q => pow_int hc.1 hc.2 q
theorem abs_of_bits {a : Int} {n : Nat} (h : Builtin.Int.intBits a ≤ n) : a.natAbs < 2 ^ n := by
  unfold Builtin.Int.intBits at h
  by_cases e : a = 0
  · subst e
    exact Nat.two_pow_pos n
  · have e2 : a.natAbs ≠ 0 := by omega
    have h2 : a.natAbs.log2 + 1 ≤ n := by
      split at h
      · rename_i q
        simp at q
        exact absurd q e
      · exact h
    exact Nat.lt_of_lt_of_le Nat.lt_log2_self (Nat.pow_le_pow_right (by decide) h2)
theorem mix_bits {sd c : Int} {n : Nat} (h0 : 0 ≤ sd) (h1 : sd ≤ 2147483629) (hc : Builtin.Int.intBits c ≤ n) (hn : 47 ≤ n) : Builtin.Int.intBits (sd * 50021 + c) ≤ n + 1 := by
  refine intBits_le ?_
  have a := abs_of_bits hc
  have b : (140737488355328 : Nat) ≤ 2 ^ n := Nat.le_trans (by decide : (140737488355328 : Nat) ≤ 2 ^ 47) (Nat.pow_le_pow_right (by decide) hn)
  rw [Nat.pow_succ]
  generalize (2 : Nat) ^ n = m at a b
  omega

/-! ### the well -/
structure WellC (cs : List Int) (b c : Int) : Prop where
  b0 : 0 ≤ b
  c0 : 0 ≤ c
  c1 : c ≤ 2147483647
  nn : ∀ x ∈ cs, 0 ≤ x
def Well (H : Hp) (wl cl : Addr) : Prop := ∃ (cs : List Int) (b c : Int), H wl = some (.lst [.ref cl, .int b, .int c]) ∧ H cl = some (.lst (cs.map V.int)) ∧ WellC cs b c
theorem Well.ne {H : Hp} {wl cl : Addr} (h : Well H wl cl) : wl ≠ cl := by
  obtain ⟨cs, b, c, h1, h2, _⟩ := h
  refine ne_of h1 h2 fun e => ?_
  cases cs with
  | nil => cases e
  | cons x r => cases e
/-- H' is H but for the well -/
def Drawn (wl cl : Addr) (H H' : Hp) : Prop := (∀ b o, b ≠ wl → b ≠ cl → H b = some o → H' b = some o) ∧ Well H' wl cl
theorem Well.same {H H' : Hp} {wl cl : Addr} (h : Well H wl cl) (s : Same H H') : Well H' wl cl := by
  obtain ⟨cs, b, c, h1, h2, hc⟩ := h
  exact ⟨cs, b, c, s _ _ h1, s _ _ h2, hc⟩
theorem Well.new {H : Hp} {wl cl b : Addr} (h : Well H wl cl) (n : H b = none) : b ≠ wl ∧ b ≠ cl := by
  obtain ⟨cs, x, c, h1, h2, hc⟩ := h
  exact ⟨(ne_of_none h1 n).symm, (ne_of_none h2 n).symm⟩
theorem Well.put {H : Hp} {wl cl b : Addr} {o : HO} (h : Well H wl cl) (n : b ≠ wl ∧ b ≠ cl) : Well (upd H b o) wl cl := by
  obtain ⟨cs, x, c, h1, h2, hc⟩ := h
  exact ⟨cs, x, c, by rw [upd_ne n.1.symm]; exact h1, by rw [upd_ne n.2.symm]; exact h2, hc⟩
theorem Drawn.refl {H : Hp} {wl cl : Addr} (h : Well H wl cl) : Drawn wl cl H H := ⟨fun _ _ _ _ e => e, h⟩
theorem Drawn.trans {H H1 H2 : Hp} {wl cl : Addr} (a : Drawn wl cl H H1) (b : Drawn wl cl H1 H2) : Drawn wl cl H H2 := ⟨fun x o n1 n2 e => b.1 x o n1 n2 (a.1 x o n1 n2 e), b.2⟩
theorem Drawn.same {H H1 H2 : Hp} {wl cl : Addr} (a : Drawn wl cl H H1) (s : Same H1 H2) : Drawn wl cl H H2 := ⟨fun x o n1 n2 e => s _ _ (a.1 x o n1 n2 e), a.2.same s⟩
/-- a store at a place that wasn't there at first -/
theorem Drawn.put {H H1 : Hp} {wl cl b : Addr} {o : HO} (a : Drawn wl cl H H1) (n : H b = none) (nb : b ≠ wl ∧ b ≠ cl) : Drawn wl cl H (upd H1 b o) :=
  ⟨fun x u n1 n2 e => by rw [upd_ne (ne_of_none e n)]; exact a.1 x u n1 n2 e, a.2.put nb⟩
theorem Drawn.tups {H H' : Hp} {wl cl : Addr} (w : Well H wl cl) (a : Drawn wl cl H H') : Tups H H' := fun b xs e => by
  obtain ⟨cs, x, c, h1, h2, hc⟩ := w
  exact a.1 b _ (fun z => by rw [z, h1] at e; cases e) (fun z => by rw [z, h2] at e; cases e) e
theorem Drawn.free {H H' : Hp} {wl cl b : Addr} (w : Well H wl cl) (a : Drawn wl cl H H') (n : H' b = none) : H b = none := by
  cases e : H b with
  | none => rfl
  | some o =>
    obtain ⟨m1, m2⟩ := a.2.new n
    rw [a.1 b o m1 m2 e] at n
    cases n

/-! ### things popped at drawn places -/
structure PopsD {α : Type} (f : α → V) (wl cl : Addr) (H : Hp) (l D : Addr) (zs0 : List α) (i : Nat) (H5 : Hp) (acc ls : List α) : Prop where
  fr : Drawn wl cl H H5
  hL : H5 l = some (.lst (ls.map f))
  hD : H5 D = some (.lst (acc.map f))
  la : acc.length = i
  ll : ls.length + i = zs0.length
  pm : (acc ++ ls).Perm zs0
theorem popD_step {α : Type} {f : α → V} {wl cl : Addr} {H : Hp} {l D : Addr} {zs0 : List α} {i : Nat} {H5 H6 : Hp} {acc ls : List α} {d : Int} (nl : H l = none) (nlt : l ≠ wl ∧ l ≠ cl) (nD : H D = none) (nDt : D ≠ wl ∧ D ≠ cl) (nlD : l ≠ D) (hz : zs0.length ≤ 999) (p : PopsD f wl cl H l D zs0 i H5 acc ls) (D6 : Drawn wl cl H5 H6) (d0 : 0 ≤ d) (d1 : d < (ls.length : Int)) :
    ∃ y, (ls.map f)[d.toNat]? = some y ∧ H6 l = some (.lst (ls.map f)) ∧ seqIndex? d (ls.map f).length = some d.toNat ∧ ∃ acc', upd H6 l (.lst ((ls.map f).eraseIdx d.toNat)) D = some (.lst acc') ∧ acc'.length < sizeLine ∧ ∃ acc2 ls2, PopsD f wl cl H l D zs0 (i + 1) (upd (upd H6 l (.lst ((ls.map f).eraseIdx d.toNat))) D (.lst (acc' ++ [y]))) acc2 ls2 := by
  have hd : d.toNat < ls.length := by omega
  have hL6 := D6.1 l _ nlt.1 nlt.2 p.hL
  have hD6 := D6.1 D _ nDt.1 nDt.2 p.hD
  have la := p.la
  have ll := p.ll
  refine ⟨f ls[d.toNat], map_at (List.getElem?_eq_getElem hd), hL6, seqIndex_of d0 (by rw [List.length_map]; exact d1), acc.map f, ?_, ?_, acc ++ [ls[d.toNat]], ls.eraseIdx d.toNat, ?_, ?_, ?_, ?_, ?_, ?_⟩
  · rw [upd_ne (Ne.symm nlD)]
    exact hD6
  · rw [List.length_map]
    exact small1000 (by omega)
  · exact ((p.fr.trans D6).put nl nlt).put nD nDt
  · rw [upd_ne nlD, upd_same, map_erase]
  · rw [upd_same, List.map_append]
    rfl
  · rw [List.length_append, la]
    rfl
  · rw [List.length_eraseIdx_of_lt hd]
    omega
  · refine List.Perm.trans ?_ p.pm
    rw [List.append_assoc]
    exact List.Perm.append_left acc (erase_perm ls _ hd)
theorem Drawn.tabs {Ps : List Addr} {H H' : Hp} {wl cl : Addr} (w : Well H wl cl) (a : Drawn wl cl H H') (t : Tabs Ps H) : Tabs Ps H' := fun P hP => by
  obtain ⟨ps, hp, ht⟩ := t P hP
  obtain ⟨cs, x, c, h1, h2, hc⟩ := w
  exact ⟨ps, a.1 P _ (fun z => by rw [z, h1] at hp; cases hp) (fun z => by rw [z, h2] at hp; cases hp) hp, ht⟩
theorem FrS.well {Ps : List Addr} {H H' : Hp} {wl cl : Addr} (t : Tabs Ps H) (f : FrS Ps H H') (w : Well H wl cl) : Well H' wl cl := by
  obtain ⟨cs, x, c, h1, h2, hc⟩ := w
  exact ⟨cs, x, c, f.1 _ _ (t.lst h1) h1, f.1 _ _ (t.lst h2) h2, hc⟩
theorem Drawn.lst {H H' : Hp} {wl cl : Addr} (a : Drawn wl cl H H') {b : Addr} {xs : List V} (n : b ≠ wl ∧ b ≠ cl) (e : H b = some (.lst xs)) : H' b = some (.lst xs) := a.1 b _ n.1 n.2 e
theorem eqv_nil_cons (z : Int) (r : List Int) : PyData.eqv (.list ((z :: r).map PyData.int)) (.list []) = false := by
  simp [PyData.eqv, PyData.eqvAll]
theorem eqv_nil_nil : PyData.eqv (.list (([] : List Int).map PyData.int)) (.list []) = true := by
  simp [PyData.eqv, PyData.eqvAll]
def rInt1 : List V → Hp → VK → Prop := fun xs H Q => (∃ i, xs = [.int i] ∧ Q (.int i) H) ∨ ∃ k, xs = [.bl k] ∧ Q (.int (if k then 1 else 0)) H
theorem lc_enumL {K : PySem.W.Frag} {a : Addr} {xs : List V} {g : TG} {tt : TT} {te : TE} {vs : List Nat} {σ : L2.St} {H1 : Hp} {D : Addr} {Qd : Hp → Prop} (Pv : Nat → Hp → Prop) (h0 : Pv 0 (upd H1 D (.lst []))) (hl : ∀ i H, i ≤ xs.length → Pv i H → SqL K H a xs)
    (hs : ∀ i x H T, xs[i]? = some x → Pv i H → H T = none → g (.ref T) (wipe σ vs) (upd H T (.tup [.int (i : Nat), x])) fun σ2 H2 => wipe σ2 vs = wipe σ vs ∧ tt σ2 H2 fun b H3 =>
      if b = true then te σ2 H3 fun y H4 => ∃ acc, H4 D = some (.lst acc) ∧ acc.length < sizeLine ∧ Pv (i + 1) (upd H4 D (.lst (acc ++ [y]))) else Pv (i + 1) H3) (hd : ∀ H, Pv xs.length H → Qd H) :
    ∃ W : Nat → Nat → Hp → Prop, (∃ m, W 0 m (upd H1 D (.lst []))) ∧ ∀ i m H, W i m H →
      ((Ite K a).stop i H ∧ Qd H) ∨ ((Ite K a).go i H ∧ ∃ Nx : Hp → Prop, (∀ H', Nx H' → ∃ m', m' < m ∧ W (i + 1) m' H') ∧ ∀ x H', (Ite K a).yld i H x H' → g x (wipe σ vs) H' fun σ2 H2 => wipe σ2 vs = wipe σ vs ∧ tt σ2 H2 fun b H3 =>
        if b = true then te σ2 H3 fun y H4 => ∃ acc, H4 D = some (.lst acc) ∧ acc.length < sizeLine ∧ Nx (upd H4 D (.lst (acc ++ [y]))) else Nx H3) := by
  refine ⟨fun i m H => i + m = xs.length ∧ Pv i H, ⟨xs.length, by omega, h0⟩, ?_⟩
  rintro i m H ⟨e, p⟩
  have q := hl i H (by omega) p
  by_cases c : i < xs.length
  · refine .inr ⟨⟨xs, xs[i], q, List.getElem?_eq_getElem c⟩, Pv (i + 1), fun H' p' => ⟨m - 1, by omega, by omega, p'⟩, fun v H' hy => ?_⟩
    obtain ⟨T, x, rfl, nT, rfl, fx⟩ := hy
    exact hs i x H T (fx xs q) p nT
  · have e2 : i = xs.length := by omega
    subst e2
    exact .inl ⟨⟨xs, q, Nat.le_refl _⟩, hd H p⟩
theorem bumpA_get {tk ps : List Int} {i : Nat} {x : Int} (nd : ps.Nodup) (pl : ∀ p ∈ ps, 0 ≤ p ∧ p < (tk.length : Int)) (h : tk[i]? = some x) : ∃ y, (bumpA tk ps)[i]? = some y ∧ y = x + (if (i : Int) ∈ ps then 1 else 0) := by
  have hi : i < tk.length := (List.getElem?_eq_some_iff.mp h).1
  have bl : ∀ (ps tk : List Int), (bumpA tk ps).length = tk.length := fun ps => by
    unfold bumpA
    induction ps with
    | nil => intro tk; rfl
    | cons p r ih => intro tk; rw [List.foldl_cons, ih, bump_len]
  have hi2 : i < (bumpA tk ps).length := by rw [bl]; exact hi
  refine ⟨(bumpA tk ps)[i], List.getElem?_eq_getElem hi2, ?_⟩
  have z := atF_bumpA ps tk (i : Int) nd pl (by omega)
  unfold atF at z
  rw [Int.toNat_natCast, getD_get hi2, getD_of h] at z
  exact z
end Rd

set_option Elab.async false
set_option linter.all false
set_option maxRecDepth 100000
set_option maxHeartbeats 4000000
/-! an exception that is caught and kept: try / except x as n, the exception's object tracked from then on -/
namespace Rd
open PySem PySem.Spec PyProof.Rows L2 Dt
/-- the object of an exception, of which the class and the dict are known -/
def ExD (cls : Value) (d : Option Addr) (a : Addr) : HO := .ext fun h => ∃ (oe : Obj) (vs : Array Value), h.get? a = some oe ∧ Zc cls d oe ∧ oe.data = .fields vs
theorem exD_ok {P : Program} {w : World} {H : Hp} {h : Heap} {a : Addr} {cls : Value} {d : Option Addr} {oe : Obj} {vs : Array Value} (e : h.get? a = some oe) (z : Zc cls d oe) (y : oe.data = .fields vs) : ObjOk P w H h a (ExD cls d a) :=
  ⟨⟨oe, vs, e, z, y⟩, ⟨oe, e⟩, fun h1 h2 ⟨o', vs', e', z', y'⟩ k => ⟨o', vs', k _ e', z', y'⟩⟩
section
variable {X : Cx} {pins : List (Addr × Obj)} {σ : L2.St} {H : Hp} {s : Shared}
theorem track_ok (I : Inv X pins σ H s) {a : Addr} {o : HO} (na : H a = none) (n0 : X.s_0.heap.get? a = none) (nL : a ≠ X.env.locals) (nC : ∀ x c, X.env.cells.lookup x = some c → c ≠ a) (nP : ∀ p ∈ X.pn ++ pins, p.1 ≠ a) (new : ObjOk X.prog X.w (upd H a o) s.heap a o) : Inv X pins σ (upd H a o) s :=
  ⟨I.ok, I.os, I.bare, ⟨I.base.keep, I.base.slot, fun b u e n hx => by
      rw [upd_ne (fun z => by rw [z, n0] at e; cases e)]
      exact I.base.free b u e n hx, I.base.there, fun b xs e => by
      have q := I.base.tups b xs e
      rw [upd_ne (ne_of_none q na)]
      exact q, fun b u xs e => by
      have q := I.base.frzs b u xs e
      rw [upd_ne (ne_of_none q na)]
      exact q, fun b ps e => by
      obtain ⟨more, q⟩ := I.base.tbls b ps e
      exact ⟨more, by rw [upd_ne (ne_of_none q na)]; exact q⟩⟩, I.loc, I.cell, by
    rw [upd_ne (Ne.symm nL)]
    exact I.free, fun x c e => by
    rw [upd_ne (nC x c e)]
    exact I.freeC x c e, fun p hp => by
    obtain ⟨p1, p2, p3⟩ := I.pin p hp
    exact ⟨p1, by rw [upd_ne (nP p hp)]; exact p2, p3⟩, I.hok.laidN (fun _ _ e => e) na new, I.len⟩
end
/-- the clause 'except x as n', the exception tracked in its suite and behind it -/
def wKeep (K : PySem.W.Frag) (c : Value) (i : Nat) (ts : Addr → TS) (Wout : WX) (D : Ends) : WX := fun cls d σ H =>
  ∃ b, PySem.W.exmOne K cls c = some b ∧ (b = true → ∀ a, H a = none → ts a { nx := fun σ' H' => D.nx (σ'.set i none) H', rt := D.rt, bk := fun σ' H' => D.bk (σ'.set i none) H', ct := fun σ' H' => D.ct (σ'.set i none) H' } (σ.set i (some (.ref a))) (upd H a (ExD cls d a))) ∧ (b = false → Wout cls d σ H)
section
variable {X : Cx} {x n : Str} {c : Value} {i : Nat} {body suite : List Stmt} {b₀ : Stmt} {np pos pos' : Pos} {tb : WX → TS} {ts : Addr → TS} {Wout : WX}
theorem ps_try_keep (hex : X.ex = []) (hs : X.stack = X.env :: X.outer) (hf : X.env.frame = some X.env.locals) (hN : X.N.Nodup) (hi : X.N[i]? = some n) (hln : X.env.kindOf n = some .local) (hc : Names X x c) (tk : Takes X Wout)
    (hb : ∀ (W : WX) (pn : List (Addr × Obj)) (xe : Value → Shared → Prop), Takes (X.tr pn xe) W → PassesOwn (model X.prog X.w) X.A X.env xe → PSs (X.tr pn xe) body (tb W)) (hsu : ∀ (a : Addr) (pn : List (Addr × Obj)), PSs (X.suite a pn) (b₀ :: suite) (ts a)) :
    PS X (.Try body [.ExceptHandler (some (.Name x np)) (some n) (b₀ :: suite) pos'] [] [] pos) (fun D σ H => tb (wKeep X.K c i ts Wout D) D σ H) := ⟨fun pins s σ H D I h => by
  have ok := I.ok; have hfr : X.A.frames = some (X.env :: X.outer) := (by rw [ok.frames, hs])
  have hloc : Loc X.env.scope n := .inl hln; refine wpAny_Try_except ?_
  refine wpAny_mono ((hb (wKeep X.K c i ts Wout D) (X.pn ++ pins) (fun e s₁ => wpAny (model X.prog X.w) X.A (noteFrame e X.env) (fun _ s₂ => wpAny (model X.prog X.w) X.A (setFlight e none) (fun _ s₃ => wpAny (model X.prog X.w) X.A (handleBy e X.env [.ExceptHandler (some (.Name x np)) (some n) (b₀ :: suite) pos']) (SP X pins D) X.xe s₃) X.xe s₂) X.xe s₁) (fun u s' xx => ?_) PassesOwn.looking).run [] s σ H D (I.toTry _) h) (fun f s1 hsp => ?_) (fun e s1 he => he)
  · obtain ⟨a, B, sI, pins', σ', H', cls, d, rfl, J', nb, up, sky, na, os, ag, b, hb1, hyes, hno⟩ := xx; have J : Inv X pins σ' H' sI := J'.ofTry ok
    have sky' : Sky B (X.env :: X.outer) a (Zc cls d) X.env.locals s'.heap := (by rw [← hs]; exact sky)
    show wpAny (model X.prog X.w) X.A (noteFrame (.ref a) X.env) _ _ _; refine Sky.land Zc.steady hfr hf sky' fun h3 fl3 up3 => ?_
    have J3 : Inv X pins σ' H' { s' with heap := h3 } := J.landed nb fl3.1 (up.trans up3) os ag; obtain ⟨oe3, vs3, he3, hz3, hd3⟩ := fl3.there
    have nfr : a ∉ frs (X.env :: X.outer) := fun hm => by
      obtain ⟨_, o', e', hnf⟩ := fl3.2.2.1.mem hm; rw [he3] at e'; cases e'; exact hnf _ hd3
    have nL : a ≠ X.env.locals := fun z => nfr (List.mem_filterMap.mpr ⟨X.env, List.mem_cons_self, by rw [hf, z]⟩); have nF : a ∉ X.fs := fun hm => (by
      obtain ⟨e, he, q⟩ := List.mem_filterMap.mp hm
      exact nfr (List.mem_filterMap.mpr ⟨e, List.mem_cons_of_mem _ he, q⟩))
    have nI : sI.heap.get? a = none := by
      cases q : sI.heap.get? a with
      | none => rfl
      | some o =>
        have z := nb a o q (by rw [hs]; exact nfr)
        rw [fl3.2.1] at z
        cases z
    have n0 : X.s_0.heap.get? a = none := by
      cases q : X.s_0.heap.get? a with
      | none => rfl
      | some o =>
        obtain ⟨o', z⟩ := J.base.there a o q (by rw [hex]; exact List.not_mem_nil)
        rw [nI] at z
        cases z
    have nC : ∀ y z, X.env.cells.lookup y = some z → z ≠ a := fun y z e q => by
      obtain ⟨v, o, eo, _⟩ := J.cell y z e
      rw [q, nI] at eo
      cases eo
    have nP : ∀ p ∈ X.pn ++ pins, p.1 ≠ a := fun p hp q => by
      have e := (J.pin p hp).1
      rw [q, nI] at e
      cases e
    have S3 := J3.suite he3 hd3 na nL nF; refine wpAny_handleBy_cons (codeAny_handlers_test ?_) (by intro q; cases q)
    have LT : PySem.W.Looks (model X.prog X.w) h3 (typeOf (.ref a)) cls := fun A Q E s k q => wpAny_typeOf_ref (k _ _ he3) (by rw [hz3.1]; exact q); have LM := PySem.W.exm_one (M := model X.prog X.w) (J3.kIn) LT hb1
    have test : ∀ {Q : Value → Shared → Prop} {E : Value → Shared → Prop}, Q c { s' with heap := h3 } → wpAny (model X.prog X.w) (X.A.mark (some (.ref a))) (eval (.Name x np) X.env) Q E { s' with heap := h3 } := fun {Q E} q => (by
      obtain ⟨hg, hdbg, hm | ⟨hm, hv, hnn⟩⟩ := hc
      · exact ld_glob (X := X.suite a ((a, oe3) :: (X.pn ++ pins))) S3 hg hm q hdbg
      · exact ld_blt (X := X.suite a ((a, oe3) :: (X.pn ++ pins))) S3 hg hm hv q hnn hdbg)
    refine test (LM.here ?_); cases b with
    | true =>
      refine codeAny_handlers_suite_as (HandSPX.lands_againZ fl3 fun h4 fl4 up4 => ?_)
      have J4 : Inv X pins σ' H' { s' with heap := h4 } := J.landed nb fl4.1 ((up.trans up3).trans up4) os ag; obtain ⟨oe4, vs4, he4, hz4, hd4⟩ := fl4.there
      have T4 : Inv X pins σ' (upd H' a (ExD cls d a)) { s' with heap := h4 } := track_ok J4 na n0 nL nC nP (exD_ok he4 hz4 hd4)
      have S4 : Inv (X.suite a (X.pn ++ pins)) [] σ' (upd H' a (ExD cls d a)) { s' with heap := h4 } := ⟨ok.suite _ _, T4.os, T4.bare, T4.base, T4.loc, T4.cell, T4.free, T4.freeC, fun p hp => T4.pin p (by rw [List.append_nil] at hp; exact hp), T4.hok, T4.len⟩
      refine store_ok (X := X.suite a (X.pn ++ pins)) (v := .ref a) S4 hN hi hloc rfl (fun s5 S5 => ?_) (.inr hln)
      refine wpAny_mono ((hsu a (X.pn ++ pins)).run [] s5 _ _ _ S5 (hyes rfl a na)) (fun f s6 hsp => ?_) (fun _ _ z => False.elim z)
      have back : ∀ {σ6 : L2.St} {H6 : Hp} {Q : Shared → Prop}, Inv (X.suite a (X.pn ++ pins)) [] σ6 H6 s6 → (∀ s7, Inv X pins (σ6.set i none) H6 s7 → Q s7) → wpAny (model X.prog X.w) X.A (do bindName X.env n .none; unbindBehindTheSuite X.env n pos') (fun _ s7 => Q s7) X.xe s6 := fun {σ6 H6 Q} S6 hq =>
        gone_ok (X := X) (pins := pins) ⟨ok, S6.os, S6.bare, S6.base, S6.loc, S6.cell, S6.free, S6.freeC, fun p hp => S6.pin p (List.mem_append_left _ hp), S6.hok, S6.len⟩ hN hi hln hq
      cases f with
      | ret u => obtain ⟨v6, σ6, H6, S6, r6, q6⟩ := hsp; exact back S6 fun s7 J7 => ⟨_, _, _, J7, r6, q6⟩
      | next => obtain ⟨σ6, H6, S6, q6⟩ := hsp; exact back S6 fun s7 J7 => ⟨_, _, J7, q6⟩
      | brk => obtain ⟨σ6, H6, S6, q6⟩ := hsp; exact back S6 fun s7 J7 => ⟨_, _, J7, q6⟩
      | cont => obtain ⟨σ6, H6, S6, q6⟩ := hsp; exact back S6 fun s7 J7 => ⟨_, _, J7, q6⟩
    | false =>
      show wpAny _ X.A (handleBy (.ref a) X.env []) _ _ _; refine wpAny_handleBy_nil ?_; obtain ⟨k1, k2, k3, oe, vs, T, oT, ts', he, hz, hd, h1, hr⟩ := id fl3
      unfold PySem.passOn; refine wpAny_bind (wpAny_field he hd h1 ?_); rw [if_neg (show ¬ ((Value.ref T == Value.none) = true) from by simp)]
      have fin : wpAny (model X.prog X.w) X.A (setFlight (.ref a) X.env.frame) (fun _ s4 => wpAny (model X.prog X.w) X.A (throw (.ref a) : Sem Flow) (SP X pins D) X.xe s4) X.xe { s' with heap := h3 } := (by
        rw [hf]; refine HandSPX.setFlight_upZ fl3 fun h4 hh4 up4 => wpAny_throw (tk _ _ ?_)
        exact ⟨a, B, sI, pins, σ', H', cls, d, rfl, J, nb, (up.trans up3).trans up4, .inr (.inr (by rw [hs]; exact hh4)), na, os, ag, hno rfl⟩)
      first | exact wpAny_bind (wpAny_pure (wpAny_bind fin)) | exact wpAny_bind fin
  · cases f with
    | ret u => obtain ⟨v, σ', H', J', r, q⟩ := hsp; exact ⟨v, σ', H', J'.ofTry ok, r, q⟩
    | next => obtain ⟨σ', H', J', q⟩ := hsp; exact wpAny_execs_nil ⟨σ', H', J'.ofTry ok, q⟩
    | brk => obtain ⟨σ', H', J', q⟩ := hsp; exact ⟨σ', H', J'.ofTry ok, q⟩
    | cont => obtain ⟨σ', H', J', q⟩ := hsp; exact ⟨σ', H', J'.ofTry ok, q⟩⟩
end
end Rd

set_option Elab.async false
set_option linter.all false
set_option maxRecDepth 100000
set_option maxHeartbeats 4000000
/-! the refusals' classes; isinstance of one that was caught; calls that may let one out -/
namespace Rd
open PySem PySem.Spec PyProof.Rows L2 Dt
theorem pe_gref {X : Cx} {x : Str} {a : Addr} {pos : Pos} (hg : Gl X x) (hm : X.mg x = some (.ref a)) (hd : (x == ("__debug__" : Str)) = false := by decide) : PE X (.Name x pos) (tC (.ref a)) := pe_glob hg hm rfl hd
def rIsD (K : PySem.W.Frag) : List V → Hp → VK → Prop := fun xs H Q => ∃ (a D : Addr) (c : V) (cv : Value) (b : Bool), xs = [.ref a, c] ∧ H a = some (ExD (.ref D) none a) ∧ ExcC K D ∧ ClsV c cv ∧ PySem.W.kitOne K (.ref D) cv = some b ∧ Q (.bl b) H
theorem call_isD {X : Cx} : CallR X (.builtin "isinstance") (rIsD X.K) := by
  intro pins s σ H xs us Q I r h
  obtain ⟨a, D, c, cv, b, rfl, ha, C, k, e, q⟩ := h
  obtain ⟨u1, u2, rfl, r1, r2⟩ := vals2 r
  have e2 := k.eq r2
  subst e2
  cases (show u1 = Value.ref a from r1)
  obtain ⟨⟨oe, vs, hget, hz, hd⟩, _, _⟩ := I.hok a _ ha
  have J : PySem.W.InstAt s.heap a oe D none := by
    obtain ⟨oc, od, oda, osl⟩ := oe
    obtain ⟨h1, h2⟩ := hz
    dsimp only at h1 h2 hd
    subst h1 h2 hd
    exact ⟨hget, rfl, rfl, trivial⟩
  exact PySem.W.kia_one (PySem.W.handS_kitx_exc C.hg C.hk C.hs C.hd C.ha C.hn C.ht C.hm) I.kIn J e (fun z => nomatch z) fun tk => ⟨.bl b, H, I.tok tk, rfl, q⟩
/-- the classes: the eleven refusals as _law_kinds names them, then the one above -/
structure ClsX (K : PySem.W.Frag) (mg : Str → Option Value) (C : Nat → Addr) : Prop where
  g_NoEnd : mg "NoEnd" = some (.ref (C 0))
  g_NoLog : mg "NoLog" = some (.ref (C 1))
  g_NoName : mg "NoName" = some (.ref (C 2))
  g_NoRow : mg "NoRow" = some (.ref (C 3))
  g_NoStep : mg "NoStep" = some (.ref (C 4))
  g_NoTable : mg "NoTable" = some (.ref (C 5))
  g_NoText : mg "NoText" = some (.ref (C 6))
  g_NoWish : mg "NoWish" = some (.ref (C 7))
  g_Spent : mg "Spent" = some (.ref (C 8))
  g_Told : mg "Told" = some (.ref (C 9))
  g_TooMany : mg "TooMany" = some (.ref (C 10))
  g_DrawError : mg "DrawError" = some (.ref (C 11))
  m_isinstance : mg "isinstance" = none
  m_ValueError : mg "ValueError" = none
  x : ∀ i, i < 12 → PySem.W.excIn K (C i) [.type "ValueError", .type "Exception", .type "BaseException", .type "object"] "ValueError.__new__" = true
  k : ∀ i, i < 12 → PySem.W.keepIn K (.ref (C i)) = true
  e : ∀ i, i < 12 → ExcC K (C i)
  kit : ∀ i, i < 12 → ∀ j, j < 11 → PySem.W.kitOne K (.ref (C i)) (.ref (C j)) = some (decide (i = j))
  kitV : ∀ i, i < 12 → PySem.W.kitOne K (.ref (C i)) (.type "ValueError") = some true
  ty : ∀ i, i < 12 → PySem.W.typeIn K (.ref (C i)) = some (.type "type")
  exm : ∀ i, i < 12 → PySem.W.exmOne K (.ref (C i)) (.ref (C 11)) = some true
theorem ClsX.raises {K : PySem.W.Frag} {mg : Str → Option Value} {C : Nat → Addr} (T : ClsX K mg C) {X : Cx} (hK : X.K = K) {i : Nat} (hi : i < 12) : Raises X (.ref (C i)) := raises_own (by rw [hK]; exact (T.e i hi).hs) (by rw [hK]; exact T.ty i hi)
/-- a def that may raise -/
def CalX (P : Program) (w : World) (K : PySem.W.Frag) (mg : Str → Option Value) (base : Heap) (k : Nat) (x : Str) (ps : List Str) (sp : Sp) : Prop :=
  ∃ (f : Addr) (fd : FuncData), FnOk P w K mg base (L2.CX P w) k f fd ps sp ∧ mg x = some (.ref f) ∧ PySem.W.keepIn K (.ref f) = true ∧ Binds K fd ps []
theorem pe_calX {X : Cx} {W : WX} {k : Nat} {x : Str} {ps : List Str} {sp : Sp} {p pos : Pos} {e : Expr} {es : List Expr} {t : TA} (C : CalX X.prog X.w X.K X.mg X.base k x ps sp) (hr : Room k X.A) (tk : Takes X W) (hg : Gl X x)
    (ha : PA X (e :: es) t) (hdb : (x == ("__debug__" : Str)) = false := by decide) (he : starEach (e :: es) X.env = (false, eval e X.env) :: starEach es X.env := by rfl) (hpl : (backTo pos (starEach es X.env)).any (·.1) = false := by rfl) : PE X (.Call (.Name x p) (e :: es) [] pos) (tCallS sp (WE W) t) := by
  obtain ⟨f, fd, F, hm, hk, hb⟩ := C
  exact pe_callS F hr hg hm hk hb (passAt tk) ha hdb he hpl
/-- of what _law_kinds tells -/
def kindsB (i : Nat) : List Bool := ((List.range 11).map fun j => decide (i = j)) ++ [true]
def spKnd (C : Nat → Addr) : Sp := fun vs H Q _ => ∃ (a : Addr) (i : Nat), vs = [.ref a] ∧ i < 12 ∧ H a = some (ExD (.ref (C i)) none a) ∧
  ∀ H' p, Same H H' → H p = none → H' p = some (.lst ((kindsB i).map V.bl)) → Q (.ref p) H'
end Rd

set_option Elab.async false
set_option linter.all false
set_option maxRecDepth 100000
set_option maxHeartbeats 4000000
/-! defs that repr is called in: run where no repr is under way; isinstance of one that was caught, with a tuple of classes -/
namespace Rd
open PySem PySem.Spec PyProof.Rows L2 Dt
structure FnG (P : Program) (w : World) (K : PySem.W.Frag) (mg : Str → Option Value) (base : Heap) (k : Nat) (f : Addr) (fd : FuncData) (ps : List Str) (sp : Sp) : Prop where
  len : ∀ vs H Q E, sp vs H Q E → vs.length = ps.length
  run : ∀ (A : Around) (outer : List Env) (s : Shared) (H : Hp) (args : Args) (us : List Value) (vs : List V) (Q : VK), A.guards = some [] → Room k A → Env0 P w K mg base A outer s H → BindsTo s fd args (ps.zip us) → Vals vs us → sp vs H Q E0 →
    codeAny (model P w) A (.call (.ref f) args) (CR CX0 outer P w H s Q E0) s
theorem Fun.okG {P : Program} {w : World} {K : PySem.W.Frag} {mg : Str → Option Value} {base : Heap} {x qual : Str} {st : Stmt} {f : Addr} {fd : FuncData} {N ps : List Str} {k : Nat} {sp : Sp} (F : Fun K x qual st f fd) (S : FnScope N ps (defScope st)) (len : ∀ vs H Q E, sp vs H Q E → vs.length = ps.length)
    (body : ∀ (cdv : Value) (A : Around) (outer : List Env) (s : Shared) (H : Hp) (vs : List V) (Q : VK), A.guards = some [] → Room k (A.deeper (envOfC qual (defScope st) s.heap.objs.size f cdv)) → sp vs H Q E0 →
      ∃ t, PSs (cxOf CX0 P w K mg base N qual (defScope st) f cdv A outer s H E0).nox (defBody st) t ∧ t { nx := fun _ H' => Q .non H', rt := Q } (start N vs) H) : FnG P w K mg base (k + 1) f fd ps sp :=
  ⟨len, fun A outer s H args us vs Q hg hr e0 hb r hsp => Lg.run_at F S hr e0 hb r (len _ _ _ _ hsp) fun cdv hr' => body cdv A outer s H vs Q hg hr' hsp⟩
def CalG (P : Program) (w : World) (K : PySem.W.Frag) (mg : Str → Option Value) (base : Heap) (k : Nat) (x : Str) (ps : List Str) (sp : Sp) : Prop :=
  ∃ (f : Addr) (fd : FuncData), FnG P w K mg base k f fd ps sp ∧ mg x = some (.ref f) ∧ PySem.W.keepIn K (.ref f) = true ∧ Binds K fd ps []
theorem pe_calG {X : Cx} {k : Nat} {x : Str} {ps : List Str} {sp : Sp} {p pos : Pos} {e : Expr} {es : List Expr} {t : TA} (C : CalG X.prog X.w X.K X.mg X.base k x ps sp) (gd : X.A.guards = some []) (hr : Room k X.A) (hg : Gl X x)
    (ha : PA X (e :: es) t) (hdb : (x == ("__debug__" : Str)) = false := by decide) (he : starEach (e :: es) X.env = (false, eval e X.env) :: starEach es X.env := by rfl) (hpl : (backTo pos (starEach es X.env)).any (·.1) = false := by rfl) :
    PE X (.Call (.Name x p) (e :: es) [] pos) (tCallS sp (fun _ => E0) t) := by
  obtain ⟨f, fd, F, hm, hk, hb⟩ := C
  constructor
  intro pins s σ H Q I h
  apply wpAny_Call_Name_kw
  apply ld_glob I hg hm _ hdb
  apply PySem.W.callWith_K (h₀ := X.base) I.ok.mod.kin hk _ he hpl
  refine thn (ha.run pos pins s σ H _ I h) ?_
  rintro us s1 ⟨vs, H1, I1, rv, qv⟩
  have lv := F.len _ _ _ _ qv
  have bd := hb s1 us I1.kIn (by rw [List.append_nil, ← rv.length]; exact lv)
  rw [List.append_nil] at bd
  have run := F.run X.A X.stack s1 H1 ⟨us, []⟩ us vs Q gd hr I1.env0 bd rv qv
  exact ⟨I1.kIn, wpAny_call (codeAny_mono run fun res s2 out => match res, out with
    | .ok (.ret u), out => I1.after out
    | .ok .next, out => out.elim
    | .ok .brk, out => out.elim
    | .ok .cont, out => out.elim
    | .error _, out => False.elim out)⟩
/-- isinstance of one that was caught, with a tuple of classes -/
def rIsDT (K : PySem.W.Frag) : List V → Hp → VK → Prop := fun xs H Q => ∃ (a D tp : Addr) (cs : List Addr) (b : Bool), xs = [.ref a, .ref tp] ∧ H a = some (ExD (.ref D) none a) ∧ ExcC K D ∧ SqT K H tp (cs.map V.ref) ∧ PySem.W.kitAny K (.ref D) (cs.map Value.ref) = some b ∧ Q (.bl b) H
theorem vals_refs : ∀ {cs : List Addr} {us : List Value}, Vals (cs.map V.ref) us → us = cs.map Value.ref
  | [], _, h => by cases h; rfl
  | c :: q, _, h => by
    cases h with
    | cons h1 h2 =>
      rw [vals_refs h2]
      cases (show _ = Value.ref c from h1)
      rfl
theorem call_isDT {X : Cx} : CallR X (.builtin "isinstance") (rIsDT X.K) := by
  intro pins s σ H xs us Q I r h
  obtain ⟨a, D, tp, cs, b, rfl, ha, C, ht, e, q⟩ := h
  obtain ⟨u1, u2, rfl, r1, r2⟩ := vals2 r
  cases (show u1 = Value.ref a from r1)
  cases (show u2 = Value.ref tp from r2)
  obtain ⟨its, o, n, vi, ho, hc, hd⟩ := sqT_at I.hok I.kIn ht
  obtain ⟨tc, td, tda, tsl⟩ := o
  dsimp only at hc hd
  subst hc hd
  rw [← vals_refs vi] at e
  obtain ⟨⟨oe, vs, hget, hz, hx⟩, _, _⟩ := I.hok a _ ha
  have J : PySem.W.InstAt s.heap a oe D none := by
    obtain ⟨oc, od, oda, osl⟩ := oe
    obtain ⟨h1, h2⟩ := hz
    dsimp only at h1 h2 hx
    subst h1 h2 hx
    exact ⟨hget, rfl, rfl, trivial⟩
  exact PySem.W.kia_tup (PySem.W.handS_kitx_exc C.hg C.hk C.hs C.hd C.ha C.hn C.ht C.hm) I.kIn J ho e (fun z => nomatch z) fun tk => ⟨.bl b, H, I.tok tk, rfl, q⟩
/-- none of them -/
theorem kit_none {K : PySem.W.Frag} {t : Value} : ∀ {cs : List Value}, (∀ c ∈ cs, PySem.W.kitOne K t c = some false) → PySem.W.kitAny K t cs = some false
  | [], _ => rfl
  | c :: q, h => by
    rw [PySem.W.kitAny.eq_2, h c List.mem_cons_self]
    exact kit_none fun d hd => h d (List.mem_cons_of_mem _ hd)
/-! repr of what is no container -/
def rRepS : List V → Hp → VK → Prop := fun xs H Q => (xs = [.non] ∧ Q (.str "None") H) ∨ (∃ i, xs = [.int i] ∧ i.natAbs.log2 < 1920 ∧ Q (.str (Str.ofString (toString i))) H) ∨ (∃ b, xs = [.bl b] ∧ Q (.str (if b = true then "True" else "False")) H) ∨
  ∃ z : Str, xs = [.str z] ∧ (reprText z).length ≤ sizeLine ∧ Q (.str (reprText z)) H
theorem call_reprS {X : Cx} : CallR X (.builtin "repr") rRepS := by
  intro pins s σ H xs us Q I r h
  rcases h with ⟨rfl, q⟩ | ⟨i, rfl, hi, q⟩ | ⟨b, rfl, q⟩ | ⟨z, rfl, hz, q⟩
  · obtain ⟨u, rfl, ru⟩ := vals1 r
    cases (show u = Value.none from ru)
    exact PySem.P.repr_of_none ⟨.str "None", H, I.tok _, ⟨_, rfl⟩, q⟩
  · obtain ⟨u, rfl, ru⟩ := vals1 r
    obtain ⟨tk, rfl⟩ := (show ∃ tk, u = Value.int i tk from ru)
    exact PySem.P.repr_of_int hi ⟨.str (Str.ofString (toString i)), H, I.tok _, ⟨_, rfl⟩, q⟩
  · obtain ⟨u, rfl, ru⟩ := vals1 r
    cases (show u = Value.bool b from ru)
    refine PySem.P.repr_of_bool ⟨.str (if b = true then "True" else "False"), H, I.tok _, ⟨_, rfl⟩, ?_⟩
    exact q
  · obtain ⟨u, rfl, ru⟩ := vals1 r
    obtain ⟨tk, rfl⟩ := (show ∃ tk, u = Value.str z tk from ru)
    exact PySem.P.repr_of_str ⟨.str (reprText z), H, I.tok _, ⟨_, rfl⟩, q⟩ hz
/-! repr of {text: number} -/
def rRepD (K : PySem.W.Frag) : List V → Hp → VK → Prop := fun xs H Q => ∃ (a : Addr) (z : Str) (i : Int), xs = [.ref a] ∧ H a = some (.dK [(.inr z, .int i)]) ∧ (PyData.dict [(.str z, .int i)]).showable = true ∧ (PyData.dict [(.str z, .int i)]).shown.length ≤ sizeLine ∧ Q (.str (PyData.dict [(.str z, .int i)]).shown) H
theorem call_reprD {X : Cx} (hg : X.A.guards = some []) (hu : X.A.units + 64 < cLine) : CallR X (.builtin "repr") (rRepD X.K) := by
  intro pins s σ H xs us Q I r h
  obtain ⟨a, z, i, rfl, ha, h1, h4, q⟩ := h
  obtain ⟨u, rfl, ru⟩ := vals1 r
  cases (show u = Value.ref a from ru)
  obtain ⟨_, nm, vs, kv, o, es, ep, ho, hx, hd, hk, hp, _⟩ := I.hok a _ ha
  have rd : Reads s.heap (.ref a) (.dict [(.str z, .int i)]) (a :: [] ++ []) := by
    cases kv with
    | cons k1 k2 =>
      cases k2
      obtain ⟨e1, e2⟩ := k1
      obtain ⟨tk, e2⟩ := (show ∃ tk, _ = Value.int i tk from e2)
      generalize hel : es.toList = el at hp
      cases hp with
      | cons p1 p2 p3 =>
        rename_i de es'
        cases p3
        rw [← e1] at p1
        rw [e2] at p2
        obtain ⟨tk2, ek⟩ : ∃ tk2, de.key = Value.str z tk2 := by
          have p1 : Value.isStrOf z de.key = true := p1
          cases hk0 : de.key with
          | str y t2 =>
            rw [hk0] at p1
            refine ⟨t2, ?_⟩
            have : y = z := by simpa [Value.isStrOf] using p1
            rw [this]
          | _ => rw [hk0] at p1; simp [Value.isStrOf] at p1
        refine .dict ho hx.1 hd ?_ ?_
        · rw [hel]
          show ReadsAll _ [de.key] [PyData.str z] []
          rw [ek]
          exact .cons (.str z tk2) .nil
        · rw [hel]
          show ReadsAll _ [de.val] [PyData.int i] []
          rw [p2]
          exact .cons (.int i tk) .nil
  refine repr_of_reads' rd h1 (fun _ m => ?_) hg (by simp [PyData.depth, PyData.depthKv]; omega) (fun _ _ e => e) (fun h' u tk hk => ?_) h4
  · have : sysModules = a := by simpa using m
    rw [this] at nm
    simp at nm
  · exact ⟨.str _, H, I.kept (t' := _) hk, ⟨_, rfl⟩, q⟩
/-! repr of any of these -/
def RepV (K : PySem.W.Frag) (H : Hp) (v : V) (r : Str) : Prop := (∀ (X : List V → Hp → VK → Prop), X = rRepS → ∀ Q : VK, Q (.str r) H → X [v] H Q) ∨
  (∃ (a : Addr) (d : PyData), v = .ref a ∧ Dp K H (.ref a) d ∧ d.showable = true ∧ d.hasDict = false ∧ d.depth < 63 ∧ d.shown.length ≤ sizeLine ∧ r = d.shown) ∨
  ∃ (a : Addr) (z : Str) (i : Int), v = .ref a ∧ H a = some (.dK [(.inr z, .int i)]) ∧ (PyData.dict [(.str z, .int i)]).showable = true ∧ (PyData.dict [(.str z, .int i)]).shown.length ≤ sizeLine ∧ r = (PyData.dict [(.str z, .int i)]).shown
def rRepV (K : PySem.W.Frag) : List V → Hp → VK → Prop := fun xs H Q => ∃ (v : V) (r : Str), xs = [v] ∧ RepV K H v r ∧ Q (.str r) H
theorem call_reprV {X : Cx} (hg : X.A.guards = some []) (hu : X.A.units + 64 < cLine) : CallR X (.builtin "repr") (rRepV X.K) := by
  intro pins s σ H xs us Q I r h
  obtain ⟨v, z, rfl, rv, q⟩ := h
  rcases rv with rv | ⟨a, d, rfl, h1, h2, h3, h4, h5, rfl⟩ | ⟨a, y, i, rfl, h1, h2, h3, rfl⟩
  · exact call_reprS pins s σ H _ us Q I r (rv _ rfl Q q)
  · exact Lg.call_repr hg hu pins s σ H _ us Q I r ⟨a, d, rfl, h1, h2, h3, h4, h5, q⟩
  · exact call_reprD hg hu pins s σ H _ us Q I r ⟨a, y, i, rfl, h1, h2, h3, q⟩
end Rd

set_option Elab.async false
set_option linter.all false
set_option maxRecDepth 100000
set_option maxHeartbeats 4000000
/-! things of any kind: data on the heap, small dicts within it; repr and isinstance of them -/
namespace Rd
open PySem PySem.Spec PyProof.Rows L2 Dt
/-- the dicts that occur -/
inductive Lf (H : Hp) (a : Addr) : PyData → Prop
  | e : H a = some (.dK []) → Lf H a (.dict [])
  | n : H a = some (.dK [(.inl 0, .int 0)]) → Lf H a (.dict [(.int 0, .int 0)])
  | t : H a = some (.dT [([.inl 0], .int 0)]) → Lf H a (.dict [(.tuple [.int 0], .int 0)])
mutual
inductive An (Av : Addr → Prop) (H : Hp) : V → PyData → Prop
  | non : An Av H .non .none
  | bl (b : Bool) : An Av H (.bl b) (.bool b)
  | int (i : Int) : An Av H (.int i) (.int i)
  | str (x : Str) : An Av H (.str x) (.str x)
  | lst {a : Addr} {xs : List V} {ds : List PyData} : H a = some (.lst xs) → ¬ Av a → AnAll Av H xs ds → An Av H (.ref a) (.list ds)
  | tup {a : Addr} {xs : List V} {ds : List PyData} : H a = some (.tup xs) → AnAll Av H xs ds → An Av H (.ref a) (.tuple ds)
  | dct {a : Addr} {d : PyData} : Lf H a d → An Av H (.ref a) d
inductive AnAll (Av : Addr → Prop) (H : Hp) : List V → List PyData → Prop
  | nil : AnAll Av H [] []
  | cons {v : V} {vs : List V} {d : PyData} {ds : List PyData} : An Av H v d → AnAll Av H vs ds → AnAll Av H (v :: vs) (d :: ds)
end
/-- all but tables of code objects and the lists that are to be avoided stay -/
def NoTb (Av : Addr → Prop) (H H' : Hp) : Prop := ∀ b o, (∀ ps, o ≠ .tbl ps) → (¬ ∃ xs, o = .lst xs ∧ Av b) → H b = some o → H' b = some o
theorem NoTb.trans {Av : Addr → Prop} {H H1 H2 : Hp} (a : NoTb Av H H1) (b : NoTb Av H1 H2) : NoTb Av H H2 := fun x o n m e => b x o n m (a x o n m e)
theorem NoTb.same {Av : Addr → Prop} {H H' : Hp} (s : Same H H') : NoTb Av H H' := fun b o _ _ e => s b o e
theorem NoTb.refl {Av : Addr → Prop} (H : Hp) : NoTb Av H H := fun _ _ _ _ e => e
theorem NoTb.tups {Av : Addr → Prop} {H H' : Hp} (k : NoTb Av H H') : Tups H H' := fun b xs e => k b _ (fun _ z => nomatch z) (fun ⟨_, z, _⟩ => nomatch z) e
theorem NoTb.weak {Av Bv : Addr → Prop} {H H' : Hp} (k : NoTb Av H H') (w : ∀ b, Av b → Bv b) : NoTb Bv H H' := fun b o n m e => k b o n (fun ⟨xs, z, y⟩ => m ⟨xs, z, w b y⟩) e
theorem FrS.noTb {Av : Addr → Prop} {Ps : List Addr} {H H' : Hp} (t : Tabs Ps H) (f : FrS Ps H H') : NoTb Av H H' := fun b o n _ e => f.1 b o (fun z => by
  obtain ⟨ps, q, _⟩ := t b z
  rw [e] at q
  exact n ps (Option.some.inj q)) e
theorem Lf.mono {Av : Addr → Prop} {H H' : Hp} {a : Addr} {d : PyData} (k : NoTb Av H H') (h : Lf H a d) : Lf H' a d := by
  cases h with
  | e h => exact .e (k _ _ (fun _ z => nomatch z) (fun ⟨_, z, _⟩ => nomatch z) h)
  | n h => exact .n (k _ _ (fun _ z => nomatch z) (fun ⟨_, z, _⟩ => nomatch z) h)
  | t h => exact .t (k _ _ (fun _ z => nomatch z) (fun ⟨_, z, _⟩ => nomatch z) h)
mutual
theorem An.mono {Av : Addr → Prop} {H H' : Hp} (k : NoTb Av H H') : ∀ (d : PyData) (v : V), An Av H v d → An Av H' v d
  | .none, _, h => by
    cases h with
    | non => exact .non
    | dct l => cases l
  | .bool b, _, h => by
    cases h with
    | bl => exact .bl b
    | dct l => cases l
  | .int i, _, h => by
    cases h with
    | int => exact .int i
    | dct l => cases l
  | .str x, _, h => by
    cases h with
    | str => exact .str x
    | dct l => cases l
  | .list ds, _, h => by
    cases h with
    | lst e n t => exact .lst (k _ _ (fun _ z => nomatch z) (fun ⟨_, _, z⟩ => n z) e) n (An.monoAll k ds _ t)
    | dct l => cases l
  | .tuple ds, _, h => by
    cases h with
    | tup e t => exact .tup (k _ _ (fun _ z => nomatch z) (fun ⟨_, z, _⟩ => nomatch z) e) (An.monoAll k ds _ t)
    | dct l => cases l
  | .dict _, _, h => by
    cases h with
    | dct l => exact .dct (l.mono k)
theorem An.monoAll {Av : Addr → Prop} {H H' : Hp} (k : NoTb Av H H') : ∀ (ds : List PyData) (vs : List V), AnAll Av H vs ds → AnAll Av H' vs ds
  | [], _, h => by
    cases h
    exact .nil
  | d :: ds, _, h => by
    cases h with
    | cons h t => exact .cons (An.mono k d _ h) (An.monoAll k ds _ t)
end
theorem An.up {Av : Addr → Prop} {H H' : Hp} {v : V} {d : PyData} (h : An Av H v d) (k : NoTb Av H H') : An Av H' v d := An.mono k d v h
theorem AnAll.up {Av : Addr → Prop} {H H' : Hp} {vs : List V} {ds : List PyData} (h : AnAll Av H vs ds) (k : NoTb Av H H') : AnAll Av H' vs ds := An.monoAll k ds vs h
theorem AnAll.len {Av : Addr → Prop} {H : Hp} : ∀ {vs : List V} {ds : List PyData}, AnAll Av H vs ds → vs.length = ds.length
  | _, _, .nil => rfl
  | _, _, .cons _ t => congrArg (· + 1) t.len
theorem AnAll.get {Av : Addr → Prop} {H : Hp} : ∀ {vs : List V} {ds : List PyData} {i : Nat} {v : V}, AnAll Av H vs ds → vs[i]? = some v → ∃ d, ds[i]? = some d ∧ An Av H v d
  | _, _, 0, _, .cons h _, e => by
    cases e
    exact ⟨_, rfl, h⟩
  | _, _, i + 1, v, .cons _ t, e => AnAll.get (i := i) t e
theorem AnAll.append {Av : Addr → Prop} {H : Hp} : ∀ {vs ws : List V} {ds es : List PyData}, AnAll Av H vs ds → AnAll Av H ws es → AnAll Av H (vs ++ ws) (ds ++ es)
  | _, _, _, _, .nil, h => h
  | _, _, _, _, .cons a t, h => .cons a (t.append h)
theorem AnAll.take {Av : Addr → Prop} {H : Hp} : ∀ {vs : List V} {ds : List PyData} (n : Nat), AnAll Av H vs ds → AnAll Av H (vs.take n) (ds.take n)
  | _, _, 0, _ => .nil
  | _, _, _ + 1, .nil => .nil
  | _, _, n + 1, .cons a t => .cons a (t.take n)
theorem AnAll.drop {Av : Addr → Prop} {H : Hp} : ∀ {vs : List V} {ds : List PyData} (n : Nat), AnAll Av H vs ds → AnAll Av H (vs.drop n) (ds.drop n)
  | _, _, 0, h => h
  | _, _, _ + 1, .nil => .nil
  | _, _, n + 1, .cons _ t => t.drop n
theorem AnAll.rev {Av : Addr → Prop} {H : Hp} : ∀ {vs : List V} {ds : List PyData}, AnAll Av H vs ds → AnAll Av H vs.reverse ds.reverse
  | _, _, .nil => .nil
  | _, _, .cons a t => by
    rw [List.reverse_cons, List.reverse_cons]
    exact t.rev.append (.cons a .nil)
theorem AnAll.ints {Av : Addr → Prop} {H : Hp} : ∀ ns : List Int, AnAll Av H (ns.map V.int) (ns.map PyData.int)
  | [] => .nil
  | n :: r => .cons (.int n) (AnAll.ints r)
mutual
theorem An.weak {Av Bv : Addr → Prop} {H : Hp} (w : ∀ b, Bv b → Av b) : ∀ (d : PyData) (v : V), An Av H v d → An Bv H v d
  | .none, _, h => by
    cases h with
    | non => exact .non
    | dct l => exact .dct l
  | .bool b, _, h => by
    cases h with
    | bl => exact .bl b
    | dct l => exact .dct l
  | .int i, _, h => by
    cases h with
    | int => exact .int i
    | dct l => exact .dct l
  | .str x, _, h => by
    cases h with
    | str => exact .str x
    | dct l => exact .dct l
  | .list ds, _, h => by
    cases h with
    | lst e n t => exact .lst e (fun z => n (w _ z)) (An.weakAll w ds _ t)
    | dct l => exact .dct l
  | .tuple ds, _, h => by
    cases h with
    | tup e t => exact .tup e (An.weakAll w ds _ t)
    | dct l => exact .dct l
  | .dict _, _, h => by
    cases h with
    | dct l => exact .dct l
theorem An.weakAll {Av Bv : Addr → Prop} {H : Hp} (w : ∀ b, Bv b → Av b) : ∀ (ds : List PyData) (vs : List V), AnAll Av H vs ds → AnAll Bv H vs ds
  | [], _, h => by
    cases h
    exact .nil
  | d :: ds, _, h => by
    cases h with
    | cons h t => exact .cons (An.weak w d _ h) (An.weakAll w ds _ t)
end
abbrev Any (H : Hp) : V → PyData → Prop := An (fun _ => False) H
abbrev AnyAll (H : Hp) : List V → List PyData → Prop := AnAll (fun _ => False) H
theorem An.any {Av : Addr → Prop} {H : Hp} {v : V} {d : PyData} (h : An Av H v d) : Any H v d := An.weak (fun _ z => z.elim) d v h
theorem AnAll.any {Av : Addr → Prop} {H : Hp} {vs : List V} {ds : List PyData} (h : AnAll Av H vs ds) : AnyAll H vs ds := An.weakAll (fun _ z => z.elim) ds vs h
/-- what is handed to isinstance -/
def tyD : PyData → String
  | .none => "NoneType"
  | .bool _ => "bool"
  | .int _ => "int"
  | .str _ => "str"
  | .list _ => "list"
  | .tuple _ => "tuple"
  | .dict _ => "dict"
theorem An.ty {Av : Addr → Prop} {K : PySem.W.Frag} {H : Hp} {v : V} {d : PyData} (h : An Av H v d) : TyX K H v (.type (tyD d)) := by
  cases h with
  | non => exact .base .non
  | bl b => exact .base (.bl b)
  | int i => exact .base (.int i)
  | str x => exact .base (.str x)
  | lst e _ _ => exact .base (.lst e)
  | tup e _ => exact .base (.tup e)
  | dct l =>
    cases l with
    | e h => exact .base (.dK h)
    | n h => exact .base (.dK h)
    | t h => exact .base (.dT h)
/-! ### read -/
section
variable {X : Cx} {pins : List (Addr × Obj)} {σ : L2.St} {H : Hp} {s : Shared}
theorem str_key {z : Str} {k : Value} (h : Value.isStrOf z k = true) : ∃ t, k = .str z t := by
  cases k with
  | str y t =>
    have : y = z := by simpa [Value.isStrOf] using h
    exact ⟨t, by rw [this]⟩
  | _ => simp [Value.isStrOf] at h
theorem lf_reads (I : Inv X pins σ H s) {a : Addr} {d : PyData} (h : Lf H a d) : ∃ as, Reads s.heap (.ref a) d as ∧ sysModules ∉ as := by
  cases h with
  | e ha =>
    obtain ⟨_, nm, vs, kv, o, es, ep, ho, hx, hd, hk, hp, _⟩ := I.hok a _ ha
    cases kv
    generalize hel : es.toList = el at hp
    cases hp
    refine ⟨a :: [] ++ [], .dict ho hx.1 hd ?_ ?_, fun m => ?_⟩
    · rw [hel]; exact .nil
    · rw [hel]; exact .nil
    · have : sysModules = a := by simpa using m
      rw [this] at nm
      simp at nm
  | n ha =>
    obtain ⟨_, nm, vs, kv, o, es, ep, ho, hx, hd, hk, hp, _⟩ := I.hok a _ ha
    cases kv with
    | cons k1 k2 =>
      cases k2
      obtain ⟨e1, e2⟩ := k1
      obtain ⟨tk, e2⟩ := (show ∃ tk, _ = Value.int 0 tk from e2)
      generalize hel : es.toList = el at hp
      cases hp with
      | cons p1 p2 p3 =>
        rename_i de es'
        cases p3
        rw [← e1] at p1
        rw [e2] at p2
        obtain ⟨tk2, ek⟩ : ∃ tk2, de.key = Value.int 0 tk2 := by
          rcases keyIs_shape (show keyIs (Sum.inl 0) de.key = true from p1) with ⟨i, t, q1, q2⟩ | ⟨y, t, q1, q2⟩
          · cases q1
            exact ⟨t, q2⟩
          · cases q1
        refine ⟨a :: [] ++ [], .dict ho hx.1 hd ?_ ?_, fun m => ?_⟩
        · rw [hel]
          show ReadsAll _ [de.key] [PyData.int 0] []
          rw [ek]
          exact .cons (.int 0 tk2) .nil
        · rw [hel]
          show ReadsAll _ [de.val] [PyData.int 0] []
          rw [p2]
          exact .cons (.int 0 tk) .nil
        · have : sysModules = a := by simpa using m
          rw [this] at nm
          simp at nm
  | t ha =>
    obtain ⟨_, nm, xs, pr, o, es, ep, ho, hx, hd, hk, _⟩ := I.hok a _ ha
    cases pr with
    | @cons _ q _ _ p1 p2 =>
      cases p2
      obtain ⟨e1, e2, e3⟩ := p1
      obtain ⟨tk, e3⟩ := (show ∃ tk, q.2.2 = Value.int 0 tk from e3)
      obtain ⟨_, its, rv, o2, ho2, hc2, n2, hd2⟩ := I.hok q.2.1 _ e2
      refine ⟨a :: [] ++ [], .dict ho hx.1 hd ?_ ?_, fun m => ?_⟩
      · rw [hk]
        show ReadsAll _ [Value.ref q.2.1] [PyData.tuple [.int 0]] []
        refine .cons (as := []) (.tuple ho2 hc2 hd2 ?_) .nil
        cases rv with
        | cons r1 r2 =>
          cases r2
          obtain ⟨t1, r1⟩ := (show ∃ t, _ = Value.int 0 t from r1)
          show ReadsAll _ [_] [PyData.int 0] []
          rw [r1]
          exact .cons (.int 0 t1) .nil
      · rw [hk]
        show ReadsAll _ [q.2.2] [PyData.int 0] []
        rw [e3]
        exact .cons (.int 0 tk) .nil
      · have : sysModules = a := by simpa using m
        rw [this] at nm
        simp at nm
mutual
theorem an_reads (I : Inv X pins σ H s) : ∀ (d : PyData) (v : V) (u : Value), An Av H v d → RelV v u → ∃ as, Reads s.heap u d as
  | .none, _, _, h, r => by
    cases h with
    | non => cases r; exact ⟨_, .none⟩
    | dct l => cases l
  | .bool b, _, _, h, r => by
    cases h with
    | bl => cases r; exact ⟨_, .bool b⟩
    | dct l => cases l
  | .int i, _, _, h, r => by
    cases h with
    | int => obtain ⟨t, rfl⟩ := r; exact ⟨_, .int i t⟩
    | dct l => cases l
  | .str x, _, _, h, r => by
    cases h with
    | str => obtain ⟨t, rfl⟩ := r; exact ⟨_, .str x t⟩
    | dct l => cases l
  | .list ds, _, _, h, r => by
    cases h with
    | lst e _ t =>
      cases r
      obtain ⟨_, its, n, rv, hg⟩ := I.hok _ _ e
      obtain ⟨as, q⟩ := an_readsAll I ds _ its t rv
      exact ⟨_, .list hg rfl rfl q⟩
    | dct l => cases l
  | .tuple ds, _, _, h, r => by
    cases h with
    | tup e t =>
      cases r
      obtain ⟨_, its, rv, o, hg, hc, n, hd⟩ := I.hok _ _ e
      obtain ⟨as, q⟩ := an_readsAll I ds _ its t rv
      exact ⟨_, .tuple hg hc hd q⟩
    | dct l => cases l
  | .dict _, _, _, h, r => by
    cases h with
    | dct l =>
      cases r
      obtain ⟨as, q, _⟩ := lf_reads I l
      exact ⟨as, q⟩
theorem an_readsAll (I : Inv X pins σ H s) : ∀ (ds : List PyData) (vs : List V) (us : List Value), AnAll Av H vs ds → Vals vs us → ∃ as, ReadsAll s.heap us ds as
  | [], _, _, h, r => by
    cases h
    cases r
    exact ⟨_, .nil⟩
  | d :: ds, _, _, h, r => by
    cases h with
    | cons a t =>
      cases r with
      | cons r1 r2 =>
        obtain ⟨as, q1⟩ := an_reads I d _ _ a r1
        obtain ⟨bs, q2⟩ := an_readsAll I ds _ _ t r2
        exact ⟨_, .cons q1 q2⟩
end
/-! ### shown -/
mutual
theorem an_repr (I : Inv X pins σ H s) : ∀ (d : PyData) (v : V) (u : Value), An Av H v d → RelV v u → d.showable = true → d.shown.length ≤ sizeLine → ∃ bs, ReadAtMost s.heap d.depth bs ∧ ReprK X.prog X.w bs s.heap d.depth u d.shown
  | .list ds, v, u, h, r, sh, sz => by
    obtain ⟨as, rd⟩ := an_reads I (.list ds) v u h r
    cases h with
    | dct l => cases l
    | lst e _ t =>
      cases r
      obtain ⟨_, its, n, rv, hg⟩ := I.hok _ _ e
      have sz2 : (listText (PyData.shownAll ds)).length ≤ sizeLine := by simpa only [PyData.shown] using sz
      obtain ⟨bs, b1, b2⟩ := an_reprAll I ds _ its t rv (by simpa [PyData.showable] using sh) fun x hx => Nat.le_trans (listText_mem_le hx) sz2
      have dp : PyData.depth (.list ds) = PyData.depthAll ds + 1 := by simp only [PyData.depth]
      have out := not_mem_of_deeper rd (by rw [dp]; exact Nat.lt_succ_self _) b1
      refine ⟨_ :: bs, ReadAtMost.cons rd (by rw [dp]; exact Nat.le_succ _) b1, ?_⟩
      rw [dp]
      simp only [PyData.shown]
      cases its with
      | nil =>
        cases rv
        cases t
        simp only [PyData.shownAll, listText_nil]
        exact ReprK.listEmpty hg rfl rfl
      | cons x l => exact ReprK.list hg rfl rfl out (by simpa using b2.length_eq) fun i y q => b2.item i y (by simpa using q)
  | .tuple ds, v, u, h, r, sh, sz => by
    obtain ⟨as, rd⟩ := an_reads I (.tuple ds) v u h r
    cases h with
    | dct l => cases l
    | tup e t =>
      cases r
      obtain ⟨_, its, rv, o, hg, hc, n, hd⟩ := I.hok _ _ e
      have sz2 : (tupleText (PyData.shownAll ds)).length ≤ sizeLine := by simpa only [PyData.shown] using sz
      obtain ⟨bs, b1, b2⟩ := an_reprAll I ds _ its t rv (by simpa [PyData.showable] using sh) fun x hx => Nat.le_trans (tupleText_mem_le hx) sz2
      have dp : PyData.depth (.tuple ds) = PyData.depthAll ds + 1 := by simp only [PyData.depth]
      have out := not_mem_of_deeper rd (by rw [dp]; exact Nat.lt_succ_self _) b1
      refine ⟨_ :: bs, ReadAtMost.cons rd (by rw [dp]; exact Nat.le_succ _) b1, ?_⟩
      rw [dp]
      simp only [PyData.shown]
      exact ReprK.tuple hg hc hd out b2
  | .dict kvs, v, u, h, r, sh, sz => by
    cases h with
    | dct l =>
      cases r
      obtain ⟨as, rd, no⟩ := lf_reads I l
      exact ReprK.of_reads rd sh (fun _ => no) sz
  | .none, v, u, h, r, sh, sz => by
    obtain ⟨as, rd⟩ := an_reads I .none v u h r
    exact ReprK.of_reads rd sh (fun z => nomatch z) sz
  | .bool b, v, u, h, r, sh, sz => by
    obtain ⟨as, rd⟩ := an_reads I (.bool b) v u h r
    exact ReprK.of_reads rd sh (fun z => nomatch z) sz
  | .int i, v, u, h, r, sh, sz => by
    obtain ⟨as, rd⟩ := an_reads I (.int i) v u h r
    exact ReprK.of_reads rd sh (fun z => nomatch z) sz
  | .str x, v, u, h, r, sh, sz => by
    obtain ⟨as, rd⟩ := an_reads I (.str x) v u h r
    exact ReprK.of_reads rd sh (fun z => nomatch z) sz
theorem an_reprAll (I : Inv X pins σ H s) : ∀ (ds : List PyData) (vs : List V) (us : List Value), AnAll Av H vs ds → Vals vs us → PyData.showableAll ds = true → (∀ t ∈ PyData.shownAll ds, t.length ≤ sizeLine) → ∃ bs, ReadAtMost s.heap (PyData.depthAll ds) bs ∧ ReprAllK X.prog X.w bs s.heap (PyData.depthAll ds) us (PyData.shownAll ds)
  | [], _, _, h, r, _, _ => by
    cases h
    cases r
    refine ⟨[], (fun _ m => nomatch m), ?_⟩
    simp only [PyData.shownAll]
    exact .nil
  | d :: ds, _, _, h, r, sh, sz => by
    cases h with
    | cons a t =>
      cases r with
      | cons r1 r2 =>
        obtain ⟨s1, s2⟩ : d.showable = true ∧ PyData.showableAll ds = true := by simpa [PyData.showableAll] using sh
        simp only [PyData.shownAll] at sz
        obtain ⟨bs, b1, b2⟩ := an_repr I d _ _ a r1 s1 (sz _ List.mem_cons_self)
        obtain ⟨cs, c1, c2⟩ := an_reprAll I ds _ _ t r2 s2 fun x hx => sz x (List.mem_cons_of_mem _ hx)
        have m1 : d.depth ≤ PyData.depthAll (d :: ds) := by simp only [PyData.depthAll]; exact Nat.le_max_left _ _
        have m2 : PyData.depthAll ds ≤ PyData.depthAll (d :: ds) := by simp only [PyData.depthAll]; exact Nat.le_max_right _ _
        refine ⟨bs ++ cs, (b1.mono m1).append (c1.mono m2), ?_⟩
        simp only [PyData.shownAll]
        exact .cons ((b2.more fun b hb => List.mem_append_left _ hb).level_le m1) (c2.more_le (fun b hb => List.mem_append_right _ hb) m2)
end
end
/-- repr(x), x anything -/
def rRepA : List V → Hp → VK → Prop := fun xs H Q => ∃ (Av : Addr → Prop) (v : V) (d : PyData), xs = [v] ∧ An Av H v d ∧ d.showable = true ∧ d.depth < 60 ∧ d.shown.length ≤ sizeLine ∧ Q (.str d.shown) H
theorem call_reprA {X : Cx} (hg : X.A.guards = some []) (hu : X.A.units + 64 < cLine) : CallR X (.builtin "repr") rRepA := by
  intro pins s σ H xs us Q I r h
  obtain ⟨Av, v, d, rfl, an, sh, dp, sz, q⟩ := h
  obtain ⟨u, rfl, ru⟩ := vals1 r
  have kept : ∀ {h' : Heap} {u tk}, (∀ b o, s.heap.get? b = some o → h'.get? b = some o) → EP X pins σ Q (.str d.shown u) { s with heap := h', toks := tk } := fun {h' u tk} hk => ⟨.str d.shown, H, I.kept (t' := tk) hk, ⟨_, rfl⟩, q⟩
  cases d with
  | none =>
    cases an with
    | non => cases (show u = Value.none from ru); exact PySem.P.repr_of_none ⟨.str "None", H, I.tok _, ⟨_, rfl⟩, q⟩
    | dct l => cases l
  | bool b =>
    cases an with
    | bl => cases (show u = Value.bool b from ru); exact PySem.P.repr_of_bool ⟨.str _, H, I.tok _, ⟨_, rfl⟩, q⟩
    | dct l => cases l
  | int i =>
    cases an with
    | int =>
      obtain ⟨tk, rfl⟩ := (show ∃ tk, u = Value.int i tk from ru)
      have hi : i.natAbs.log2 < 1920 := by simpa [PyData.showable] using sh
      exact PySem.P.repr_of_int hi ⟨.str _, H, I.tok _, ⟨_, rfl⟩, q⟩
    | dct l => cases l
  | str x =>
    cases an with
    | str =>
      obtain ⟨tk, rfl⟩ := (show ∃ tk, u = Value.str x tk from ru)
      exact PySem.P.repr_of_str ⟨.str _, H, I.tok _, ⟨_, rfl⟩, q⟩ sz
    | dct l => cases l
  | list ds =>
    obtain ⟨as, rd⟩ := an_reads I (.list ds) v u an ru
    cases an with
    | dct l => cases l
    | @lst a xs0 _ e _ t =>
      cases (show u = Value.ref a from ru)
      obtain ⟨_, its, n, rv, hg1⟩ := I.hok _ _ e
      have sz2 : (listText (PyData.shownAll ds)).length ≤ sizeLine := by simpa only [PyData.shown] using sz
      obtain ⟨bs, b1, b2⟩ := an_reprAll I ds _ its t rv (by simpa [PyData.showable] using sh) fun x hx => Nat.le_trans (listText_mem_le hx) sz2
      have dpe : PyData.depth (.list ds) = PyData.depthAll ds + 1 := by simp only [PyData.depth]
      have out := not_mem_of_deeper rd (by rw [dpe]; exact Nat.lt_succ_self _) b1
      refine call_repr_slot (T := "list") (idr := "list.__repr__") (by omega) ⟨_, hg1, rfl⟩ F.slot_list_repr.toG ?_
      have e1 : PyData.shown (.list ds) = listText (PyData.shownAll ds) := by simp only [PyData.shown]
      cases its with
      | nil =>
        cases rv
        cases t
        exact call_list_repr_empty ⟨_, hg1, rfl⟩ hg1 rfl ⟨_, _, rfl, kept (fun _ _ e => e)⟩
      | cons x l =>
        refine call_list_reprK hg1 rfl rfl out (by simpa using b2.length_eq) (fun i y q => b2.item i y (by simpa using q)) hg (fun b _ => Clear.nil b) (by rw [dpe] at dp; show X.A.units + 1 + _ < _; omega) (fun _ _ e => e) (fun h' w tk hk => ⟨_, _, rfl, ?_⟩) sz2
        have z := kept (u := w) (tk := tk) hk
        rw [e1] at z
        exact z
  | tuple ds =>
    obtain ⟨as, rd⟩ := an_reads I (.tuple ds) v u an ru
    cases an with
    | dct l => cases l
    | @tup a xs0 _ e t =>
      cases (show u = Value.ref a from ru)
      obtain ⟨_, its, rv, o, hg1, hc, n, hd⟩ := I.hok _ _ e
      have sz2 : (tupleText (PyData.shownAll ds)).length ≤ sizeLine := by simpa only [PyData.shown] using sz
      obtain ⟨bs, b1, b2⟩ := an_reprAll I ds _ its t rv (by simpa [PyData.showable] using sh) fun x hx => Nat.le_trans (tupleText_mem_le hx) sz2
      have dpe : PyData.depth (.tuple ds) = PyData.depthAll ds + 1 := by simp only [PyData.depth]
      have out := not_mem_of_deeper rd (by rw [dpe]; exact Nat.lt_succ_self _) b1
      refine call_repr_slot (T := "tuple") (idr := "tuple.__repr__") (by omega) ⟨_, hg1, hc⟩ F.slot_tuple_repr ?_
      have e1 : PyData.shown (.tuple ds) = tupleText (PyData.shownAll ds) := by simp only [PyData.shown]
      refine call_tuple_reprK hg1 hc hd out b2 hg (fun b _ => Clear.nil b) (by rw [dpe] at dp; show X.A.units + 1 + _ < _; omega) (fun _ _ e => e) (fun h' w tk hk => ⟨_, _, rfl, ?_⟩) sz2
      have z := kept (u := w) (tk := tk) hk
      rw [e1] at z
      exact z
  | dict kvs =>
    cases an with
    | @dct a _ l =>
      cases (show u = Value.ref a from ru)
      obtain ⟨as, rd, no⟩ := lf_reads I l
      exact repr_of_reads' rd sh (fun _ => no) hg (by omega) (fun _ _ e => e) (fun h' w tk hk => kept hk) sz
end Rd

set_option Elab.async false
set_option linter.all false
set_option maxRecDepth 100000
set_option maxHeartbeats 4000000
/-! {**d, k: v} -/
namespace Mg
open PySem
section
variable {prog : Program} {w : World} {K : Type} [DecidableEq K] {knd : KeyKind prog w K} {A : Around} {E : Value → Shared → Prop} {s : Shared}
theorem dictPut_pairs {d : Addr} {kvs : List (K × Value)} {k : K} {key v : Value} {Q : Unit → Shared → Prop} (hkey : knd.is k key = true) (hm : s.heap.DictOf knd d kvs)
    (hQ : ∀ h', h'.DictOf knd d (stored kvs k v) → Heap.SameBut d s.heap h' → Q () { s with heap := h' })
    (hsz : kvs.length ≤ sizeLine) :
    wpAny (model prog w) A (dictPut d (knd.hash k) key v) Q E s := by
  obtain ⟨o, es, ep, ho, hc, hd, hk, hp, hn⟩ := hm
  have hes : es.size ≤ sizeLine := by
    have e1 := hp.length
    have e2 : es.toList.length = es.size := by simp
    omega
  unfold dictPut
  refine wpAny_bind (wpAny_dictFind_of hkey ho hd hk ?_)
  have hidx : (es.findIdx? fun e => knd.is k e.key) = kvs.findIdx? fun kv => decide (kv.1 = k) := by
    rw [← hp.findIdx k]; obtain ⟨l⟩ := es; simp
  cases hi : es.findIdx? fun e => knd.is k e.key with
  | some i =>
    refine wpAny_updateDict ho hd (hQ _ ⟨_, _, ep, Heap.get?_update_self _ ho (Obj.isFreed_of_dict (Obj.data_mapDict hd _)), hc.mapDict _, Obj.data_mapDict hd _, hk.modify _ _, ?_, ?_⟩ (Heap.SameBut.update ..))
    · rw [stored, if_pos (any_of_findIdx_some (hidx ▸ hi))]
      have hl : (es.toList.findIdx? fun e => knd.is k e.key) = some i := by rw [← hi]; obtain ⟨l⟩ := es; simp
      have := hp.modify hn hl v
      obtain ⟨l⟩ := es
      simpa using this
    · rw [stored, if_pos (any_of_findIdx_some (hidx ▸ hi)), keys_map_store]; exact hn
  | none =>
    have hnot : k ∉ kvs.map (·.1) := not_mem_of_findIdx_none (hidx ▸ hi)
    have hany : ¬ (kvs.any fun kv => decide (kv.1 = k)) = true := by
      rw [List.any_eq_true]; rintro ⟨kv, hkv, he⟩
      exact hnot (List.mem_map.mpr ⟨kv, hkv, of_decide_eq_true he⟩)
    refine wpAny_updateDictKeys (hz := hes) ho hd (hQ _ ⟨_, _, ep + 1, Heap.get?_update_self _ ho (Obj.isFreed_of_dict (Obj.data_mapDictKeys hd _)), hc.mapDictKeys _, Obj.data_mapDictKeys hd _, hk.push hkey _, ?_, ?_⟩ (Heap.SameBut.update ..))
    · rw [stored, if_neg hany]
      have := hp.append hkey (knd.hash k) v
      obtain ⟨l⟩ := es
      simpa using this
    · rw [stored, if_neg hany, List.map_append, List.nodup_append]
      refine ⟨hn, by simp, ?_⟩
      intro a ha b hb
      simp only [List.map_cons, List.map_nil, List.mem_singleton] at hb
      subst hb
      exact fun e => hnot (e ▸ ha)
theorem mergeMapping_pairs {d o : Addr} {kvs more : List (K × Value)} {Q : Unit → Shared → Prop} (hdo : d ≠ o) (hoS : (o == sysModules) = false)
    (hd : s.heap.DictOf knd d kvs) (ho : s.heap.DictOf knd o more)
    (hQ : ∀ h', h'.DictOf knd d (merged kvs more) → h'.DictOf knd o more → Heap.SameBut d s.heap h' → Q () { s with heap := h' })
    (hsz : kvs.length + more.length ≤ sizeLine) :
    wpAny (model prog w) A (mergeMapping d (.ref o) false) Q E s := by
  obtain ⟨od, esd, epd, hod, hcd, hdd, hkd, hpd, hnd⟩ := id hd
  obtain ⟨oo, eso, epo, hoo, hco, hdo', hko, hpo, hno⟩ := id ho
  have hlen : more.length = eso.size := by rw [← hpo.length]; simp
  have notRef : ∀ e ∈ eso, ∀ b, e.key ≠ .ref b := fun e he b z => by
    obtain ⟨k, hk1, _⟩ := hko e he
    have := knd.byValue _ _ hk1
    rw [z] at this
    exact absurd this (by simp [carriedByValue])
  unfold mergeMapping
  refine wpAny_bind (wpAny_isInstance ho.typeIs isSubtype_dict_dict ?_)
  rw [if_pos rfl]
  refine wpAny_bind (wpAny_specialOf ho.typeIs F.slot_dict_iter.lookup (wpAny_bind (wpAny_pure ?_)))
  simp only [beq_self_eq_true]
  rw [if_neg (by rw [hoS]; exact Bool.false_ne_true)]
  refine wpAny_bind (wpAny_dictEntries hod hdd ?_)
  have loop : wpAny (model prog w) A (do
      let l ← dictEntries o
      let epoch ← dictEpoch o
      forIn (List.range l.size) PUnit.unit fun i (_ : PUnit) => (do
          let l' ← dictEntries o
          match l'[i]? with
            | some e => do
              holding [e.key, e.val] (dictPut d e.hash e.key e.val)
              let ep' ← dictEpoch o
              if (ep' != epoch) = true then do
                  (unsupported "dict.changed-during-merge" : Sem PUnit)
                  pure (ForInStep.yield PUnit.unit)
                else pure (ForInStep.yield PUnit.unit)
            | _ => do
              (unsupported "dict.changed-during-merge" : Sem PUnit)
              pure (ForInStep.yield PUnit.unit) : Sem (ForInStep PUnit))
      pure ()) Q E s := by
    refine wpAny_bind (wpAny_dictEntries hoo hdo' ?_)
    refine wpAny_bind (wpAny_dictEpoch hoo hdo' ?_)
    refine wpAny_bind ?_
    rw [List.range_eq_range']
    refine wpAny_forIn_list _
      (fun rest _ s' => ∃ h' i, s' = { s with heap := h' } ∧ rest = List.range' i (eso.size - i) ∧ i ≤ eso.size ∧ h'.DictOf knd d (merged kvs (more.take i)) ∧ h'.get? o = some oo ∧ Heap.SameBut d s.heap h')
      _ ?_ ?_ _ _ ⟨s.heap, 0, rfl, by simp, Nat.zero_le _, by simpa [merged] using hd, hoo, Heap.SameBut.refl _ _⟩
    · rintro x rest b s' ⟨h', i, rfl, hr, hi, hd', hoo', hs'⟩
      have hlt : i < eso.size := by
        rcases Nat.lt_or_ge i eso.size with h | h
        · exact h
        · rw [Nat.sub_eq_zero_of_le h] at hr; simp at hr
      obtain ⟨rfl, hrest⟩ : x = i ∧ rest = List.range' (i + 1) (eso.size - (i + 1)) := by
        have e : eso.size - i = (eso.size - (i + 1)) + 1 := by omega
        rw [e, List.range'_succ] at hr
        injection hr with h1 h2
        exact ⟨h1, h2⟩
      refine wpAny_bind (wpAny_dictEntries hoo' hdo' ?_)
      rw [Array.getElem?_eq_getElem hlt]
      obtain ⟨kv, hkv⟩ : ∃ kv, more[x]? = some kv := ⟨more[x]'(by rw [hlen]; exact hlt), List.getElem?_eq_getElem _⟩
      obtain ⟨k, v⟩ := kv
      obtain ⟨hkey, hval⟩ := hpo.get? (e := eso[x]) (by simp [hlt]) hkv
      obtain ⟨k', hkey', hhash⟩ := hko eso[x] (Array.getElem_mem hlt)
      obtain rfl : k' = k := knd.inj _ _ _ hkey' hkey
      show wpAny _ _ (holding [eso[x].key, eso[x].val] (dictPut d eso[x].hash eso[x].key eso[x].val) >>= _) _ _ _
      rw [hhash, hval]
      have hmx : (merged kvs (more.take x)).length ≤ sizeLine := by
        have e1 := merged_length_le kvs (more.take x)
        have e2 : (more.take x).length ≤ more.length := by rw [List.length_take]; omega
        omega
      refine wpAny_bind (wpAny_holding (dictPut_pairs (hsz := hmx) hkey hd' fun h'' hd'' hs'' => ?_))
      have hoo'' : h''.get? o = some oo := (hs''.2 o (Ne.symm hdo)).trans hoo'
      refine wpAny_bind (wpAny_dictEpoch hoo'' hdo' ?_)
      rw [if_neg (by simp)]
      exact wpAny_pure ⟨h'', x + 1, rfl, hrest, hlt, by rw [merged_take_succ kvs more x (k', v) hkv]; exact hd'', hoo'', hs'.trans hs''⟩
    · rintro b s' ⟨h', i, rfl, hr, hi, hd', hoo', hs'⟩
      have hin : i = eso.size := by
        rcases Nat.lt_or_ge i eso.size with h | h
        · have e : eso.size - i = (eso.size - (i + 1)) + 1 := by omega
          rw [e, List.range'_succ] at hr; exact nomatch hr
        · exact Nat.le_antisymm hi h
      refine wpAny_pure (hQ h' ?_ ?_ hs')
      · rw [hin, ← hlen, List.take_length] at hd'; exact hd'
      · exact ⟨oo, eso, epo, hoo', hco, hdo', hko, hpo, hno⟩
  have lead : ∀ (es : List DictEntry), (∀ e ∈ es, ∀ b, e.key ≠ .ref b) → ∀ (R : Unit → Shared → Prop), R () s → wpAny (model prog w) A (forIn es PUnit.unit fun e (_ : PUnit) =>
      (match e.key with
        | Value.ref a => do
          let __do_lift ← specialOf e.key (Str.ofString "__eq__")
          if (__do_lift != some (Value.builtin "object.__eq__")) = true then
              if (Array.filter (fun x => x.hash == e.hash) eso).size > 1 then do
                (unsupported "dict.merge-into-an-empty-dict:keys-of-equal-hash" : Sem PUnit)
                pure (ForInStep.yield PUnit.unit)
              else pure (ForInStep.yield PUnit.unit)
            else pure (ForInStep.yield PUnit.unit)
        | x => pure (ForInStep.yield PUnit.unit) : Sem (ForInStep PUnit))) R E s := by
    intro es
    induction es with
    | nil => intro _ R hR; rw [List.forIn_nil]; exact wpAny_pure hR
    | cons e r ih =>
      intro hn R hR
      rw [List.forIn_cons]
      refine wpAny_bind ?_
      have h1 := hn e List.mem_cons_self
      split
      · rename_i a ha
        exact absurd ha (h1 a)
      · exact wpAny_pure (ih (fun e' he' => hn e' (List.mem_cons_of_mem _ he')) R hR)
  split
  · refine wpAny_bind (wpAny_dictEntries hoo hdo' ?_)
    rw [← Array.forIn_toList]
    refine wpAny_bind (lead _ (fun e he => notRef e (by simpa using he)) _ ?_)
    exact loop
  · exact loop
end
end Mg
namespace Mg
open PySem PySem.Spec PyProof.Rows L2
section
/-- {**d, k: v}, keys ints and texts -/
def tStar (td tk tv : TE) : TE := fun σ H Q => ∀ p, H p = none → td σ (upd H p (.dK [])) fun x H1 => ∃ (a : Addr) (kvs : List (Key × V)), x = .ref a ∧ Rd H1 a (.dK kvs) ∧ a ≠ p ∧ H1 p = some (.dK []) ∧ kvs.length ≤ 1000 ∧
  ∀ p2, p2 ≠ p → H1 p2 = none → tk σ (upd (upd H1 p (.dK kvs)) p2 (.dK [])) fun y H2 => tv σ H2 fun z H3 => H3 p2 = some (.dK []) ∧ H3 p = some (.dK kvs) ∧ ∃ k : Key, y = kV k ∧ Q (.ref p) (upd (upd H3 p2 (.dK [(k, z)])) p (.dK (putK kvs k z)))
theorem pe_dstar {X : Cx} {a k v : Expr} {pos : Pos} {td tk tv : TE} (ha : PE X a td) (hk : PE X k tk) (hv : PE X v tv) : PE X (.Dict [none, some k] [a, v] pos) (tStar td tk tv) := by
  refine ⟨fun pins s σ H Q I q => ?_⟩
  rw [arm_eval_Dict]
  refine wpAny_bind (wpAny_standAt ?_)
  show wpAny _ _ (dictDisplay [(none, do let x ← eval a X.env; standAt pos; pure x), (some (eval k X.env), do let x ← eval v X.env; standAt pos; pure x)]) _ _ s
  unfold dictDisplay
  dsimp only
  simp only [List.forIn_cons, List.forIn_nil, List.isEmpty_nil, if_true, pure_bind, List.nil_append, List.length_cons, List.length_nil, bind_assoc]
  simp only [show ((0 + 1 == 17) = false) from by decide, pure_bind, List.isEmpty_cons, Bool.false_eq_true, if_false]
  refine wpAny_bind (wpAny_alloc ?_)
  have hn := I.hok.fresh (Nat.le_refl s.heap.objs.size)
  have I1 := I.laid (a := s.heap.objs.size) (o := .dK []) (h' := s.heap.push { cls := .type "dict", data := .dict #[] }) (t' := s.toks) (fun _ _ q => Heap.get?_push_of_some _ q) (Nat.le_refl _) (dk_empty s.heap I.big)
  generalize s.heap.objs.size = p at I1 hn
  refine wpAny_bind (wpAny_holding (wpAny_bind (thn (ha.run pins _ σ _ _ I1 (q p hn)) fun u s2 ⟨x, H1, I2, rx, b, kvs, ex, hrd, nbp, hp1, hl, q2⟩ => wpAny_bind (wpAny_standAt (wpAny_pure ?_)))))
  subst ex
  obtain rfl : u = Value.ref b := rx
  obtain ⟨zb, lob, vsb, relb, ddb⟩ := dk_rd I2.hok hrd
  obtain ⟨zp, lop, vsp, relp, ddp⟩ := dk_of I2.hok hp1
  cases relp
  have hsl : kvs.length ≤ sizeLine := zb
  have lvb : vsb.length = kvs.length := relb.length.symm
  refine wpAny_bind (wpAny_onRaise (wpAny_tryCatch (wpAny_onRaise (wpAny_holding (mergeMapping_pairs (knd := mixKind X.prog X.w) (Ne.symm nbp) lob ddp ddb (fun h3 d3 _ s3 => ?_) (by rw [List.length_nil, lvb]; omega))))))
  have ndb : (vsb.map (·.1)).Nodup := by
    obtain ⟨_, _, _, _, _, _, _, _, nd⟩ := ddb
    exact nd
  rw [merged_nil_of_nodup vsb ndb] at d3
  have I3 := d_write (t' := s2.toks) I2 (by rw [hp1]; exact True.intro) s3 (let ⟨q, _, _, hq, _⟩ := d3; ⟨q, hq⟩) (dk_new hsl lop relb d3)
  generalize hH3 : upd H1 p (.dK kvs) = H3 at I3
  have hn3 := I3.hok.fresh (Nat.le_refl h3.objs.size)
  have hp3 : H3 p = some (.dK kvs) := by rw [← hH3]; exact upd_same
  have np2 : h3.objs.size ≠ p := fun z => by rw [z, hp3] at hn3; cases hn3
  have n1 : H1 h3.objs.size = none := by
    rw [← hH3, upd_ne np2] at hn3
    exact hn3
  have I4 := I3.laid (a := h3.objs.size) (o := .dK []) (h' := h3.push { cls := .type "dict", data := .dict #[] }) (t' := s2.toks) (fun _ _ q => Heap.get?_push_of_some _ q) (Nat.le_refl _) (dk_empty h3 I3.big)
  have q3 := q2 _ np2 n1
  rw [hH3] at q3
  refine wpAny_bind (wpAny_bind (wpAny_holding (wpAny_subDict (knd := mixKind X.prog X.w) (by show 1 ≤ 15; decide) (thn ((pps_cons (pos := pos) hk hv pps_nil).run pins _ σ _ (fun ps H5 => match ps with
    | [(y, z)] => H5 h3.objs.size = some (.dK []) ∧ H5 p = some (.dK kvs) ∧ ∃ k : Key, y = kV k ∧ Q (.ref p) (upd (upd H5 h3.objs.size (.dK [(k, z)])) p (.dK (putK kvs k z)))
    | _ => False) I4 q3) fun ws s5 ⟨ps, H5, I5, rel, q5⟩ => ?_))))
  match ps, rel, q5 with
  | [(y, z)], rel, ⟨e2, e1, kk, ey, qf⟩ =>
    subst ey
    obtain ⟨rs, c, rk⟩ := carries_of (P := X.prog) (w := X.w) (kvs := [(kk, z)]) rel
    obtain ⟨z2, lo2, vs2, r2, d2⟩ := dk_of I5.hok e2
    cases r2
    refine ⟨rs, c, d2, fun h6 d6 s6 => ?_⟩
    have hrl : rs.length = 1 := rk.length.symm
    have nd1 : merged [] rs = rs := by
      match rs, hrl with
      | [r], _ => rfl
    rw [nd1] at d6
    have one : ([(kk, z)] : List (Key × V)).length ≤ sizeLine := by show 1 ≤ sizeLine; decide
    have I6 := d_write (t' := s5.toks + ws.length) I5 (by rw [e2]; exact True.intro) s6 (let ⟨q, _, _, hq, _⟩ := d6; ⟨q, hq⟩) (dk_new one lo2 rk d6)
    have e16 : upd H5 h3.objs.size (.dK [(kk, z)]) p = some (.dK kvs) := by rw [upd_ne (Ne.symm np2)]; exact e1
    have e26 : upd H5 h3.objs.size (.dK [(kk, z)]) h3.objs.size = some (.dK [(kk, z)]) := upd_same
    obtain ⟨_, lo2b, vs6, rel6, d26⟩ := dk_of I6.hok e26
    obtain ⟨_, lop6, vsp6, relp6, dp6⟩ := dk_of I6.hok e16
    have l6 : vs6.length = 1 := rel6.length.symm
    have lp6 : vsp6.length = kvs.length := relp6.length.symm
    have big : kvs.length + 1 ≤ sizeLine := (by rw [sizeLine_eq]; omega)
    refine wpAny_bind (wpAny_onRaise (wpAny_holding (mergeMapping_pairs (knd := mixKind X.prog X.w) (Ne.symm np2) lo2b dp6 d26 (fun h7 d7 _ s7 => ?_) (by omega))))
    have I7 := d_write (t' := s5.toks + ws.length) I6 (by rw [e16]; exact True.intro) s7 (let ⟨q, _, _, hq, _⟩ := d7; ⟨q, hq⟩) (dk_new (kvs := putK kvs kk z) (Nat.le_trans (length_putK kvs kk z) big) lop6 (rel6.merge relp6) d7)
    exact wpAny_pure (wpAny_pure ⟨.ref p, _, I7, rfl, qf⟩)
end
end Mg

set_option Elab.async false
set_option linter.all false
set_option maxRecDepth 100000
set_option maxHeartbeats 4000000
/-! one refusal's class; a def that may let it out -/
namespace Rd
open PySem PySem.Spec PyProof.Rows L2 Dt
structure Cls1 (K : PySem.W.Frag) (D : Addr) : Prop where
  x : PySem.W.excIn K D [.type "ValueError", .type "Exception", .type "BaseException", .type "object"] "ValueError.__new__" = true
  k : PySem.W.keepIn K (.ref D) = true
  b : PySem.W.subIn K (.ref D) (.type "BaseException") = some true
  t : PySem.W.typeIn K (.ref D) = some (.type "type")
  e : PySem.W.exmOne K (.ref D) (.ref D) = some true
def okC1 (K : PySem.W.Frag) (D : Addr) : Bool :=
  PySem.W.excIn K D [.type "ValueError", .type "Exception", .type "BaseException", .type "object"] "ValueError.__new__" && PySem.W.keepIn K (.ref D) &&
  (PySem.W.subIn K (.ref D) (.type "BaseException") == some true) && (PySem.W.typeIn K (.ref D) == some (.type "type")) && (PySem.W.exmOne K (.ref D) (.ref D) == some true)
theorem cls1_of {K : PySem.W.Frag} {D : Addr} (h : okC1 K D = true) : Cls1 K D := by
  unfold okC1 at h
  simp only [Bool.and_eq_true, beq_iff_eq] at h
  obtain ⟨⟨⟨⟨h1, h2⟩, h3⟩, h4⟩, h5⟩ := h
  exact ⟨h1, h2, h3, h4, h5⟩
theorem FunC.okX {P : Program} {w : World} {K : PySem.W.Frag} {mg : Str → Option Value} {base : Heap} {x qual : Str} {st : Stmt} {f : Addr} {fd : FuncData} {cdv : Value} {N ps : List Str} {k : Nat} {sp : Sp} (F : FunC K x qual st f fd cdv) (S : FnScope N ps (defScope st)) (len : ∀ vs H Q E, sp vs H Q E → vs.length = ps.length)
    (body : ∀ (A : Around) (outer : List Env) (s : Shared) (H : Hp) (vs : List V) (Q : VK) (E : XK), Room k (A.deeper (envOfC qual (defScope st) s.heap.objs.size f cdv)) → sp vs H Q E →
      ∃ t, PSs (cxOf (L2.CX P w) P w K mg base N qual (defScope st) f cdv A outer s H E) (defBody st) t ∧ t { nx := fun _ H' => Q .non H', rt := Q } (start N vs) H) : FnOk P w K mg base (L2.CX P w) (k + 1) f fd ps sp := by
  obtain ⟨oc, od, kV, doc, pm, an, ct, osl, rfl, lk, hcd⟩ := F.ex
  exact fn_of lk hcd S len fun A outer s H vs Q E hr hsp => body A outer s H vs Q E hr hsp
end Rd

set_option Elab.async false
set_option linter.all false
set_option maxRecDepth 100000
set_option maxHeartbeats 4000000
/-! keepers: runs from where a keeper stands; names in order -/
namespace Gx
open PySem PySem.Spec PyProof.Rows L2 GenW
theorem all_str {z : Str} {g : TG} {tt : TT} {te : TE} {vs : List Nat} {σ : L2.St} {d : Bool} {QT QF : Hp → Prop} {H2 : Hp} (Pv : Nat → Hp → Prop) (h0 : Pv 0 H2)
    (hs : ∀ i c H, z.cps[i]? = some c → Pv i H → g (.str ⟨#[c]⟩) (wipe σ vs) H fun σ2 H2 => wipe σ2 vs = wipe σ vs ∧ tt σ2 H2 fun b H3 => if b = true then te σ2 H3 fun y H4 => ∃ c, y = .bl c ∧ (if c = d then Pv (i + 1) H4 else QF H4) else Pv (i + 1) H3) (hd : ∀ H, Pv z.cps.size H → QT H) :
    ∃ W : Nat → Nat → Hp → Prop, (∃ m, W 0 m H2) ∧ Turns (Its z) g tt te vs σ d QT QF W := by
  refine ⟨fun i m H => m = z.cps.size - i ∧ i ≤ z.cps.size ∧ Pv i H, ⟨z.cps.size, by simp, Nat.zero_le _, h0⟩, ?_⟩
  rintro i m H ⟨rfl, hi, p⟩
  by_cases hlt : i < z.cps.size
  · refine .inr ⟨hlt, Pv (i + 1), fun H' p' => ⟨z.cps.size - (i + 1), by omega, rfl, hlt, p'⟩, fun x H' y => ?_⟩
    obtain ⟨rfl, c, ec, rfl⟩ := y
    exact hs i c _ ec p
  · have e : i = z.cps.size := by omega
    subst e
    exact .inl ⟨Nat.le_refl _, hd H p⟩
theorem tup_lst {K : PySem.W.Frag} {a : Addr} {xs : List V} {g : TG} {tt : TT} {te : TE} {vs : List Nat} {σ : L2.St} {Q : List V → Hp → Prop} {H2 : Hp} (hz : xs.length ≤ sizeLine) (Pv : Nat → List V → Hp → Prop) (h0 : Pv 0 [] H2) (hl : ∀ i ys H, i ≤ xs.length → Pv i ys H → SqL K H a xs) (hy : ∀ i ys H, Pv i ys H → ys.length ≤ i)
    (hs : ∀ i x ys H, xs[i]? = some x → Pv i ys H → g x (wipe σ vs) H fun σ2 H2 => wipe σ2 vs = wipe σ vs ∧ tt σ2 H2 fun b H3 => if b = true then te σ2 H3 fun y H4 => Pv (i + 1) (ys ++ [y]) H4 else Pv (i + 1) ys H3) (hd : ∀ ys H, Pv xs.length ys H → Q ys H) :
    ∃ W : Nat → Nat → List V → Hp → Prop, (∃ m, W 0 m [] H2) ∧ TurnsC (Itl K a) g tt te vs σ Q W := by
  refine ⟨fun i m ys H => m = xs.length - i ∧ i ≤ xs.length ∧ Pv i ys H, ⟨xs.length, by simp, Nat.zero_le _, h0⟩, ?_⟩
  rintro i m ys H ⟨rfl, hi, p⟩
  have q := hl i ys H hi p
  by_cases hlt : i < xs.length
  · refine .inr ⟨⟨xs, xs[i], q, by simp [hlt]⟩, Nat.lt_of_le_of_lt (hy i ys H p) (Nat.lt_of_lt_of_le hlt hz), Pv (i + 1), fun ys' H' p' => ⟨xs.length - (i + 1), by omega, rfl, hlt, p'⟩, fun x H' y => ?_⟩
    obtain ⟨e, y⟩ := y
    subst e
    exact hs i x ys _ (y xs q) p
  · have e : i = xs.length := by omega
    subst e
    exact .inl ⟨⟨xs, q, Nat.le_refl _⟩, hd ys H p⟩
end Gx
namespace Rd
open PySem PySem.Spec PyProof.Rows L2 Dt
/-! ### methods that may raise -/
theorem pe_methS' {X : Cx} {CX : CXT} {k : Nat} {C f : Addr} {fd : FuncData} {ps : List Str} {sp : Sp} {E : L2.St → XK} {m : Str} {apos pos : Pos} {o e : Expr} {es : List Expr} {ta : TE} {t : TA} {pl : Sem Bool} (he : PE X o ta) (c : Cls X.K C) (hm : Meth X.K C m f) (F : FnOk X.prog X.w X.K X.mg X.base CX k f fd ps sp) (hr : Room k X.A) (hb : Binds X.K fd ps []) (hx : ∀ σ, PassesAt CX X σ (E σ)) (ha : PA X (e :: es) t)
    (hst : starEach (e :: es) X.env = (false, eval e X.env) :: starEach es X.env := by rfl) (hpl : (backTo pos (starEach es X.env)).any (·.1) = false := by rfl)
    (ht : eval (.Call (.Attribute o m apos) (e :: es) [] pos) X.env = (do
      let ov ← eval o X.env
      standAt apos.atName
      let (f, first) ← holding [ov] (getMethod ov m pl)
      callWith pos f first (backTo pos (starEach (e :: es) X.env)) (backToKw pos (keywordEach [] X.env))) := by rfl) :
    PE X (.Call (.Attribute o m apos) (e :: es) [] pos) (fun σ H Q => ta σ H fun x H1 => ∃ (a dx : Addr) (fs : List (Str × V)), x = .ref a ∧ H1 a = some (.ins C dx fs) ∧ fs.lookup m = none ∧ t σ H1 fun vs H2 => sp (x :: vs) H2 Q (E σ)) := by
  refine ⟨fun pins s σ H Q I h => ?_⟩
  refine PySem.W.methodCall_KW (pl := pl) (thn (he.run pins s σ H _ I h) fun u s1 ⟨x, H1, I1, rx, a, dx, fs, ex, ea, l, q⟩ => ?_) ht
  subst ex
  obtain rfl : u = Value.ref a := rx
  refine getmeth_ok I1 ea c hm l ?_
  refine PySem.W.callWith_K (first := [.ref a]) (h₀ := X.base) I.ok.mod.kin hm.kp (thn (ha.run pos pins s1 σ H1 _ I1 q) fun us s2 ⟨vs, H2, I2, r, q2⟩ => ⟨I2.kIn, ?_⟩) hst hpl
  exact run_fnS (us := .ref a :: us) (vs := .ref a :: vs) F hr hb (hx σ) I2 (.cons rfl r) q2
/-- o.m(..): a method that lets nothing out, one that may -/
def MCal (CX : CXT) (P : Program) (w : World) (K : PySem.W.Frag) (mg : Str → Option Value) (base : Heap) (C : Addr) (k : Nat) (m : Str) (ps : List Str) (sp : Sp) : Prop :=
  ∃ (f : Addr) (fd : FuncData), FnOk P w K mg base CX k f fd ps sp ∧ Meth K C m f ∧ Binds K fd ps []
def tMth (C : Addr) (m : Str) (sp : Sp) (E : L2.St → XK) (ta : TE) (t : TA) : TE := fun σ H Q => ta σ H fun x H1 => ∃ (a dx : Addr) (fs : List (Str × V)), x = .ref a ∧ H1 a = some (.ins C dx fs) ∧ fs.lookup m = none ∧ t σ H1 fun vs H2 => sp (x :: vs) H2 Q (E σ)
theorem pe_mcalX {X : Cx} {W : WX} {k : Nat} {C : Addr} {ps : List Str} {sp : Sp} {m : Str} {apos pos : Pos} {o e : Expr} {es : List Expr} {ta : TE} {t : TA} {pl : Sem Bool} (c : Cls X.K C) (M : MCal (L2.CX X.prog X.w) X.prog X.w X.K X.mg X.base C k m ps sp) (hr : Room k X.A) (tk : Takes X W) (he : PE X o ta) (ha : PA X (e :: es) t)
    (hst : starEach (e :: es) X.env = (false, eval e X.env) :: starEach es X.env := by rfl) (hpl : (backTo pos (starEach es X.env)).any (·.1) = false := by rfl)
    (ht : eval (.Call (.Attribute o m apos) (e :: es) [] pos) X.env = (do
      let ov ← eval o X.env
      standAt apos.atName
      let (f, first) ← holding [ov] (getMethod ov m pl)
      callWith pos f first (backTo pos (starEach (e :: es) X.env)) (backToKw pos (keywordEach [] X.env))) := by rfl) :
    PE X (.Call (.Attribute o m apos) (e :: es) [] pos) (tMth C m sp (WE W) ta t) := by
  obtain ⟨f, fd, F, hm, hb⟩ := M
  exact pe_methS' he c hm F hr hb (passAt tk) ha hst hpl ht
theorem pe_mcal {X : Cx} {k : Nat} {C : Addr} {ps : List Str} {sp : Sp} {m : Str} {apos pos : Pos} {o e : Expr} {es : List Expr} {ta : TE} {t : TA} {pl : Sem Bool} (c : Cls X.K C) (M : MCal CX0 X.prog X.w X.K X.mg X.base C k m ps sp) (hr : Room k X.A) (he : PE X o ta) (ha : PA X (e :: es) t)
    (hst : starEach (e :: es) X.env = (false, eval e X.env) :: starEach es X.env := by rfl) (hpl : (backTo pos (starEach es X.env)).any (·.1) = false := by rfl)
    (ht : eval (.Call (.Attribute o m apos) (e :: es) [] pos) X.env = (do
      let ov ← eval o X.env
      standAt apos.atName
      let (f, first) ← holding [ov] (getMethod ov m pl)
      callWith pos f first (backTo pos (starEach (e :: es) X.env)) (backToKw pos (keywordEach [] X.env))) := by rfl) :
    PE X (.Call (.Attribute o m apos) (e :: es) [] pos) (tMth C m sp (fun _ => E0) ta t) := by
  obtain ⟨f, fd, F, hm, hb⟩ := M
  exact pe_methS' he c hm F hr hb (fun _ _ _ _ _ _ _ z => z.elim) ha hst hpl ht
theorem pe_mcal0 {X : Cx} {k : Nat} {C : Addr} {ps : List Str} {sp : Sp} {m : Str} {apos pos : Pos} {o : Expr} {ta : TE} {pl : Sem Bool} (c : Cls X.K C) (M : MCal CX0 X.prog X.w X.K X.mg X.base C k m ps sp) (hr : Room k X.A) (he : PE X o ta)
    (ht : eval (.Call (.Attribute o m apos) [] [] pos) X.env = (do
      let ov ← eval o X.env
      standAt apos.atName
      let (f, first) ← holding [ov] (getMethod ov m pl)
      callWith pos f first (backTo pos (starEach [] X.env)) (backToKw pos (keywordEach [] X.env))) := by rfl) :
    PE X (.Call (.Attribute o m apos) [] [] pos) (tMeth C m sp [] E0 ta tNil) := by
  obtain ⟨f, fd, F, hm, hb⟩ := M
  exact pe_meth0 he c hm F hr hb .nil pass0 ht
/-- C(..) -/
def MkCal (P : Program) (w : World) (K : PySem.W.Frag) (mg : Str → Option Value) (base : Heap) (C : Addr) (k : Nat) (x : Str) (ps : List Str) (sp : Sp) : Prop :=
  ∃ (f : Addr) (fd : FuncData), Mk K C f ∧ FnOk P w K mg base CX0 k f fd ps sp ∧ mg x = some (.ref C) ∧ Binds K fd ps []
theorem pe_mkcal {X : Cx} {k : Nat} {C : Addr} {x : Str} {ps : List Str} {sp : Sp} {p pos : Pos} {e : Expr} {es : List Expr} {t : TA} (M : MkCal X.prog X.w X.K X.mg X.base C k x ps sp) (hr : Room (k + 1) X.A) (hg : Gl X x)
    (ha : PA X (e :: es) t) (hdb : (x == ("__debug__" : Str)) = false := by decide) (he : starEach (e :: es) X.env = (false, eval e X.env) :: starEach es X.env := by rfl) (hpl : (backTo pos (starEach es X.env)).any (·.1) = false := by rfl) :
    PE X (.Call (.Name x p) (e :: es) [] pos) (tMake C sp [] E0 t) := by
  obtain ⟨f, fd, mk, F, hm, hb⟩ := M
  exact pe_make mk F hr hg hm hb .nil pass0 ha hdb he hpl
/-! ### texts in order -/
def leS (a b : Str) : Prop := a.cps.toList ≤ b.cps.toList
theorem leS_trans {a b c : Str} (h : leS a b) (k : leS b c) : leS a c := List.le_trans h k
theorem leS_anti {a b : Str} (h : leS a b) (k : leS b a) : a = b := by
  have e : a.cps.toList = b.cps.toList := List.le_antisymm h k
  obtain ⟨⟨x⟩⟩ := a
  obtain ⟨⟨y⟩⟩ := b
  simp at e
  rw [e]
theorem rising_le : ∀ (l : List Str) (p : Str), risingS p l = true → (p :: l).Pairwise leS
  | [], p, _ => List.pairwise_singleton _ _
  | x :: r, p, h => by
    have h2 : (!ltCps x.cps.toList p.cps.toList && risingS x r) = true := h
    obtain ⟨a, b⟩ := Bool.and_eq_true_iff.mp h2
    have ih := rising_le r x b
    have px : leS p x := by
      rw [ltCps_eq] at a
      have a2 : ¬ x.cps.toList < p.cps.toList := by simpa using a
      exact List.not_lt.mp a2
    refine List.pairwise_cons.mpr ⟨fun y hy => ?_, ih⟩
    rcases List.mem_cons.mp hy with e | e
    · rw [e]; exact px
    · exact leS_trans px ((List.pairwise_cons.mp ih).1 y e)
theorem sortedS_le {l : List Str} (h : sortedS l = true) : l.Pairwise leS := by
  cases l with
  | nil => exact List.Pairwise.nil
  | cons x r => exact rising_le r x h
theorem sortedS_one {l m : List Str} (h : sortedS l = true) (k : sortedS m = true) (p : l.Perm m) : l = m := List.Perm.eq_of_pairwise (fun a b _ _ x y => leS_anti x y) (sortedS_le h) (sortedS_le k) p
/-! ### where a run ends -/
def bumps (wds : List WD) (tk : List Int) (log : Log) : List Int := log.foldl (fun t e => bumpA t (plc wds e.1)) tk
theorem goR_end {many hues : Int} {wds : List WD} {tb : List (List Int)} {ord : List Int} (gr : GoodR many hues wds) (nd : ∀ wd ∈ wds, wd.1.Nodup) (gt : GoodT many hues tb) (go : GoodO wds.length ord) {R : Res} :
    ∀ (n : Nat) (tk : List Int) (log : Log), GoodK tb tk → goR wds tb ord n tk log = some R → ∃ more : Log, R.2.2 = log ++ more ∧ R.2.1 = stand tb (bumps wds tk more) ∧ GoodK tb (bumps wds tk more)
  | 0, _, _, _, h => nomatch h
  | n + 1, tk, log, g, h => by
    rw [goR] at h
    cases e : firstB (stand tb tk) wds ord with
    | none =>
      rw [e] at h
      have h2 : (true, stand tb tk, log) = R := Option.some.inj h
      rw [← h2]
      exact ⟨[], (List.append_nil _).symm, rfl, g⟩
    | some k =>
      rw [e] at h
      dsimp only at h
      obtain ⟨hk, hb⟩ := first_some e
      obtain ⟨k0, k1⟩ := go.mem k hk
      obtain ⟨wd, hw, he⟩ := wd_of k0 k1
      cases c : canN tb tk (plc wds k) with
      | false =>
        rw [c, if_neg (by decide)] at h
        have h2 : (false, stand tb tk, log) = R := Option.some.inj h
        rw [← h2]
        exact ⟨[], (List.append_nil _).symm, rfl, g⟩
      | true =>
        rw [c, if_pos rfl] at h
        obtain ⟨g2, _⟩ := bumpA_good g (can_of gr nd gt hw he c)
        obtain ⟨more, m1, m2, m3⟩ := goR_end gr nd gt go n _ _ g2 h
        exact ⟨(k, huesA (stand tb tk) (plc wds k)) :: more, by rw [m1, List.append_assoc]; rfl, m2, m3⟩
def addI (bd tk : List Int) : List Int := List.zipWith (· + ·) bd tk
theorem addI_len {bd tk : List Int} (h : bd.length = tk.length) : (addI bd tk).length = tk.length := by
  unfold addI
  rw [List.length_zipWith, h, Nat.min_self]
theorem addI_get {bd tk : List Int} (h : bd.length = tk.length) (p : Nat) : (addI bd tk).getD p 0 = bd.getD p 0 + tk.getD p 0 := by
  unfold addI
  rw [List.getD_eq_getElem?_getD, List.getD_eq_getElem?_getD, List.getD_eq_getElem?_getD, List.getElem?_zipWith]
  by_cases hp : p < tk.length
  · rw [List.getElem?_eq_getElem (by omega : p < bd.length), List.getElem?_eq_getElem hp]
    rfl
  · rw [List.getElem?_eq_none (by omega : bd.length ≤ p), List.getElem?_eq_none (by omega : tk.length ≤ p)]
    rfl
theorem ext_getD {a b : List Int} (hl : a.length = b.length) (h : ∀ p, a.getD p 0 = b.getD p 0) : a = b := by
  refine List.ext_getElem hl fun p h1 h2 => ?_
  have := h p
  rw [getD_get h1, getD_get h2] at this
  exact this
theorem addI_bump {bd tk : List Int} (h : bd.length = tk.length) (p : Nat) : addI bd (bump tk p) = bump (addI bd tk) p := by
  refine ext_getD ?_ fun i => ?_
  · rw [addI_len (by rw [bump_len]; exact h), bump_len, bump_len, addI_len h]
  · rw [addI_get (by rw [bump_len]; exact h), bump_get, bump_get, addI_get h, addI_get h, addI_len h]
    by_cases c : i = p ∧ p < tk.length
    · rw [if_pos c, if_pos c, c.1]
      omega
    · rw [if_neg c, if_neg c]
theorem addI_bumpA {bd : List Int} : ∀ (ps : List Int) (tk : List Int), bd.length = tk.length → addI bd (bumpA tk ps) = bumpA (addI bd tk) ps
  | [], _, _ => rfl
  | p :: r, tk, h => by
    show addI bd (bumpA (bump tk p.toNat) r) = bumpA (bump (addI bd tk) p.toNat) r
    rw [addI_bumpA r (bump tk p.toNat) (by rw [bump_len]; exact h), addI_bump h]
theorem bumpA_length (tk : List Int) : ∀ ps : List Int, (bumpA tk ps).length = tk.length := fun ps => by
  unfold bumpA
  induction ps generalizing tk with
  | nil => rfl
  | cons p r ih => rw [List.foldl_cons, ih, bump_len]
theorem addI_bumps {bd : List Int} (wds : List WD) : ∀ (log : Log) (tk : List Int), bd.length = tk.length → addI bd (bumps wds tk log) = bumps wds (addI bd tk) log
  | [], _, _ => rfl
  | e :: r, tk, h => by
    show addI bd (bumps wds (bumpA tk (plc wds e.1)) r) = bumps wds (bumpA (addI bd tk) (plc wds e.1)) r
    rw [addI_bumps wds r _ (by rw [bumpA_length]; exact h), addI_bumpA _ _ h]
theorem addI_zeros (bd : List Int) : addI bd (zerosI bd.length) = bd := by
  have hl : bd.length = (zerosI bd.length).length := by simp [zerosI]
  refine ext_getD ?_ fun p => ?_
  · rw [addI_len hl, ← hl]
  · rw [addI_get hl, zeros_get, Int.add_zero]
def dropT (tb : List (List Int)) (bd : List Int) : List (List Int) := List.zipWith (fun ds (k : Int) => ds.drop k.toNat) tb bd
theorem dropT_len {tb : List (List Int)} {bd : List Int} (g : GoodK tb bd) : (dropT tb bd).length = tb.length := by
  unfold dropT
  rw [List.length_zipWith, g.len, Nat.min_self]
theorem dropT_get {tb : List (List Int)} {bd : List Int} (g : GoodK tb bd) {p : Nat} (hp : p < tb.length) : (dropT tb bd).getD p [] = (tb.getD p []).drop (bd.getD p 0).toNat := by
  have h2 : p < bd.length := by rw [g.len]; exact hp
  unfold dropT
  rw [List.getD_eq_getElem?_getD, List.getElem?_zipWith, List.getElem?_eq_getElem hp, List.getElem?_eq_getElem h2, getD_get hp, getD_get h2]
  rfl
theorem dropT_good {many hues : Int} {tb : List (List Int)} {bd : List Int} (gt : GoodT many hues tb) (g : GoodK tb bd) : GoodT many hues (dropT tb bd) := by
  have each : ∀ ds ∈ dropT tb bd, ∃ p, p < tb.length ∧ ds = (tb.getD p []).drop (bd.getD p 0).toNat := fun ds hd => by
    obtain ⟨p, hp, e⟩ := List.getElem_of_mem hd
    have hp2 := hp
    rw [dropT_len g] at hp2
    exact ⟨p, hp2, by rw [← dropT_get g hp2, getD_get hp, e]⟩
  refine ⟨by rw [dropT_len g]; exact gt.len, fun ds hd => ?_, fun ds hd => ?_, fun ds hd h hh => ?_⟩
  · obtain ⟨p, hp, e⟩ := each ds hd
    have a := g.at_ p hp
    rw [e, List.length_drop]
    omega
  · obtain ⟨p, hp, e⟩ := each ds hd
    have a := gt.few _ (getD_mem (d := []) hp)
    rw [e, List.length_drop]
    omega
  · obtain ⟨p, hp, e⟩ := each ds hd
    rw [e] at hh
    exact gt.hue _ (getD_mem (d := []) hp) h (List.mem_of_mem_drop hh)
theorem add_good {tb : List (List Int)} {bd tk : List Int} (g : GoodK tb bd) (k : GoodK (dropT tb bd) tk) : GoodK tb (addI bd tk) := by
  have hl : bd.length = tk.length := by rw [g.len, k.len, dropT_len g]
  refine ⟨by rw [addI_len hl, k.len, dropT_len g], fun p hp => ?_⟩
  have a := g.at_ p hp
  have b := k.at_ p (by rw [dropT_len g]; exact hp)
  rw [dropT_get g hp, List.length_drop] at b
  rw [addI_get hl]
  omega
theorem stand_drop {tb : List (List Int)} {bd tk : List Int} (g : GoodK tb bd) (k : GoodK (dropT tb bd) tk) : stand (dropT tb bd) tk = stand tb (addI bd tk) := by
  have hl : bd.length = tk.length := by rw [g.len, k.len, dropT_len g]
  have g2 := add_good g k
  refine List.ext_getElem? fun p => ?_
  by_cases hp : p < tb.length
  · have a := g.at_ p hp
    have b := k.at_ p (by rw [dropT_len g]; exact hp)
    rw [stand_get k (by rw [dropT_len g]; exact hp), stand_get g2 hp, dropT_get g hp, addI_get hl]
    unfold atF
    have e : (bd.getD p 0 + tk.getD p 0).toNat = (bd.getD p 0).toNat + (tk.getD p 0).toNat := by omega
    rw [e]
    simp only [List.getD_eq_getElem?_getD, List.getElem?_drop]
  · rw [List.getElem?_eq_none (by rw [stand_len k, dropT_len g]; omega), List.getElem?_eq_none (by rw [stand_len g2]; omega)]
/-- a run of what is left, by where the keeper stands -/
theorem run_end {many hues : Int} {wds : List WD} {tb : List (List Int)} {bd ord : List Int} (gr : GoodR many hues wds) (nd : ∀ wd ∈ wds, wd.1.Nodup) (gt : GoodT many hues tb) (g : GoodK tb bd) (go : GoodO wds.length ord) {R : Res} (h : runOf wds (dropT tb bd) ord = some R) :
    R.2.1 = stand tb (bumps wds bd R.2.2) ∧ GoodK tb (bumps wds bd R.2.2) := by
  have gd := dropT_good gt g
  obtain ⟨more, m1, m2, m3⟩ := goR_end gr nd gd go _ _ _ (zeros_good gd) h
  rw [List.nil_append] at m1
  have el : (dropT tb bd).length = bd.length := by rw [dropT_len g, g.len]
  have e : addI bd (bumps wds (zerosI (dropT tb bd).length) more) = bumps wds bd more := by
    rw [addI_bumps wds more _ (by rw [el]; simp [zerosI]), el, addI_zeros]
  rw [m1, m2, stand_drop g m3, e]
  exact ⟨rfl, by rw [← e]; exact add_good g m3⟩
end Rd

set_option Elab.async false
set_option linter.all false
set_option maxRecDepth 100000
set_option maxHeartbeats 4000000
/-! what a keeper is, in the heap -/
namespace Rd
open PySem PySem.Spec PyProof.Rows L2 Dt
def NmOk (n : Str) : Prop := 1 ≤ n.cps.size ∧ n.cps.size ≤ 8 ∧ ∀ c ∈ n.cps.toList, 97 ≤ c ∧ c ≤ 122
abbrev Ws := List (Str × WD)
def wOf (ws : Ws) (n : Str) : WD := ((ws.find? fun e => decide (e.1 = n)).map (·.2)).getD ([], [])
def wsAt (ws : Ws) (ord : List Str) : List WD := ord.map (wOf ws)
def nmsOf (ws : Ws) : List Str := ws.map (·.1)
def kE (es : List (Str × Addr)) : List (Key × V) := es.map fun e => (Sum.inr e.1, V.ref e.2)
def IsNw (H : Hp) (e : Str × Addr) (w : Str × WD) : Prop := e.1 = w.1 ∧ IsWish H e.2 w.2
def IsWs (H : Hp) (a : Addr) (ws : Ws) : Prop := ∃ es, H a = some (.dK (kE es)) ∧ Paired (IsNw H) es ws
theorem IsNw.mono {H H' : Hp} {e : Str × Addr} {w : Str × WD} (t : Tups H H') (h : IsNw H e w) : IsNw H' e w := ⟨h.1, h.2.mono t⟩
theorem IsWs.mono {H H' : Hp} {a : Addr} {ws : Ws} (t : Tups H H') (k : ∀ es, H a = some (.dK es) → H' a = some (.dK es)) (h : IsWs H a ws) : IsWs H' a ws := let ⟨es, h1, h2⟩ := h; ⟨es, k _ h1, pairedMap (fun _ _ e => e.mono t) h2⟩
theorem kE_keys (es : List (Str × Addr)) : (kE es).map (·.1) = (es.map (·.1)).map Sum.inr := by
  unfold kE
  rw [List.map_map, List.map_map]
  rfl
theorem nw_names {H : Hp} : ∀ {es : List (Str × Addr)} {ws : Ws}, Paired (IsNw H) es ws → es.map (·.1) = nmsOf ws
  | _, _, .nil => rfl
  | _, _, .cons h t => by
    rw [List.map_cons, nw_names t, h.1]
    rfl
theorem nw_at {H : Hp} {n : Str} : ∀ {es : List (Str × Addr)} {ws : Ws}, Paired (IsNw H) es ws → n ∈ nmsOf ws → ∃ a, valV (kE es) (Sum.inr n) = some (.ref a) ∧ IsWish H a (wOf ws n) ∧ (n, wOf ws n) ∈ ws
  | _, _, .nil, h => nomatch h
  | _, _, .cons (a := e) (b := w) (l₁ := es) (l₂ := ws) h t, hn => by
    by_cases c : e.1 = n
    · refine ⟨e.2, ?_, ?_, ?_⟩
      · exact valV_pos (p := (Sum.inr e.1, V.ref e.2)) (by rw [c])
      · have e2 : wOf (w :: ws) n = w.2 := by
          unfold wOf
          rw [List.find?_cons, decide_eq_true (show w.1 = n by rw [← h.1]; exact c)]
          rfl
        rw [e2]
        exact h.2
      · have e2 : wOf (w :: ws) n = w.2 := by
          unfold wOf
          rw [List.find?_cons, decide_eq_true (show w.1 = n by rw [← h.1]; exact c)]
          rfl
        rw [e2, ← c, h.1]
        exact List.mem_cons_self
    · have hn2 : n ∈ nmsOf ws := by
        rcases List.mem_cons.mp hn with z | z
        · exact absurd (z.trans h.1.symm).symm c
        · exact z
      have e2 : wOf (w :: ws) n = wOf ws n := by
        unfold wOf
        rw [List.find?_cons, decide_eq_false (fun z : w.1 = n => c (by rw [h.1]; exact z))]
      obtain ⟨a, a1, a2, a3⟩ := nw_at t hn2
      refine ⟨a, ?_, by rw [e2]; exact a2, by rw [e2]; exact List.mem_cons_of_mem _ a3⟩
      rw [← a1]
      exact valV_neg (p := (Sum.inr e.1, V.ref e.2)) (fun z => c (Sum.inr.inj z))
theorem valV_of_mem {k : Key} {v : V} : ∀ {kvs : List (Key × V)}, (kvs.map (·.1)).Nodup → (k, v) ∈ kvs → valV kvs k = some v
  | [], _, h => nomatch h
  | p :: r, nd, h => by
    have nd2 := List.nodup_cons.mp nd
    rcases List.mem_cons.mp h with e | e
    · rw [← e]
      exact valV_pos (p := (k, v)) rfl
    · rw [valV_neg (fun z => nd2.1 (List.mem_map.mpr ⟨(k, v), e, z.symm⟩))]
      exact valV_of_mem nd2.2 e
theorem nw_not {n : Str} : ∀ {es : List (Str × Addr)}, n ∉ es.map (·.1) → valV (kE es) (Sum.inr n) = none
  | [], _ => rfl
  | e :: r, h => by
    have h1 : ¬ e.1 = n := fun z => h (by rw [← z]; exact List.mem_cons_self)
    have h2 : n ∉ r.map (·.1) := fun z => h (List.mem_cons_of_mem _ z)
    rw [← nw_not h2]
    exact valV_neg (p := (Sum.inr e.1, V.ref e.2)) (fun z => h1 (Sum.inr.inj z))
theorem kE_put {es : List (Str × Addr)} {n : Str} {a : Addr} (h : n ∉ es.map (·.1)) : putK (kE es) (Sum.inr n) (.ref a) = kE (es ++ [(n, a)]) := by
  rw [putK_new _ (nw_not h)]
  unfold kE
  rw [List.map_append]
  rfl
theorem kE_len (es : List (Str × Addr)) : (kE es).length = es.length := by
  unfold kE
  rw [List.length_map]
theorem kE_drop (es : List (Str × Addr)) (n : Str) : dropK (kE es) (Sum.inr n) = kE (es.filter fun e => decide (e.1 ≠ n)) := by
  unfold dropK kE
  rw [List.filter_map]
  congr 1
  refine List.filter_congr fun e _ => ?_
  rw [Bool.eq_iff_iff]
  constructor
  · intro h
    exact decide_eq_true fun z => (of_decide_eq_true h) (by show (Sum.inr e.1 : Key) = Sum.inr n; rw [z])
  · intro h
    exact decide_eq_true fun z => (of_decide_eq_true h) (Sum.inr.inj z)
def dropW (ws : Ws) (n : Str) : Ws := ws.filter fun e => decide (e.1 ≠ n)
theorem nw_filter {H : Hp} (n : Str) : ∀ {es : List (Str × Addr)} {ws : Ws}, Paired (IsNw H) es ws → Paired (IsNw H) (es.filter fun e => decide (e.1 ≠ n)) (dropW ws n)
  | _, _, .nil => .nil
  | _, _, .cons (a := e) (b := w) (l₁ := es) (l₂ := ws) h t => by
    unfold dropW
    rw [List.filter_cons, List.filter_cons, h.1]
    by_cases c : decide (w.1 ≠ n) = true
    · rw [if_pos c, if_pos c]
      exact .cons h (nw_filter n t)
    · rw [if_neg c, if_neg c]
      exact nw_filter n t
/-- what may be kept -/
structure GoodWs (many hues : Int) (ws : Ws) : Prop where
  eight : ws.length ≤ 8
  nd : (nmsOf ws).Nodup
  each : ∀ w ∈ ws, NmOk w.1 ∧ Good many hues w.2 ∧ Neat w.2
theorem GoodWs.drop {many hues : Int} {ws : Ws} (g : GoodWs many hues ws) (n : Str) : GoodWs many hues (dropW ws n) := by
  refine ⟨Nat.le_trans (List.length_filter_le _ _) g.eight, ?_, fun w hw => g.each w (List.mem_filter.mp hw).1⟩
  exact List.Sublist.nodup ((List.filter_sublist (l := ws)).map _) g.nd
theorem drop_names (ws : Ws) (n : Str) : ∀ m, m ∈ nmsOf (dropW ws n) ↔ m ∈ nmsOf ws ∧ m ≠ n := fun m => by
  unfold nmsOf dropW
  rw [List.mem_map, List.mem_map]
  constructor
  · rintro ⟨w, hw, rfl⟩
    obtain ⟨h1, h2⟩ := List.mem_filter.mp hw
    exact ⟨⟨w, h1, rfl⟩, of_decide_eq_true h2⟩
  · rintro ⟨⟨w, hw, rfl⟩, h⟩
    exact ⟨w, List.mem_filter.mpr ⟨hw, decide_eq_true h⟩, rfl⟩
theorem GoodWs.add {many hues : Int} {ws : Ws} (g : GoodWs many hues ws) {n : Str} {wd : WD} (h8 : ws.length < 8) (hn : n ∉ nmsOf ws) (ok : NmOk n) (gd : Good many hues wd) (ne : Neat wd) : GoodWs many hues (ws ++ [(n, wd)]) := by
  refine ⟨by rw [List.length_append]; exact h8, ?_, fun w hw => ?_⟩
  · unfold nmsOf
    rw [List.map_append]
    exact List.nodup_append.mpr ⟨g.nd, List.nodup_cons.mpr ⟨(fun z => nomatch z), List.nodup_nil⟩, fun a ha b hb z => hn (by rw [List.mem_singleton.mp (show b ∈ [n] from hb)] at z; rw [← z]; exact ha)⟩
  · rcases List.mem_append.mp hw with z | z
    · exact g.each w z
    · rw [List.mem_singleton.mp z]
      exact ⟨ok, gd, ne⟩
theorem wsAt_len (ws : Ws) (ord : List Str) : (wsAt ws ord).length = ord.length := by
  unfold wsAt
  rw [List.length_map]
theorem wOf_mem {ws : Ws} {n : Str} (h : n ∈ nmsOf ws) : (n, wOf ws n) ∈ ws := by
  obtain ⟨w, hw, e⟩ := List.mem_map.mp h
  unfold wOf
  cases f : ws.find? fun e => decide (e.1 = n) with
  | none => exact absurd (decide_eq_true e) (List.find?_eq_none.mp f w hw)
  | some u =>
    have e2 : u.1 = n := of_decide_eq_true (List.find?_some (p := fun e : Str × WD => decide (e.1 = n)) f)
    have m2 := List.mem_of_find?_eq_some f
    show (n, u.2) ∈ ws
    rw [← e2]
    exact m2
theorem GoodWs.wish {many hues : Int} {ws : Ws} (g : GoodWs many hues ws) {ord : List Str} (p : ord.Perm (nmsOf ws)) : ∀ wd ∈ wsAt ws ord, Good many hues wd ∧ Neat wd := fun wd hw => by
  obtain ⟨n, hn, rfl⟩ := List.mem_map.mp hw
  have z := g.each _ (wOf_mem (p.mem_iff.mp hn))
  exact ⟨z.2.1, z.2.2⟩
theorem wsp_len {ws : Ws} {ord : List Str} (p : ord.Perm (nmsOf ws)) : ord.length = ws.length := by
  rw [p.length_eq]
  unfold nmsOf
  rw [List.length_map]
theorem GoodWs.rid {many hues : Int} {ws : Ws} (g : GoodWs many hues ws) {ord : List Str} (p : ord.Perm (nmsOf ws)) (m1 : 1 ≤ many) (m6 : many ≤ 6) (h2 : 2 ≤ hues) (h4 : hues ≤ 4) : GoodR many hues (wsAt ws ord) :=
  ⟨m1, m6, h2, h4, by rw [wsAt_len, wsp_len p]; exact g.eight, fun wd hw => (g.wish p wd hw).1⟩
theorem goodO_rng {n : Nat} : GoodO n (rngI (n : Int)) := by
  refine ⟨fun z hz => rngI_mem hz, fun k hk => rngI_all (by omega), by rw [rngI_len]; omega⟩
/-! ### the object -/
def kfs (many hues : Int) (ta ba wa : Addr) : List (Str × V) := [("many", .int many), ("hues", .int hues), ("table", .ref ta), ("beyond", .ref ba), ("wishes", .ref wa)]
theorem lk_ne {a k : Str} {v : V} {r : List (Str × V)} (h : (a == k) = false) : List.lookup a ((k, v) :: r) = List.lookup a r := by rw [List.lookup_cons, h]
theorem lk_eq {a : Str} {v : V} {r : List (Str × V)} : List.lookup a ((a, v) :: r) = some v := by rw [List.lookup_cons, beq_self_eq_true]
section
variable {many hues : Int} {ta ba wa wa' : Addr}
theorem kfs_many : (kfs many hues ta ba wa).lookup ("many" : Str) = some (.int many) := lk_eq
theorem kfs_hues : (kfs many hues ta ba wa).lookup ("hues" : Str) = some (.int hues) := (lk_ne (by decide +kernel)).trans lk_eq
theorem kfs_table : (kfs many hues ta ba wa).lookup ("table" : Str) = some (.ref ta) := (lk_ne (by decide +kernel)).trans ((lk_ne (by decide +kernel)).trans lk_eq)
theorem kfs_beyond : (kfs many hues ta ba wa).lookup ("beyond" : Str) = some (.ref ba) := (lk_ne (by decide +kernel)).trans ((lk_ne (by decide +kernel)).trans ((lk_ne (by decide +kernel)).trans lk_eq))
theorem kfs_wishes : (kfs many hues ta ba wa).lookup ("wishes" : Str) = some (.ref wa) := (lk_ne (by decide +kernel)).trans ((lk_ne (by decide +kernel)).trans ((lk_ne (by decide +kernel)).trans ((lk_ne (by decide +kernel)).trans lk_eq)))
theorem kfs_no {m : Str} (h1 : (m == ("many" : Str)) = false) (h2 : (m == ("hues" : Str)) = false) (h3 : (m == ("table" : Str)) = false) (h4 : (m == ("beyond" : Str)) = false) (h5 : (m == ("wishes" : Str)) = false) : (kfs many hues ta ba wa).lookup m = none :=
  (lk_ne h1).trans ((lk_ne h2).trans ((lk_ne h3).trans ((lk_ne h4).trans ((lk_ne h5).trans rfl))))
theorem kfs_put : putF ("wishes" : Str) (.ref wa') (kfs many hues ta ba wa) = kfs many hues ta ba wa' := by
  unfold kfs
  have e1 : ¬ (("many" : Str) = "wishes") := by decide +kernel
  have e2 : ¬ (("hues" : Str) = "wishes") := by decide +kernel
  have e3 : ¬ (("table" : Str) = "wishes") := by decide +kernel
  have e4 : ¬ (("beyond" : Str) = "wishes") := by decide +kernel
  simp only [putF, if_neg e1, if_neg e2, if_neg e3, if_neg e4, if_true]
end
structure KpAt (C : Addr) (Av : Addr → Prop) (H : Hp) (kp ba wa : Addr) (many hues : Int) (tb : List (List Int)) (bd : List Int) (ws : Ws) : Prop where
  ins : ∃ dx ta, H kp = some (.ins C dx (kfs many hues ta ba wa)) ∧ IsTab (fun b => b = ba ∨ Av b) H ta tb
  nba : ¬ Av ba
  bds : H ba = some (.lst (bd.map V.int))
  wss : IsWs H wa ws
  m1 : 1 ≤ many
  m6 : many ≤ 6
  h2 : 2 ≤ hues
  h4 : hues ≤ 4
  gt : GoodT many hues tb
  gk : GoodK tb bd
  gw : GoodWs many hues ws
/-- but for the keeper's own -/
structure FrK (Ps : List Addr) (kp ba wa : Addr) (H H' : Hp) : Prop where
  keep : ∀ b o, b ∉ Ps → b ≠ kp → b ≠ ba → b ≠ wa → H b = some o → H' b = some o
  tabs : Tabs Ps H'
theorem FrK.of {Ps : List Addr} {kp ba wa : Addr} {H H' : Hp} (f : FrS Ps H H') : FrK Ps kp ba wa H H' := ⟨fun b o n _ _ _ e => f.1 b o n e, f.2⟩
theorem KpAt.frs {C : Addr} {Av : Addr → Prop} {H H' : Hp} {kp ba wa : Addr} {many hues : Int} {tb : List (List Int)} {bd : List Int} {ws : Ws} {Ps : List Addr} (h : KpAt C Av H kp ba wa many hues tb bd ws) (t : Tabs Ps H) (f : FrS Ps H H') : KpAt C Av H' kp ba wa many hues tb bd ws := by
  obtain ⟨dx, ta, i1, i2⟩ := h.ins
  have np : ∀ {b : Addr} {o : HO}, H b = some o → (∀ ps, o ≠ .tbl ps) → H' b = some o := fun {b o} e n => f.1 b o (fun z => by
    obtain ⟨ps, q, _⟩ := t b z
    rw [e] at q
    exact n ps (Option.some.inj q)) e
  exact { h with ins := ⟨dx, ta, np i1 (fun _ z => nomatch z), i2.seqs (f.seqs t)⟩, bds := (f.seqs t).2 _ _ h.bds, wss := h.wss.mono (f.tups t) (fun es e => np e (fun _ z => nomatch z)) }
theorem KpAt.weak {C : Addr} {Av Bv : Addr → Prop} {H : Hp} {kp ba wa : Addr} {many hues : Int} {tb : List (List Int)} {bd : List Int} {ws : Ws} (h : KpAt C Av H kp ba wa many hues tb bd ws) (k : ∀ b, Bv b → Av b) : KpAt C Bv H kp ba wa many hues tb bd ws := by
  obtain ⟨dx, ta, i1, i2⟩ := h.ins
  exact { h with ins := ⟨dx, ta, i1, i2.weak fun b e => e.elim .inl fun z => .inr (k b z)⟩, nba := fun z => h.nba (k _ z) }
/-- where all but some lists stay -/
theorem KpAt.keep {C : Addr} {Av : Addr → Prop} {H H' : Hp} {kp ba wa : Addr} {many hues : Int} {tb : List (List Int)} {bd : List Int} {ws : Ws} (h : KpAt C Av H kp ba wa many hues tb bd ws) (k : ∀ b o, ¬ (∃ xs, o = .lst xs ∧ Av b) → H b = some o → H' b = some o) : KpAt C Av H' kp ba wa many hues tb bd ws := by
  obtain ⟨dx, ta, i1, i2⟩ := h.ins
  have nl : ∀ {b : Addr} {o : HO}, (∀ xs, o ≠ .lst xs) → H b = some o → H' b = some o := fun {b o} n e => k b o (fun ⟨xs, z, _⟩ => n xs z) e
  exact { h with ins := ⟨dx, ta, nl (fun _ z => nomatch z) i1, i2.mono fun b xs n e => k b _ (fun ⟨_, _, z⟩ => n (.inr z)) e⟩, bds := k ba _ (fun ⟨_, _, z⟩ => h.nba z) h.bds, wss := h.wss.mono (fun b xs e => nl (fun _ z => nomatch z) e) (fun es e => nl (fun _ z => nomatch z) e) }
theorem KpAt.ne {C : Addr} {Av : Addr → Prop} {H : Hp} {kp ba wa : Addr} {many hues : Int} {tb : List (List Int)} {bd : List Int} {ws : Ws} (h : KpAt C Av H kp ba wa many hues tb bd ws) : kp ≠ ba ∧ kp ≠ wa ∧ ba ≠ wa := by
  obtain ⟨⟨dx, ta, i1, i2⟩, _, h2, ⟨es, h3, _⟩, _⟩ := h
  exact ⟨ne_of i1 h2 (fun z => nomatch z), ne_of i1 h3 (fun z => nomatch z), ne_of h2 h3 (fun z => nomatch z)⟩
theorem FrK.tups {C : Addr} {Av : Addr → Prop} {H H' : Hp} {kp ba wa : Addr} {many hues : Int} {tb : List (List Int)} {bd : List Int} {ws : Ws} {Ps : List Addr} (h : KpAt C Av H kp ba wa many hues tb bd ws) (t : Tabs Ps H) (f : FrK Ps kp ba wa H H') : Tups H H' := fun b xs e => by
  obtain ⟨⟨dx, ta, i1, i2⟩, _, h2, ⟨es, h3, _⟩, _⟩ := h
  exact f.keep b _ (t.tup e) (ne_of e i1 (fun z => nomatch z)) (ne_of e h2 (fun z => nomatch z)) (ne_of e h3 (fun z => nomatch z)) e
theorem FrK.trans {Ps : List Addr} {kp ba wa wa' : Addr} {H H1 H2 : Hp} (a : FrK Ps kp ba wa H H1) (n : wa' = wa ∨ H wa' = none) (b : FrK Ps kp ba wa' H1 H2) : FrK Ps kp ba wa H H2 := ⟨fun x o n1 n2 n3 n4 e => b.keep x o n1 n2 n3 (fun z => by
  rcases n with q | q
  · exact n4 (z.trans q)
  · rw [z, q] at e; cases e) (a.keep x o n1 n2 n3 n4 e), b.tabs⟩
end Rd

set_option Elab.async false
set_option linter.all false
set_option maxRecDepth 100000
set_option maxHeartbeats 4000000
/-! generator expressions within generator expressions: the outer one's code is kept track of -/
namespace Gx
open PySem PySem.Spec PyProof.Rows L2 GenW
/-- a code object and its table's place -/
def CodeO (c P : Addr) : HO := .ext fun h => PySem.W.CodeHd h c P
theorem codeO_ok {Pr : Program} {w : World} {H : Hp} {h : Heap} {c P : Addr} (x : PySem.W.CodeHd h c P) : ObjOk Pr w H h c (CodeO c P) := by
  refine ⟨x, ?_, fun h1 h2 y k => ?_⟩
  · obtain ⟨o, _, _, _, _, _, _, _, _, e, _⟩ := x
    exact ⟨o, e⟩
  · obtain ⟨o, vs, file, tf, flags, tg, inF, text, tt, e, r⟩ := y
    exact ⟨o, vs, file, tf, flags, tg, inF, text, tt, k _ e, r⟩
/-- a table, all codes of which are kept track of -/
def NestG (A : List Addr) (H : Hp) (P : Addr) : Prop := ∃ ps : Array Value, H P = some (.tbl ps) ∧ TriplesOk ps.toList ∧ ∀ pos cv, codeAmong pos ps.toList = some cv → ∃ c' P', cv = .ref c' ∧ H c' = some (CodeO c' P') ∧ GxR.TabG H P' ∧ P' ∉ A
def Nests (A Qs : List Addr) (H : Hp) : Prop := (∀ P ∈ A, H P ≠ none) ∧ ∀ P ∈ Qs, P ∈ A ∧ NestG A H P
theorem NestG.tab {A : List Addr} {H : Hp} {P : Addr} (h : NestG A H P) : GxR.TabG H P := let ⟨ps, h1, h2, _⟩ := h; ⟨ps, h1, h2⟩
theorem NestG.new {A : List Addr} {H : Hp} {P : Addr} (h : H P = some (.tbl #[])) : NestG A H P := ⟨#[], h, trivial, fun pos cv e => by simp [codeAmong] at e⟩
structure Nested (A Qs : List Addr) (P c' P' : Addr) (H1 H2 : Hp) : Prop where
  nest : Nests A Qs H2
  code : H2 c' = some (CodeO c' P')
  tab : GxR.TabG H2 P'
  ne : P' ∉ A
  keep : ∀ b o, b ≠ P → H1 b = some o → H2 b = some o
theorem Nests.tabbed {A Qs : List Addr} {H H' : Hp} {P' : Addr} (h : Nests A Qs H) (ne : P' ∉ A) (hP : GxR.TabG H P') (t : GxR.Tabbed P' H H') : Nests A Qs H' := by
  refine ⟨fun P hm => by rw [t.2 P (fun z => ne (z ▸ hm))]; exact h.1 P hm, fun P hm => ⟨(h.2 P hm).1, ?_⟩⟩
  obtain ⟨hA, ps, h1, h2, h3⟩ := h.2 P hm
  refine ⟨ps, by rw [t.2 P (fun z => ne (z ▸ hA))]; exact h1, h2, fun pos cv e => ?_⟩
  obtain ⟨c2, P2, e1, e2, e3, e4⟩ := h3 pos cv e
  obtain ⟨qs, q1, _⟩ := hP
  refine ⟨c2, P2, e1, ?_, ?_, e4⟩
  · rw [t.2 c2 (fun z => by rw [z, q1] at e2; cases e2)]
    exact e2
  · by_cases hb : P2 = P'
    · rw [hb]
      exact t.1
    · obtain ⟨rs, r1, r2⟩ := e3
      exact ⟨rs, by rw [t.2 P2 hb]; exact r1, r2⟩
theorem among_snoc {pos pos' : Pos} {c cv : Value} (l : List Value) (h : TriplesOk l) (e : codeAmong pos (l ++ [rawInt pos'.line, rawInt pos'.col, c]) = some cv) : codeAmong pos l = some cv ∨ cv = c := by
  fun_induction TriplesOk l with
  | case1 =>
    simp only [List.nil_append, codeAmong, rawInt] at e
    split at e
    · exact .inr (Option.some.inj e).symm
    · cases e
  | case2 a b d f g r ih =>
    simp only [List.cons_append, codeAmong] at e ⊢
    split at e
    · rename_i hh
      rw [if_pos hh]
      exact .inl e
    · rename_i hh
      rw [if_neg hh]
      exact ih h e
  | case3 => exact h.elim
section
variable {X : Cx} {pins : List (Addr × Obj)} {σ : L2.St} {H : Hp} {s : Shared}
theorem inv_tabN {P c' P' : Addr} {ps more : Array Value} {h' : Heap} {g' : Array GenState} {d' : Drawn} {t' : Nat} (I : Inv X pins σ H s) (hP : H P = some (.tbl ps)) (k : ∀ b o, b ≠ P → s.heap.get? b = some o → h'.get? b = some o)
    (hm : h'.get? P = some { cls := .none, data := .fields (ps ++ more) }) (hg : AllBare g') (c0 : s.heap.objs.size ≤ c') (p0 : s.heap.objs.size ≤ P') (hc : PySem.W.CodeHd h' c' P') (hp : h'.get? P' = some { cls := .none, data := .fields #[] }) :
    Inv X pins σ (upd (upd (upd H P (.tbl (ps ++ more))) c' (CodeO c' P')) P' (.tbl #[])) { s with heap := h', gens := g', drawn := d', toks := t' } := by
  have hPl : P < s.heap.objs.size := (I.hok P _ hP).lt
  have Pc : P ≠ c' := Nat.ne_of_lt (Nat.lt_of_lt_of_le hPl c0)
  have PP : P ≠ P' := Nat.ne_of_lt (Nat.lt_of_lt_of_le hPl p0)
  have cP : c' ≠ P' := by
    obtain ⟨_, _, _, _, _, _, _, _, _, _, _, _, _, _, _, _, _, _, n⟩ := hc
    exact n
  have hcn : H c' = none := I.hok.fresh c0
  have hpn : H P' = none := I.hok.fresh p0
  have at_ : ∀ b, b ≠ P → b ≠ c' → b ≠ P' → upd (upd (upd H P (.tbl (ps ++ more))) c' (CodeO c' P')) P' (.tbl #[]) b = H b := fun b h1 h2 h3 => by rw [upd_ne h3, upd_ne h2, upd_ne h1]
  have atP : upd (upd (upd H P (.tbl (ps ++ more))) c' (CodeO c' P')) P' (.tbl #[]) P = some (.tbl (ps ++ more)) := by
    rw [upd_ne PP, upd_ne Pc, upd_same]
  have nP : ∀ b u, H b = some u → (∀ q, u ≠ .tbl q) → b ≠ P := fun b u e q z => by
    rw [z, hP] at e
    exact q ps (Option.some.inj e).symm
  have nN : ∀ b, H b = none → b ≠ P := fun b e z => by
    rw [z, hP] at e
    cases e
  have nc : ∀ b u, H b = some u → b ≠ c' ∧ b ≠ P' := fun b u e => ⟨fun z => (by rw [z, hcn] at e; cases e), fun z => (by rw [z, hpn] at e; cases e)⟩
  have ns : ∀ b o, s.heap.get? b = some o → b ≠ c' ∧ b ≠ P' := fun b o e => by
    have l := Heap.lt_size e
    exact ⟨Nat.ne_of_lt (Nat.lt_of_lt_of_le l c0), Nat.ne_of_lt (Nat.lt_of_lt_of_le l p0)⟩
  refine I.step (g' := g') (d' := d') (ch := []) (fun b hb => absurd hb (by simp)) (fun b o _ _ _ e n => k b o (nN b n) e) (fun b o _ _ _ e n => ⟨o.slots, k b o (nN b n) e⟩)
    (fun b o _ e n => by rw [at_ b (nN b n) (ns b o e).1 (ns b o e).2]; exact n) (fun b o _ e => ?_) (fun b xs e => by rw [at_ b (nP b _ e (fun q z => by cases z)) (nc b _ e).1 (nc b _ e).2]; exact e) (fun b o u e => by rw [at_ b (nP b _ e (fun q z => by cases z)) (nc b _ e).1 (nc b _ e).2]; exact e) (fun b qs e => ?_) (fun m hn => ?_) (fun b u e => ?_) hg
  · by_cases hb : b = P
    · rw [hb]
      exact ⟨_, hm⟩
    · exact ⟨o, k b o hb e⟩
  · by_cases hb : b = P
    · rw [hb, hP] at e
      cases e
      rw [hb, atP]
      exact ⟨more, rfl⟩
    · rw [at_ b hb (nc b _ e).1 (nc b _ e).2, e]
      exact ⟨#[], by simp⟩
  · obtain ⟨ob, es, ep, ho, r⟩ := hn
    exact ⟨ob, es, ep, k _ ob (nN _ I.free) ho, r⟩
  · by_cases h3 : b = P'
    · subst h3
      rw [upd_same] at e
      cases e
      exact hp
    by_cases h2 : b = c'
    · subst h2
      rw [upd_ne h3, upd_same] at e
      cases e
      exact codeO_ok hc
    by_cases h1 : b = P
    · subst h1
      rw [atP] at e
      cases e
      exact hm
    · rw [at_ b h1 h2 h3] at e
      refine (I.hok b u e).stay (fun d v hd q => k d v ?_ q) (fun d q => by rw [at_ d (nP d _ q (fun q z => by cases z)) (nc d _ q).1 (nc d _ q).2]; exact q) fun d xs q => by rw [at_ d (nP d _ q (fun q z => by cases z)) (nc d _ q).1 (nc d _ q).2]; exact q
      rcases hd with z | z
      · rw [z]
        exact h1
      · exact nP d _ z (fun q z => by cases z)
theorem gen_madeO {c P : Addr} {elt tg iter : Expr} {ifs : List Expr} {gpos : Pos} {scope : Scope} {own : List (Str × Nat)} {wi : TI} {g : TG} {tt : TT} {te : Value → TE} {k : Nat} {AA Qs : List Addr} {QQ : List V → Hp → Prop}
    (hr : Room (k + 1) X.A) (hc : X.calm = true) (hN : X.N.Nodup) (TB : GxR.TabB X.base X.mg c P) (hPm : P ∈ Qs) (hcode : X.env.code = .ref c) (ok : BlkOk X.N X.env.scope scope own) (S : GenK scope) (hi : PI X tg iter wi) (hs : ∀ v, genFold iter X.env v = pure v)
    (hg : ∀ (A : Around) (s : Shared) (H : Hp) (C : Addr) (code : Value) (fp : List Addr), Room k A → PG (gcx X A s H (genEnv scope (cloFrom X.env.cells scope.names []) C code builtinsNs X.env) fp) tg g)
    (ht : ∀ (A : Around) (s : Shared) (H : Hp) (C : Addr) (code : Value) (fp : List Addr), Room k A → PTs (gcx X A s H (genEnv scope (cloFrom X.env.cells scope.names []) C code builtinsNs X.env) fp) ifs tt)
    (he : ∀ (A : Around) (s : Shared) (H : Hp) (C : Addr) (code : Value) (fp : List Addr), Room k A → PE (gcx X A s H (genEnv scope (cloFrom X.env.cells scope.names []) C code builtinsNs X.env) fp) elt (te code))
    (I : Inv X pins σ H s) (h : wi σ H fun J H1 => Nests AA Qs H1 ∧ ∀ c' P' H2, Nested AA Qs P c' P' H1 H2 → ∃ W : Nat → Nat → List V → Hp → Prop, (∃ m, W 0 m [] H2) ∧ TurnsC J g tt (te (.ref c')) (own.map (·.2)) σ QQ W) :
    wpAny (model X.prog X.w) X.A (eval (.GeneratorExp elt [⟨tg, iter, ifs, 0⟩] scope gpos) X.env) (fun v s5 => ∃ (s3 : Shared) (H3 : Hp) (fp : List Addr), GMade X.prog X.w (k + 1) X.stack H3 s3 fp QQ (fun _ _ _ => False) v s5 ∧
      ∀ (H' : Hp) (s' : Shared), s'.os = s3.os → AllBare s'.gens → Un (frs X.stack) fp H3 H' s3.heap s'.heap → HOk X.prog X.w H' s'.heap → Inv X pins σ H' s') X.xe s := by
  have hfree : ∀ y ∈ scope.names, y.2 = .free → ∃ c, X.env.cells.lookup y.1 = some c := fun y hy e => by
    rcases ok.free y hy e with k | k
    · exact I.ok.has _ (.inl k)
    · exact I.ok.has _ (.inr k)
  refine wpAny_GeneratorExp_make S.co (closure_ok hfree) S.cell S.dot ok.kind hr.depth (wpAny_mono (hi.run pins s σ H _ I h) (fun xv s1 h1 => wpAny_mono h1 (fun itv s2 h2 => ?_) fun _ _ e => e) fun _ _ e => e) hs
  obtain ⟨it, fp, tn, J, H1, rfl, I2, T, st2, f2, hNest, hW⟩ := h2
  refine ⟨I2.nolimit, ?_⟩
  obtain ⟨hPA, ps, hP, htr, hall⟩ := hNest.2 P hPm
  have tabS : s2.heap.get? P = some { cls := .none, data := .fields ps } := I2.hok P _ hP
  have hd : PySem.W.CodeHd s2.heap c P := TB.code.keeps fun b u e => I2.bk b u e
  have key : ∀ (REST : Value → Shared → Prop), (∀ (c' P' : Addr) (h3 : Heap) (tk : Nat) (H3 : Hp), Heap.ExtBut P s2.heap h3 → s2.heap.objs.size ≤ h3.objs.size → Inv X pins σ H3 { s2 with heap := h3, toks := tk } → Nested AA Qs P c' P' H1 H3 → (∀ b o, s2.heap.get? b = some o → H1 b = none → H3 b = none) → REST (.ref c') { s2 with heap := h3, toks := tk }) →
      wpAny (model X.prog X.w) X.A (genexprCode X.env gpos (X.env.qual ++ "<genexpr>") scope) REST X.xe s2 := fun REST fin => by
    cases hf : codeAmong gpos ps.toList with
    | some cv =>
      obtain ⟨c', P', rfl, e1, e2, e3⟩ := hall gpos cv hf
      exact wpAny_genexprCode_hit hcode (hd.code tabS htr) hf (fin c' P' _ s2.toks H1 (Heap.ExtBut.refl _ _) (Nat.le_refl _) I2 ⟨hNest, e1, e2, e3, fun b o _ e => e⟩ fun b o _ e => e)
    | none =>
      refine wpAny_genexprCodeX hcode (hd.code tabS htr) (hd.tab tabS) hf fun c' h3 tk ex ge lt ic _ ta tp => ?_
      obtain ⟨_, _, _, _, _, _, _, _, _, _, _, _, _, _, _, _, _, _, _, tr, _⟩ := ic
      obtain ⟨P', pge, ic', ta'⟩ := tp
      have hc' := PySem.W.CodeHd.of ic' ta'
      have I3 := inv_tabN (g' := s2.gens) (d' := s2.drawn) (t' := tk) (more := #[rawInt gpos.line, rawInt gpos.col, .ref c']) I2 hP (fun b o n e => ex b o n e) ta.2 I2.bare ge pge hc' ta'.2
      have hPl : P < s2.heap.objs.size := Heap.lt_size tabS
      have Pc : P ≠ c' := Nat.ne_of_lt (Nat.lt_of_lt_of_le hPl ge)
      have PP : P ≠ P' := Nat.ne_of_lt (Nat.lt_of_lt_of_le hPl pge)
      have cP : c' ≠ P' := by
        obtain ⟨_, _, _, _, _, _, _, _, _, _, _, _, _, _, _, _, _, _, n⟩ := hc'
        exact n
      have hcn : H1 c' = none := I2.hok.fresh ge
      have hpn : H1 P' = none := I2.hok.fresh pge
      have kp : ∀ b o, b ≠ P → H1 b = some o → upd (upd (upd H1 P (.tbl (ps ++ #[rawInt gpos.line, rawInt gpos.col, .ref c']))) c' (CodeO c' P')) P' (.tbl #[]) b = some o := fun b o n e => by
        rw [upd_ne (fun z => by rw [z, hpn] at e; cases e), upd_ne (fun z => by rw [z, hcn] at e; cases e), upd_ne n]
        exact e
      have tabN : GxR.TabG (upd (upd (upd H1 P (.tbl (ps ++ #[rawInt gpos.line, rawInt gpos.col, .ref c']))) c' (CodeO c' P')) P' (.tbl #[])) P' := ⟨#[], upd_same, trivial⟩
      have codN : upd (upd (upd H1 P (.tbl (ps ++ #[rawInt gpos.line, rawInt gpos.col, .ref c']))) c' (CodeO c' P')) P' (.tbl #[]) c' = some (CodeO c' P') := by rw [upd_ne cP, upd_same]
      have neP : P' ∉ AA := fun z => hNest.1 P' z hpn
      refine fin c' P' h3 tk _ ex (Nat.le_trans ge (Nat.le_of_lt lt)) I3 ⟨⟨fun Q hQ => ?_, fun Q hQ => ⟨(hNest.2 Q hQ).1, ?_⟩⟩, codN, tabN, neP, kp⟩ fun b o e n => ?_
      · intro z
        by_cases hb : Q = P
        · rw [hb, upd_ne PP, upd_ne Pc, upd_same] at z
          cases z
        · cases e : H1 Q with
          | none => exact hNest.1 Q hQ e
          | some u =>
            rw [kp Q u hb e] at z
            cases z
      · by_cases hb : Q = P
        · subst hb
          refine ⟨_, by rw [upd_ne PP, upd_ne Pc, upd_same], tr, fun pos cv e => ?_⟩
          rw [show (ps ++ #[rawInt gpos.line, rawInt gpos.col, Value.ref c']).toList = ps.toList ++ [rawInt gpos.line, rawInt gpos.col, .ref c'] by simp] at e
          rcases among_snoc _ htr e with z | z
          · obtain ⟨c2, P2, e1, e2, ⟨qs, q1, q2⟩, e4⟩ := hall pos cv z
            exact ⟨c2, P2, e1, kp _ _ (fun z => by rw [z, hP] at e2; cases e2) e2, ⟨qs, kp _ _ (fun z => e4 (z ▸ hPA)) q1, q2⟩, e4⟩
          · exact ⟨c', P', z, codN, tabN, neP⟩
        · obtain ⟨_, qs0, g1, g2, g3⟩ := hNest.2 Q hQ
          refine ⟨qs0, kp _ _ hb g1, g2, fun pos cv e => ?_⟩
          obtain ⟨c2, P2, e1, e2, ⟨qs, q1, q2⟩, e4⟩ := g3 pos cv e
          exact ⟨c2, P2, e1, kp _ _ (fun z => by rw [z, hP] at e2; cases e2) e2, ⟨qs, kp _ _ (fun z => e4 (z ▸ hPA)) q1, q2⟩, e4⟩
      · have l := Heap.lt_size e
        rw [upd_ne (Nat.ne_of_lt (Nat.lt_of_lt_of_le l pge)), upd_ne (Nat.ne_of_lt (Nat.lt_of_lt_of_le l ge)), upd_ne (fun z => by rw [z, hP] at n; cases n)]
        exact n
  refine key _ fun c' P' h3 tk H3' ex ge I3 nst fr3 => ?_
  obtain ⟨bm, ob, b1, b2, b3, b4, b5, b6, b7, b8⟩ := TB.bm
  refine wpAny_builtinsFor (m := X.mg) (by rw [I2.ok.glob]; exact (I2.mod.glob.keeps I2.bk).extBut ex TB.gP) b1 b2 (ex _ _ b4 (I2.bk _ _ b5)) b6 b7 b8 ?_
  intro h' hn' hs'
  generalize hs3 : ({ s2 with heap := h3, toks := tk } : Shared) = s3 at hn' hs' ⊢
  have e3 : s3.heap = h3 := by rw [← hs3]
  rw [hs3] at I3
  obtain ⟨W, ⟨m0, w0⟩, turn⟩ := hW c' P' H3' nst
  have neP : ∀ b ∈ fp, b ≠ P := fun b hb z => by
    have := (f2 b hb).1
    rw [z, hP] at this
    cases this
  have f3 : ∀ b ∈ fp, FpOk X pins H3' b ∧ b < s3.heap.objs.size := fun b hb => by
    obtain ⟨o, e, _⟩ := T.obj _ _ st2 b hb
    exact ⟨⟨fr3 b o e (f2 b hb).1, (f2 b hb).2⟩, by rw [e3]; exact Nat.lt_of_lt_of_le (Heap.lt_size e) ge⟩
  have st3 : tn 0 s3.heap := T.keep _ _ _ st2 fun b hb o e => by rw [e3]; exact ex b o (neP b hb) e
  generalize hH3 : H3' = H3 at I3 w0 f3
  have nf : ∀ b ∈ fp, H3 b = none := fun b hb => (f3 b hb).1.1
  generalize hgo : ({ cls := .type "generator", data := .fields #[.int s3.gens.size 0, .str "<genexpr>" (s3.toks + 1), .str (X.env.qual ++ "<genexpr>") (s3.toks + 1 + 1)] } : Obj) = go
  have sz' : h'.objs.size = s3.heap.objs.size + 1 := by rw [hs'.1, Heap.size_push]
  generalize hs5 : ({ s3 with gens := s3.gens.push (.fresh (.compStart (.GeneratorExp elt [⟨tg, iter, ifs, 0⟩] scope gpos) 0 (.ref it) .none (genEnv scope (cloFrom X.env.cells scope.names []) s3.heap.objs.size (.ref c') builtinsNs X.env))), toks := s3.toks + 1 + 1 + 1, heap := h'.push go } : Shared) = s5
  have h5 : s5.heap = h'.push go := by rw [← hs5]
  have sz5 : s5.heap.objs.size = h'.objs.size + 1 := by rw [h5, Heap.size_push]
  have kp : Kept s3 s5 := by
    refine ⟨by rw [← hs5], by rw [← hs5]; exact AllBare.push I3.bare rfl, fun b o e => ?_⟩
    rw [h5]
    exact Heap.get?_push_of_some _ (hs'.extBut b o (Nat.ne_of_lt (Heap.lt_size e)) (Heap.get?_push_of_some _ e))
  have hga : s5.heap.get? h'.objs.size = some go := by rw [h5, ← hgo]; exact Heap.get?_push_size _ rfl
  have isg : ∀ h : Heap, h.get? h'.objs.size = some go → h.IsGen h'.objs.size s3.gens.size := fun h e => ⟨go, _, _, e, by rw [← hgo], by rw [← hgo], by rw [← hgo]⟩
  have hgs : s5.gens[s3.gens.size]? = some (.fresh (.compStart (.GeneratorExp elt [⟨tg, iter, ifs, 0⟩] scope gpos) 0 (.ref it) .none (genEnv scope (cloFrom X.env.cells scope.names []) s3.heap.objs.size (.ref c') builtinsNs X.env))) := by
    rw [← hs5]
    exact Array.getElem?_push_size ..
  have hns : s5.heap.Ns s3.heap.objs.size (fun y => if y = ".0" then some (.ref it) else none) := by rw [h5]; exact hn'.push _
  have nstk : ∀ b, s3.heap.objs.size ≤ b → b ∉ frs X.stack := fun b hb z => by
    rcases List.mem_cons.mp (I3.stkSub _ z) with z | z
    · exact absurd (Nat.lt_of_lt_of_le I3.lt (show s3.heap.objs.size ≤ X.env.locals by rw [← z]; exact hb)) (Nat.lt_irrefl _)
    · exact I3.nofs hb z
  have lt35 : s3.heap.objs.size < s5.heap.objs.size := by omega
  refine ⟨s3, H3, fp, ⟨h'.objs.size, s3.gens.size, _, rfl, (show s3.heap.objs.size ≤ h'.objs.size by omega), (show h'.objs.size < s5.heap.objs.size by omega), isg _ hga, hgs, kp.os, kp.bare, I3.nolimit.keeps kp.keep, kp.keep, fun A' Sx s6 hrA hfrA hSx hk6 hSo hos hba => ?_⟩, fun H' s' ho hb hu hok => I3.call' (ch := fp) ho hu hok hb fun b hb => ⟨(f3 b hb).1.2.2.2.1, (f3 b hb).1.2.1, (f3 b hb).1.2.2.2.2.1, (f3 b hb).1.2.2.2.2.2⟩⟩
  have k6 : Kept s3 s6 := ⟨hos, hba, fun b o e => hk6 b o (kp.keep b o e)⟩
  have rm : Room k (A'.over (.compLoop (.GeneratorExp elt [⟨tg, iter, ifs, 0⟩] scope gpos) 0 (.ref it) .none (genEnv scope (cloFrom X.env.cells scope.names []) s3.heap.objs.size (.ref c') builtinsNs X.env)) []) := by
    have h1 := hrA.dp
    have h2 := hrA.un
    refine ⟨hrA.hd, ?_, ?_⟩
    · show A'.depth + 0 + 1 + 3 * k + 5 < _
      omega
    · show A'.units + 0 + 3 + 16 * k + 200 < _
      omega
  have Ig := gen_start I3 ok S hN f3 rm.hd (over_gen hfrA) k6 (hns.keeps hk6)
  obtain ⟨cS, heS⟩ := hSo
  have Sx3 : s3.heap.objs.size ≤ Sx := Nat.le_trans (Nat.le_of_lt lt35) hSx
  have SxC : Sx ≠ s3.heap.objs.size := Nat.ne_of_gt (Nat.lt_of_lt_of_le lt35 hSx)
  have aS : h'.objs.size ≠ Sx := Nat.ne_of_lt (Nat.lt_of_lt_of_le (by omega) hSx)
  have hG : GI (gcx X (A'.over (.compLoop (.GeneratorExp elt [⟨tg, iter, ifs, 0⟩] scope gpos) 0 (.ref it) .none (genEnv scope (cloFrom X.env.cells scope.names []) s3.heap.objs.size (.ref c') builtinsNs X.env)) []) s3 H3 (genEnv scope (cloFrom X.env.cells scope.names []) s3.heap.objs.size (.ref c') builtinsNs X.env) fp) Sx [(h'.objs.size, go)] [] (wipe σ (own.map (·.2))) H3 s6 := by
    refine ⟨#[], cS, .nil, Ig.pins_of fun p hp => ?_⟩
    rcases List.mem_cons.mp hp with z | z
    · rw [z]
      exact ⟨heS, I3.hok.fresh Sx3, SxC, nstk _ Sx3, fun v q => by cases q⟩
    · rw [List.mem_singleton.mp z]
      exact ⟨hk6 _ _ hga, I3.hok.fresh (by omega), by show h'.objs.size ≠ s3.heap.objs.size; omega, nstk _ (by omega), fun v q => by rw [← hgo] at q; cases q⟩
  have st6 : tn 0 s6.heap := T.keep _ _ _ st3 fun b hb o e => k6.keep b o e
  have hAp : Apart (gcx X (A'.over (.compLoop (.GeneratorExp elt [⟨tg, iter, ifs, 0⟩] scope gpos) 0 (.ref it) .none (genEnv scope (cloFrom X.env.cells scope.names []) s3.heap.objs.size (.ref c') builtinsNs X.env)) []) s3 H3 (genEnv scope (cloFrom X.env.cells scope.names []) s3.heap.objs.size (.ref c') builtinsNs X.env) fp) Sx := by
    refine ⟨Sx3, SxC, fun x c e z => ?_⟩
    obtain ⟨v, q⟩ := Ig.cell x c e
    have hcl : X.env.cells.lookup x = some c := by
      have e : (cloFrom X.env.cells scope.names []).lookup x = some c := e
      rcases cloFrom_mem (PySem.mem_of_lookup e) with hm | ⟨h1, rfl⟩
      · cases hm
      · obtain ⟨c, hc⟩ := hfree _ h1 rfl
        rw [hc]
        rfl
    obtain ⟨v3, q3⟩ := I3.cell x c hcl
    exact absurd (Nat.lt_of_lt_of_le q3.lt (by rw [z]; exact Sx3)) (Nat.lt_irrefl _)
  refine seg_start T st6 (seg_loopC T hc rfl S.co (fun z => ?_) (fun z => ?_) aS hAp isg (hg _ _ _ _ _ _ rm) (ht _ _ _ _ _ _ rm) (he _ _ _ _ _ _ rm) turn m0 sizeLine 0 [] _ _ H3 (Nat.add_zero _) hG st6 nf w0)
  · have q : h'.objs.size < s3.heap.objs.size := (f3 _ z).2
    omega
  · exact absurd (Nat.lt_of_lt_of_le (f3 _ z).2 Sx3) (Nat.lt_irrefl _)
theorem gen_madeI {c0 P0 c P : Addr} {elt tg iter : Expr} {ifs : List Expr} {gpos : Pos} {scope : Scope} {own : List (Str × Nat)} {wi : TI} {g : TG} {tt : TT} {te : TE} {k : Nat} {QQ : List V → Hp → Prop}
    (hr : Room (k + 1) X.A) (hc : X.calm = true) (hN : X.N.Nodup) (TB : GxR.TabB X.base X.mg c0 P0) (hcode : X.env.code = .ref c) (ok : BlkOk X.N X.env.scope scope own) (S : GenK scope) (hi : PI X tg iter wi) (hs : ∀ v, genFold iter X.env v = pure v)
    (hg : ∀ (A : Around) (s : Shared) (H : Hp) (C : Addr) (code : Value) (fp : List Addr), Room k A → PG (gcx X A s H (genEnv scope (cloFrom X.env.cells scope.names []) C code builtinsNs X.env) fp) tg g)
    (ht : ∀ (A : Around) (s : Shared) (H : Hp) (C : Addr) (code : Value) (fp : List Addr), Room k A → PTs (gcx X A s H (genEnv scope (cloFrom X.env.cells scope.names []) C code builtinsNs X.env) fp) ifs tt)
    (he : ∀ (A : Around) (s : Shared) (H : Hp) (C : Addr) (code : Value) (fp : List Addr), Room k A → PE (gcx X A s H (genEnv scope (cloFrom X.env.cells scope.names []) C code builtinsNs X.env) fp) elt te)
    (I : Inv X pins σ H s) (h : wi σ H fun J H1 => H1 c = some (CodeO c P) ∧ GxR.TabG H1 P ∧ ∀ H2, GxR.Tabbed P H1 H2 → ∃ W : Nat → Nat → List V → Hp → Prop, (∃ m, W 0 m [] H2) ∧ TurnsC J g tt te (own.map (·.2)) σ QQ W) :
    wpAny (model X.prog X.w) X.A (eval (.GeneratorExp elt [⟨tg, iter, ifs, 0⟩] scope gpos) X.env) (fun v s5 => ∃ (s3 : Shared) (H3 : Hp) (fp : List Addr), GMade X.prog X.w (k + 1) X.stack H3 s3 fp QQ (fun _ _ _ => False) v s5 ∧
      ∀ (H' : Hp) (s' : Shared), s'.os = s3.os → AllBare s'.gens → Un (frs X.stack) fp H3 H' s3.heap s'.heap → HOk X.prog X.w H' s'.heap → Inv X pins σ H' s') X.xe s := by
  have hfree : ∀ y ∈ scope.names, y.2 = .free → ∃ c, X.env.cells.lookup y.1 = some c := fun y hy e => by
    rcases ok.free y hy e with k | k
    · exact I.ok.has _ (.inl k)
    · exact I.ok.has _ (.inr k)
  refine wpAny_GeneratorExp_make S.co (closure_ok hfree) S.cell S.dot ok.kind hr.depth (wpAny_mono (hi.run pins s σ H _ I h) (fun xv s1 h1 => wpAny_mono h1 (fun itv s2 h2 => ?_) fun _ _ e => e) fun _ _ e => e) hs
  obtain ⟨it, fp, tn, J, H1, rfl, I2, T, st2, f2, hco, ⟨ps, hP, htr⟩, hW⟩ := h2
  refine ⟨I2.nolimit, ?_⟩
  have tabS : s2.heap.get? P = some { cls := .none, data := .fields ps } := I2.hok P _ hP
  have hd : PySem.W.CodeHd s2.heap c P := (I2.hok c _ hco).1
  have key : ∀ (REST : Value → Shared → Prop), (∀ (cv : Value) (h3 : Heap) (tk : Nat) (more : Array Value), Heap.ExtBut P s2.heap h3 → s2.heap.objs.size ≤ h3.objs.size → h3.get? P = some { cls := .none, data := .fields (ps ++ more) } → TriplesOk (ps ++ more).toList → REST cv { s2 with heap := h3, toks := tk }) →
      wpAny (model X.prog X.w) X.A (genexprCode X.env gpos (X.env.qual ++ "<genexpr>") scope) REST X.xe s2 := fun REST fin => by
    cases hf : codeAmong gpos ps.toList with
    | some cv =>
      have e : ps = ps ++ #[] := by simp
      exact wpAny_genexprCode_hit hcode (hd.code tabS htr) hf (fin cv _ s2.toks #[] (Heap.ExtBut.refl _ _) (Nat.le_refl _) (e ▸ tabS) (e ▸ htr))
    | none =>
      refine wpAny_genexprCodeX hcode (hd.code tabS htr) (hd.tab tabS) hf fun c' h3 tk ex ge lt ic _ ta _ => ?_
      obtain ⟨_, _, _, _, _, _, _, _, _, _, _, _, _, _, _, _, _, _, _, tr, _⟩ := ic
      exact fin _ h3 tk _ ex (Nat.le_trans ge (Nat.le_of_lt lt)) ta.2 tr
  refine key _ fun cv h3 tk more ex ge tab3 tr3 => ?_
  obtain ⟨bm, ob, b1, b2, b3, b4, b5, b6, b7, b8⟩ := TB.bm
  have neB : ∀ b o, X.base.get? b = some o → b ≠ P := fun b o e z => by
    have y := (I2.bs b o e).2
    rw [z, hP] at y
    cases y
  have neM : mainGlobals ≠ P := by
    obtain ⟨o, _, _, e, _⟩ := I2.mod.glob
    exact neB _ _ e
  refine wpAny_builtinsFor (m := X.mg) (by rw [I2.ok.glob]; exact (I2.mod.glob.keeps I2.bk).extBut ex neM) b1 b2 (ex _ _ (neB _ _ b5) (I2.bk _ _ b5)) b6 b7 b8 ?_
  intro h' hn' hs'
  generalize hs3 : ({ s2 with heap := h3, toks := tk } : Shared) = s3 at hn' hs' ⊢
  have e3 : s3.heap = h3 := by rw [← hs3]
  have I3 : Inv X pins σ (upd H1 P (.tbl (ps ++ more))) s3 := by
    rw [← hs3]
    exact GxR.inv_tab (more := more) (h' := h3) (g' := s2.gens) (d' := s2.drawn) (t' := tk) I2 hP (fun b o n e => ex b o n e) tab3 I2.bare
  obtain ⟨W, ⟨m0, w0⟩, turn⟩ := hW _ ⟨⟨ps ++ more, upd_same, tr3⟩, fun b hb => upd_ne hb⟩
  have neP : ∀ b ∈ fp, b ≠ P := fun b hb z => by
    have := (f2 b hb).1
    rw [z, hP] at this
    cases this
  have f3 : ∀ b ∈ fp, FpOk X pins (upd H1 P (.tbl (ps ++ more))) b ∧ b < s3.heap.objs.size := fun b hb => by
    obtain ⟨o, e, _⟩ := T.obj _ _ st2 b hb
    refine ⟨⟨?_, (f2 b hb).2⟩, by rw [e3]; exact Nat.lt_of_lt_of_le (Heap.lt_size e) ge⟩
    rw [upd_ne (neP b hb)]
    exact (f2 b hb).1
  have st3 : tn 0 s3.heap := T.keep _ _ _ st2 fun b hb o e => by rw [e3]; exact ex b o (neP b hb) e
  generalize hH3 : upd H1 P (.tbl (ps ++ more)) = H3 at I3 w0 f3
  have nf : ∀ b ∈ fp, H3 b = none := fun b hb => (f3 b hb).1.1
  generalize hgo : ({ cls := .type "generator", data := .fields #[.int s3.gens.size 0, .str "<genexpr>" (s3.toks + 1), .str (X.env.qual ++ "<genexpr>") (s3.toks + 1 + 1)] } : Obj) = go
  have sz' : h'.objs.size = s3.heap.objs.size + 1 := by rw [hs'.1, Heap.size_push]
  generalize hs5 : ({ s3 with gens := s3.gens.push (.fresh (.compStart (.GeneratorExp elt [⟨tg, iter, ifs, 0⟩] scope gpos) 0 (.ref it) .none (genEnv scope (cloFrom X.env.cells scope.names []) s3.heap.objs.size cv builtinsNs X.env))), toks := s3.toks + 1 + 1 + 1, heap := h'.push go } : Shared) = s5
  have h5 : s5.heap = h'.push go := by rw [← hs5]
  have sz5 : s5.heap.objs.size = h'.objs.size + 1 := by rw [h5, Heap.size_push]
  have kp : Kept s3 s5 := by
    refine ⟨by rw [← hs5], by rw [← hs5]; exact AllBare.push I3.bare rfl, fun b o e => ?_⟩
    rw [h5]
    exact Heap.get?_push_of_some _ (hs'.extBut b o (Nat.ne_of_lt (Heap.lt_size e)) (Heap.get?_push_of_some _ e))
  have hga : s5.heap.get? h'.objs.size = some go := by rw [h5, ← hgo]; exact Heap.get?_push_size _ rfl
  have isg : ∀ h : Heap, h.get? h'.objs.size = some go → h.IsGen h'.objs.size s3.gens.size := fun h e => ⟨go, _, _, e, by rw [← hgo], by rw [← hgo], by rw [← hgo]⟩
  have hgs : s5.gens[s3.gens.size]? = some (.fresh (.compStart (.GeneratorExp elt [⟨tg, iter, ifs, 0⟩] scope gpos) 0 (.ref it) .none (genEnv scope (cloFrom X.env.cells scope.names []) s3.heap.objs.size cv builtinsNs X.env))) := by
    rw [← hs5]
    exact Array.getElem?_push_size ..
  have hns : s5.heap.Ns s3.heap.objs.size (fun y => if y = ".0" then some (.ref it) else none) := by rw [h5]; exact hn'.push _
  have nstk : ∀ b, s3.heap.objs.size ≤ b → b ∉ frs X.stack := fun b hb z => by
    rcases List.mem_cons.mp (I3.stkSub _ z) with z | z
    · exact absurd (Nat.lt_of_lt_of_le I3.lt (show s3.heap.objs.size ≤ X.env.locals by rw [← z]; exact hb)) (Nat.lt_irrefl _)
    · exact I3.nofs hb z
  have lt35 : s3.heap.objs.size < s5.heap.objs.size := by omega
  refine ⟨s3, H3, fp, ⟨h'.objs.size, s3.gens.size, _, rfl, (show s3.heap.objs.size ≤ h'.objs.size by omega), (show h'.objs.size < s5.heap.objs.size by omega), isg _ hga, hgs, kp.os, kp.bare, I3.nolimit.keeps kp.keep, kp.keep, fun A' Sx s6 hrA hfrA hSx hk6 hSo hos hba => ?_⟩, fun H' s' ho hb hu hok => I3.call' (ch := fp) ho hu hok hb fun b hb => ⟨(f3 b hb).1.2.2.2.1, (f3 b hb).1.2.1, (f3 b hb).1.2.2.2.2.1, (f3 b hb).1.2.2.2.2.2⟩⟩
  have k6 : Kept s3 s6 := ⟨hos, hba, fun b o e => hk6 b o (kp.keep b o e)⟩
  have rm : Room k (A'.over (.compLoop (.GeneratorExp elt [⟨tg, iter, ifs, 0⟩] scope gpos) 0 (.ref it) .none (genEnv scope (cloFrom X.env.cells scope.names []) s3.heap.objs.size cv builtinsNs X.env)) []) := by
    have h1 := hrA.dp
    have h2 := hrA.un
    refine ⟨hrA.hd, ?_, ?_⟩
    · show A'.depth + 0 + 1 + 3 * k + 5 < _
      omega
    · show A'.units + 0 + 3 + 16 * k + 200 < _
      omega
  have Ig := gen_start I3 ok S hN f3 rm.hd (over_gen hfrA) k6 (hns.keeps hk6)
  obtain ⟨cS, heS⟩ := hSo
  have Sx3 : s3.heap.objs.size ≤ Sx := Nat.le_trans (Nat.le_of_lt lt35) hSx
  have SxC : Sx ≠ s3.heap.objs.size := Nat.ne_of_gt (Nat.lt_of_lt_of_le lt35 hSx)
  have aS : h'.objs.size ≠ Sx := Nat.ne_of_lt (Nat.lt_of_lt_of_le (by omega) hSx)
  have hG : GI (gcx X (A'.over (.compLoop (.GeneratorExp elt [⟨tg, iter, ifs, 0⟩] scope gpos) 0 (.ref it) .none (genEnv scope (cloFrom X.env.cells scope.names []) s3.heap.objs.size cv builtinsNs X.env)) []) s3 H3 (genEnv scope (cloFrom X.env.cells scope.names []) s3.heap.objs.size cv builtinsNs X.env) fp) Sx [(h'.objs.size, go)] [] (wipe σ (own.map (·.2))) H3 s6 := by
    refine ⟨#[], cS, .nil, Ig.pins_of fun p hp => ?_⟩
    rcases List.mem_cons.mp hp with z | z
    · rw [z]
      exact ⟨heS, I3.hok.fresh Sx3, SxC, nstk _ Sx3, fun v q => by cases q⟩
    · rw [List.mem_singleton.mp z]
      exact ⟨hk6 _ _ hga, I3.hok.fresh (by omega), by show h'.objs.size ≠ s3.heap.objs.size; omega, nstk _ (by omega), fun v q => by rw [← hgo] at q; cases q⟩
  have st6 : tn 0 s6.heap := T.keep _ _ _ st3 fun b hb o e => k6.keep b o e
  have hAp : Apart (gcx X (A'.over (.compLoop (.GeneratorExp elt [⟨tg, iter, ifs, 0⟩] scope gpos) 0 (.ref it) .none (genEnv scope (cloFrom X.env.cells scope.names []) s3.heap.objs.size cv builtinsNs X.env)) []) s3 H3 (genEnv scope (cloFrom X.env.cells scope.names []) s3.heap.objs.size cv builtinsNs X.env) fp) Sx := by
    refine ⟨Sx3, SxC, fun x c e z => ?_⟩
    obtain ⟨v, q⟩ := Ig.cell x c e
    have hcl : X.env.cells.lookup x = some c := by
      have e : (cloFrom X.env.cells scope.names []).lookup x = some c := e
      rcases cloFrom_mem (PySem.mem_of_lookup e) with hm | ⟨h1, rfl⟩
      · cases hm
      · obtain ⟨c, hc⟩ := hfree _ h1 rfl
        rw [hc]
        rfl
    obtain ⟨v3, q3⟩ := I3.cell x c hcl
    exact absurd (Nat.lt_of_lt_of_le q3.lt (by rw [z]; exact Sx3)) (Nat.lt_irrefl _)
  refine seg_start T st6 (seg_loopC T hc rfl S.co (fun z => ?_) (fun z => ?_) aS hAp isg (hg _ _ _ _ _ _ rm) (ht _ _ _ _ _ _ rm) (he _ _ _ _ _ _ rm) turn m0 sizeLine 0 [] _ _ H3 (Nat.add_zero _) hG st6 nf w0)
  · have q : h'.objs.size < s3.heap.objs.size := (f3 _ z).2
    omega
  · exact absurd (Nat.lt_of_lt_of_le (f3 _ z).2 Sx3) (Nat.lt_irrefl _)
end
end Gx

set_option Elab.async false
set_option linter.all false
set_option maxRecDepth 100000
set_option maxHeartbeats 4000000
/-! s.join(..) of a generator expression: any source, any target, any element -/
namespace Gx
open PySem PySem.Spec PyProof.Rows L2 GenW Builtin Builtin.Str Builtin.Int
theorem collect_new {P : Program} {w : World} {outer : List Env} {H : Hp} {sc s : Shared} {ex : List Addr} {Q : List V → Hp → Prop} {A A2 : Around} {k : Nat} {u : Value} {QC : List Value → Shared → Prop} {EC : Value → Shared → Prop}
    (hr : Room (k + 1) A) (h : GMade P w k outer H sc ex Q (fun _ _ _ => False) u s) (h1 : A2.handled = none) (h2 : A2.depth = A.depth) (h3 : A2.units ≤ A.units + 8) (h4 : A2.frames = some outer)
    (hq : ∀ (s' : Shared) (acc : Array Value) (H' : Hp) (ys : List V), Vals ys acc.toList → ys.length ≤ sizeLine → s'.os = sc.os → AllBare s'.gens → Un (frs outer) ex H H' sc.heap s'.heap → HOk P w H' s'.heap → Q ys H' → QC acc.toList s') : wpAny (model P w) A2 (collect u) QC EC s := by
  obtain ⟨a, g, c, rfl, ha1, ha2, hg, hgs, hos, hb, hl, hkp, wake⟩ := h
  have hSa : s.heap.objs.size ≠ a := Nat.ne_of_gt ha2
  have hcl : cStatics < s.heap.objs.size := let ⟨_, hn, _⟩ := hl; hn.lt
  have hSc : s.heap.objs.size ≠ cStatics := Nat.ne_of_gt hcl
  unfold collect
  refine wpAny_bind (wpAny_runValue (codeAny_builtin F.entry_proto_collect ?_))
  rw [Around.under_plainId F.plain_proto_collect _]
  show wpAny _ A2.in1 (newList [] >>= fun l => again (.builtin "list.__iadd__" ⟨[l, .ref a], []⟩)) _ _ s
  refine wpAny_bind (wpAny_newObj_type ?_)
  refine wpAny_pure ⟨plainId_quiet F.plain_list_iadd _, codeAny_builtin F.entry_list_iadd ?_⟩
  rw [Around.under_plainId F.plain_list_iadd _]
  show wpAny _ A2.in1 (Builtin.List.listExtendWith (.ref s.heap.objs.size) (.ref a) (.ref s.heap.objs.size)) _ _ _
  unfold Builtin.List.listExtendWith
  have up : ∀ (h : Heap) (f : Obj → Obj), (∀ b o, s.heap.get? b = some o → h.get? b = some o) → ∀ b o, s.heap.get? b = some o → (h.update s.heap.objs.size f).get? b = some o := fun h f q b o e =>
    (Heap.get?_update_other _ _ (Ne.symm (Nat.ne_of_lt (Heap.lt_size e)))).trans (q b o e)
  have k1 : ∀ b o, s.heap.get? b = some o → (s.heap.push { cls := .type "list", data := .seq ([] : List Value).toArray }).get? b = some o := fun b o e => Heap.get?_push_of_some _ e
  have gty : ∀ {h : Heap}, (∀ b o, s.heap.get? b = some o → h.get? b = some o) → h.IsGen a g := fun {h} q => hg.keeps q
  refine wpAny_bind (wpAny_typeOf (Heap.IsGen.typeIs (s := { s with heap := _ }) (gty k1)) ?_)
  have e1 : Builtin.List.listSameRef (.ref s.heap.objs.size) (.ref a) = false := by simp [Builtin.List.listSameRef, hSa]
  have e2 : (Value.type "generator" == Value.type "list") = false := by decide
  have e3 : (Value.type "generator" == Value.type "tuple") = false := by decide
  simp only [e1, e2, e3, Bool.or_false, Bool.false_eq_true, if_false]
  refine wpAny_bind (wpAny_pyIter_gen (s := { s with heap := _ }) (gty k1) ?_)
  refine wpAny_bind (wpAny_holding ?_)
  unfold Builtin.List.listLengthHint
  refine wpAny_bind (wpAny_specialOf (Heap.IsGen.typeIs (s := { s with heap := _ }) (gty k1)) F.gen_no_len ?_)
  show wpAny _ A2.in1 (specialOf (Value.ref a) (Str.ofString "__length_hint__") >>= _) _ _ _
  refine wpAny_bind (wpAny_specialOf (Heap.IsGen.typeIs (s := { s with heap := _ }) (gty k1)) F.gen_no_hint ?_)
  refine wpAny_pure ?_
  show wpAny _ A2.in1 (rule "list.extend.makes-room" >>= fun _ => Builtin.List.listTouch (.ref s.heap.objs.size) >>= fun _ =>
    again (.builtin "list.extend.loop" ⟨[.ref s.heap.objs.size, .ref a, .ref s.heap.objs.size], []⟩)) _ _ _
  refine wpAny_bind (wpAny_rule ?_)
  have hS₁ : (s.heap.push { cls := .type "list", data := .seq ([] : List Value).toArray }).get? s.heap.objs.size = some { cls := .type "list", data := .seq ([] : List Value).toArray } := Heap.get?_push_size _ rfl
  refine wpAny_bind ?_
  show wpAny _ A2.in1 (updateSeq s.heap.objs.size (·.push .none) >>= fun _ => updateSeq s.heap.objs.size (·.pop)) _ _ _
  refine wpAny_bind (wpAny_updateSeq hS₁ rfl ?_)
  have hS₂ := Heap.get?_update_self (Obj.mapSeq (·.push Value.none)) hS₁ rfl
  refine wpAny_updateSeq hS₂ rfl ?_
  have hS₃ := Heap.get?_update_self (Obj.mapSeq (·.pop)) hS₂ rfl
  have k4 := up _ (Obj.mapSeq (·.pop)) (up _ (Obj.mapSeq (·.push Value.none)) k1)
  refine wpAny_pure ⟨plainId_quiet F.plain_extend_loop _, ?_⟩
  refine drain (P := P) (w := w) (outer := outer) (H := H) (sc := sc) (ex := ex) (Q := Q) (EX := fun _ _ _ => False) (A := A2) (g := g) h1 (by have := hr.dp; omega) hSa hSc
    (fun s' acc c H' ys q1 q2 q3 q4 q5 q6 q7 q8 q9 => ?_) (fun e s' hc => by obtain ⟨_, _, _, _, _, _, _, _, _, _, _, _, hf⟩ := hc; exact hf.elim)
    sizeLine _ (gty k4) (hl.keeps k4) ⟨_, hgs, rfl, ?_⟩
  · show wpAny _ A2 (load s.heap.objs.size >>= _) _ _ s'
    refine wpAny_bind (wpAny_load q1 ?_)
    exact wpAny_pure (hq s' acc H' ys q2 q3 q4 q5 q6 q7 q9)
  · refine wake _ _ _ ⟨h1, ?_, ?_⟩ h4 (Nat.le_refl _) k4 ⟨_, hS₃⟩ hos (allBare_setGen (s := { s with heap := _ }) hb rfl)
    · have := hr.dp
      show A2.depth + 3 * k + 5 < _
      omega
    · have := hr.un
      show A2.units + 1 + 1 + 16 * k + 200 < _
      omega
theorem vals_strs : ∀ (ws : List Str) (vs : List Value), Vals (ws.map V.str) vs → ∃ l : List (Str × Tok), strValues l = vs ∧ l.map (·.1) = ws
  | [], _, .nil => ⟨[], rfl, rfl⟩
  | x :: r, _, .cons h t => by
    obtain ⟨tk, rfl⟩ := (show ∃ t, _ = Value.str x t from h)
    obtain ⟨l, h1, h2⟩ := vals_strs r _ t
    refine ⟨(x, tk) :: l, ?_, ?_⟩
    · show Value.str x tk :: strValues l = _
      rw [h1]
    · rw [List.map_cons, h2]
theorem call_join_new {P : Program} {w : World} {outer : List Env} {H : Hp} {sc s : Shared} {ex : List Addr} {Q : List V → Hp → Prop} {A : Around} {k : Nat} {u : Value} {x : Str} {t : Tok} {Q' : Value → Shared → Prop} {E : Value → Shared → Prop}
    (hr : Room (k + 1) A) (hfr : A.frames = some outer) (h : GMade P w k outer H sc ex Q (fun _ _ _ => False) u s)
    (hQ : ∀ (s' : Shared) (H' : Hp) (ys : List V), s'.os = sc.os → AllBare s'.gens → Un (frs outer) ex H H' sc.heap s'.heap → HOk P w H' s'.heap → Q ys H' → ∃ ws : List Str, ys = ws.map V.str ∧ JoinOk x ws = true ∧ ∀ t' tk, Q' (.str (Txt.join x ws) t') { s' with toks := tk }) :
    wpAny (model P w) A (call (.builtin "str.join") [.str x t, u]) Q' E s := by
  obtain ⟨a, g, c, rfl, ha1, ha2, hg, r⟩ := id h
  have hTI := hg.typeIs (s := s)
  refine wpAny_call (codeAny_call_builtin F.slot_str_join.plain F.entry_str_join (F.slot_str_join.check _ _ _ _ _ _ _ _ (typeIs_str _ _ _) (F.args_str_join_2 _ _) ?_))
  rw [join_tree_other]
  refine wpAny_bind (wpAny_typeOf hTI ?_)
  show wpAny _ A.in1 ((pyIter (.ref a)).tryCatch _ >>= fun it => collect it >>= fun items => joinTail x items) _ _ s
  refine wpAny_bind (wpAny_tryCatch (wpAny_pyIter_gen hg ?_))
  refine wpAny_bind (collect_new (A := A) hr h hr.hd rfl (by show A.units + 1 ≤ A.units + 8; omega) hfr fun s' acc H' ys q1 q2 q3 q4 q5 q6 q7 => ?_)
  obtain ⟨ws, rfl, hok, hpost⟩ := hQ s' H' ys q3 q4 q5 q6 q7
  obtain ⟨l, hl, rfl⟩ := vals_strs ws _ q1
  rw [← hl]
  unfold JoinOk at hok
  rw [Bool.not_eq_true'] at hok
  have gg : Gives (joinTail x (strValues l)) (joinMade x l) := by
    have g0 := gives_joinTail x l hok
    cases l with
    | nil => exact g0
    | cons p r => cases r with
      | nil => exact g0
      | cons q r' => exact g0
  exact gg P w A (wants Q' E) s' (post_join l ⟨joinFit_length hok, hpost⟩)
/-- to.join(te for g in wi if tt), the code kept track of -/
def tJN (to : TE) (wi : TI) (g : TG) (tt : TT) (te : Value → TE) (vs : List Nat) (AA Qs : List Addr) (P : Addr) : TE := fun σ H Q => to σ H fun v H0 => ∃ sep : Str, v = .str sep ∧ wi σ H0 fun J H1 => Nests AA Qs H1 ∧ ∀ c' P' H2, Nested AA Qs P c' P' H1 H2 → ∃ W : Nat → Nat → List V → Hp → Prop, (∃ m, W 0 m [] H2) ∧
  TurnsC J g tt (te (.ref c')) vs σ (fun ys H => ∃ ws : List Str, ys = ws.map V.str ∧ JoinOk sep ws = true ∧ Q (.str (Txt.join sep ws)) H) W
/-- the same within another one, whose code is kept track of -/
def tJI (to : TE) (wi : TI) (g : TG) (tt : TT) (te : TE) (vs : List Nat) (cv : Value) : TE := fun σ H Q => to σ H fun v H0 => ∃ sep : Str, v = .str sep ∧ ∃ c P : Addr, cv = .ref c ∧ wi σ H0 fun J H1 => H1 c = some (CodeO c P) ∧ GxR.TabG H1 P ∧ ∀ H2, GxR.Tabbed P H1 H2 → ∃ W : Nat → Nat → List V → Hp → Prop, (∃ m, W 0 m [] H2) ∧
  TurnsC J g tt te vs σ (fun ys H => ∃ ws : List Str, ys = ws.map V.str ∧ JoinOk sep ws = true ∧ Q (.str (Txt.join sep ws)) H) W
section
variable {X : Cx} {pins : List (Addr × Obj)} {σ : L2.St} {H : Hp} {s : Shared}
theorem pe_joinN {c P : Addr} {o elt tg iter : Expr} {ifs : List Expr} {gpos apos cpos : Pos} {scope : Scope} {own : List (Str × Nat)} {to : TE} {wi : TI} {g : TG} {tt : TT} {te : Value → TE} {k : Nat} {AA Qs : List Addr}
    (hr : Room (k + 2) X.A) (hc : X.calm = true) (hN : X.N.Nodup) (TB : GxR.TabB X.base X.mg c P) (hPm : P ∈ Qs) (hcode : X.env.code = .ref c) (ok : BlkOk X.N X.env.scope scope own) (S : GenK scope) (ho : PE X o to) (hi : PI X tg iter wi)
    (hg : ∀ (A : Around) (s : Shared) (H : Hp) (C : Addr) (code : Value) (fp : List Addr), Room k A → PG (gcx X A s H (genEnv scope (cloFrom X.env.cells scope.names []) C code builtinsNs X.env) fp) tg g)
    (ht : ∀ (A : Around) (s : Shared) (H : Hp) (C : Addr) (code : Value) (fp : List Addr), Room k A → PTs (gcx X A s H (genEnv scope (cloFrom X.env.cells scope.names []) C code builtinsNs X.env) fp) ifs tt)
    (he : ∀ (A : Around) (s : Shared) (H : Hp) (C : Addr) (code : Value) (fp : List Addr), Room k A → PE (gcx X A s H (genEnv scope (cloFrom X.env.cells scope.names []) C code builtinsNs X.env) fp) elt (te code))
    (hs : ∀ v, genFold iter X.env v = pure v := by intro _; rfl) (hbase : attributeBase o "join" X.env (eval o X.env) = eval o X.env := by rfl)
    (hfew : ((backTo cpos (starEach [.GeneratorExp elt [⟨tg, iter, ifs, 0⟩] scope gpos] X.env)).all (fun x => !x.1) && (backToKw cpos (keywordEach [] X.env)).all (fun x => x.1.isSome)
      && decide (([.GeneratorExp elt [⟨tg, iter, ifs, 0⟩] scope gpos] : List Expr).length + ([] : List Keyword).length + (if ([] : List Keyword).isEmpty then 0 else 1) < 30)) = true := by rfl)
    (hline : (apos.endLine == cpos.line) = true := by rfl)
    (hst : starEach [.GeneratorExp elt [⟨tg, iter, ifs, 0⟩] scope gpos] X.env = (false, eval (.GeneratorExp elt [⟨tg, iter, ifs, 0⟩] scope gpos) X.env) :: starEach [] X.env := by rfl)
    (hplain : (backTo cpos (starEach [] X.env)).any (·.1) = false := by rfl) :
    PE X (.Call (.Attribute o "join" apos) [.GeneratorExp elt [⟨tg, iter, ifs, 0⟩] scope gpos] [] cpos) (tJN to wi g tt te (own.map (·.2)) AA Qs P) := by
  refine ⟨fun pins s σ H Q I h => ?_⟩
  refine wpAny_Call_method_late hbase hfew hline rfl (thn (ho.run pins s σ H _ I h) fun v s1 ⟨x', H1, I1, r1, sep, ex, q1⟩ => ?_)
  subst ex
  obtain ⟨tk, rfl⟩ := (show ∃ t, v = Value.str sep t from r1)
  refine ⟨"str", _, PySem.F.plainAttrs_str, PySem.F.slot_str_join, PySem.F.type_str_join, typeIs_str _ _ _, (fun _ e => nomatch e), ?_⟩
  rw [hst]
  refine Calls.callWith_builtin (by show (false || (backTo cpos (starEach [] X.env)).any (·.1)) = false; rw [hplain] <;> rfl) (Calls.evalArgs_plain ?_)
  show wpAny _ _ (spliced ((false, eval (.GeneratorExp elt [⟨tg, iter, ifs, 0⟩] scope gpos) X.env) :: backTo cpos (starEach [] X.env))) _ _ s1
  refine Calls.spliced_cons (wpAny_mono (gen_madeO (k := k) (hr.mono (by omega)) hc hN TB hPm hcode ok S hi hs hg ht he I1 q1) (fun v s5 hx => ?_) fun _ _ e => e)
  obtain ⟨s3, H3, fp, hG, back⟩ := hx
  refine Calls.spliced_nil (call_join_new hr I.ok.frames hG fun s' H' ys q3 q4 q5 q6 q7 => ?_)
  obtain ⟨ws, e1, e2, e3⟩ := q7
  have J := back H' s' q3 q4 q5 q6
  refine ⟨ws, e1, e2, fun t' tk' => ⟨.str _, H', ?_, ⟨t', rfl⟩, e3⟩⟩
  exact J.tok _
theorem pe_joinI {c0 P0 : Addr} {o elt tg iter : Expr} {ifs : List Expr} {gpos apos cpos : Pos} {scope : Scope} {own : List (Str × Nat)} {to : TE} {wi : TI} {g : TG} {tt : TT} {te : TE} {k : Nat} {cv : Value}
    (hr : Room (k + 2) X.A) (hc : X.calm = true) (hN : X.N.Nodup) (TB : GxR.TabB X.base X.mg c0 P0) (hcode : X.env.code = cv) (ok : BlkOk X.N X.env.scope scope own) (S : GenK scope) (ho : PE X o to) (hi : PI X tg iter wi)
    (hg : ∀ (A : Around) (s : Shared) (H : Hp) (C : Addr) (code : Value) (fp : List Addr), Room k A → PG (gcx X A s H (genEnv scope (cloFrom X.env.cells scope.names []) C code builtinsNs X.env) fp) tg g)
    (ht : ∀ (A : Around) (s : Shared) (H : Hp) (C : Addr) (code : Value) (fp : List Addr), Room k A → PTs (gcx X A s H (genEnv scope (cloFrom X.env.cells scope.names []) C code builtinsNs X.env) fp) ifs tt)
    (he : ∀ (A : Around) (s : Shared) (H : Hp) (C : Addr) (code : Value) (fp : List Addr), Room k A → PE (gcx X A s H (genEnv scope (cloFrom X.env.cells scope.names []) C code builtinsNs X.env) fp) elt te)
    (hs : ∀ v, genFold iter X.env v = pure v := by intro _; rfl) (hbase : attributeBase o "join" X.env (eval o X.env) = eval o X.env := by rfl)
    (hfew : ((backTo cpos (starEach [.GeneratorExp elt [⟨tg, iter, ifs, 0⟩] scope gpos] X.env)).all (fun x => !x.1) && (backToKw cpos (keywordEach [] X.env)).all (fun x => x.1.isSome)
      && decide (([.GeneratorExp elt [⟨tg, iter, ifs, 0⟩] scope gpos] : List Expr).length + ([] : List Keyword).length + (if ([] : List Keyword).isEmpty then 0 else 1) < 30)) = true := by rfl)
    (hline : (apos.endLine == cpos.line) = true := by rfl)
    (hst : starEach [.GeneratorExp elt [⟨tg, iter, ifs, 0⟩] scope gpos] X.env = (false, eval (.GeneratorExp elt [⟨tg, iter, ifs, 0⟩] scope gpos) X.env) :: starEach [] X.env := by rfl)
    (hplain : (backTo cpos (starEach [] X.env)).any (·.1) = false := by rfl) :
    PE X (.Call (.Attribute o "join" apos) [.GeneratorExp elt [⟨tg, iter, ifs, 0⟩] scope gpos] [] cpos) (tJI to wi g tt te (own.map (·.2)) cv) := by
  refine ⟨fun pins s σ H Q I h => ?_⟩
  refine wpAny_Call_method_late hbase hfew hline rfl (thn (ho.run pins s σ H _ I h) fun v s1 ⟨x', H1, I1, r1, sep, ex, c, P, ecv, q1⟩ => ?_)
  subst ex
  obtain ⟨tk, rfl⟩ := (show ∃ t, v = Value.str sep t from r1)
  refine ⟨"str", _, PySem.F.plainAttrs_str, PySem.F.slot_str_join, PySem.F.type_str_join, typeIs_str _ _ _, (fun _ e => nomatch e), ?_⟩
  rw [hst]
  refine Calls.callWith_builtin (by show (false || (backTo cpos (starEach [] X.env)).any (·.1)) = false; rw [hplain] <;> rfl) (Calls.evalArgs_plain ?_)
  show wpAny _ _ (spliced ((false, eval (.GeneratorExp elt [⟨tg, iter, ifs, 0⟩] scope gpos) X.env) :: backTo cpos (starEach [] X.env))) _ _ s1
  refine Calls.spliced_cons (wpAny_mono (gen_madeI (c := c) (P := P) (k := k) (hr.mono (by omega)) hc hN TB (hcode.trans ecv) ok S hi hs hg ht he I1 q1) (fun v s5 hx => ?_) fun _ _ e => e)
  obtain ⟨s3, H3, fp, hG, back⟩ := hx
  refine Calls.spliced_nil (call_join_new hr I.ok.frames hG fun s' H' ys q3 q4 q5 q6 q7 => ?_)
  obtain ⟨ws, e1, e2, e3⟩ := q7
  have J := back H' s' q3 q4 q5 q6
  refine ⟨ws, e1, e2, fun t' tk' => ⟨.str _, H', ?_, ⟨t', rfl⟩, e3⟩⟩
  exact J.tok _
/-- tuple(te for g in wi if tt), the code kept track of -/
def tTN (wi : TI) (g : TG) (tt : TT) (te : Value → TE) (vs : List Nat) (AA Qs : List Addr) (P : Addr) : TE := fun σ H Q => wi σ H fun J H1 => Nests AA Qs H1 ∧ ∀ c' P' H2, Nested AA Qs P c' P' H1 H2 → ∃ W : Nat → Nat → List V → Hp → Prop, (∃ m, W 0 m [] H2) ∧
  TurnsC J g tt (te (.ref c')) vs σ (fun ys H => ∀ p, H p = none → Q (.ref p) (upd H p (.tup ys))) W
def tTI (wi : TI) (g : TG) (tt : TT) (te : TE) (vs : List Nat) (cv : Value) : TE := fun σ H Q => ∃ c P : Addr, cv = .ref c ∧ wi σ H fun J H1 => H1 c = some (CodeO c P) ∧ GxR.TabG H1 P ∧ ∀ H2, GxR.Tabbed P H1 H2 → ∃ W : Nat → Nat → List V → Hp → Prop, (∃ m, W 0 m [] H2) ∧
  TurnsC J g tt te vs σ (fun ys H => ∀ p, H p = none → Q (.ref p) (upd H p (.tup ys))) W
theorem pe_tupN {c P : Addr} {elt tg iter : Expr} {ifs : List Expr} {gpos p pos : Pos} {scope : Scope} {own : List (Str × Nat)} {wi : TI} {g : TG} {tt : TT} {te : Value → TE} {k : Nat} {AA Qs : List Addr}
    (hr : Room (k + 2) X.A) (hgl : Gl X "tuple") (hm : X.mg "tuple" = none) (hc : X.calm = true) (hN : X.N.Nodup) (TB : GxR.TabB X.base X.mg c P) (hPm : P ∈ Qs) (hcode : X.env.code = .ref c) (ok : BlkOk X.N X.env.scope scope own) (S : GenK scope) (hi : PI X tg iter wi)
    (hg : ∀ (A : Around) (s : Shared) (H : Hp) (C : Addr) (code : Value) (fp : List Addr), Room k A → PG (gcx X A s H (genEnv scope (cloFrom X.env.cells scope.names []) C code builtinsNs X.env) fp) tg g)
    (ht : ∀ (A : Around) (s : Shared) (H : Hp) (C : Addr) (code : Value) (fp : List Addr), Room k A → PTs (gcx X A s H (genEnv scope (cloFrom X.env.cells scope.names []) C code builtinsNs X.env) fp) ifs tt)
    (he : ∀ (A : Around) (s : Shared) (H : Hp) (C : Addr) (code : Value) (fp : List Addr), Room k A → PE (gcx X A s H (genEnv scope (cloFrom X.env.cells scope.names []) C code builtinsNs X.env) fp) elt (te code))
    (hs : ∀ v, genFold iter X.env v = pure v := by intro _; rfl)
    (hst : starEach [.GeneratorExp elt [⟨tg, iter, ifs, 0⟩] scope gpos] X.env = (false, eval (.GeneratorExp elt [⟨tg, iter, ifs, 0⟩] scope gpos) X.env) :: starEach [] X.env := by rfl) :
    PE X (.Call (.Name "tuple" p) [.GeneratorExp elt [⟨tg, iter, ifs, 0⟩] scope gpos] [] pos) (tTN wi g tt te (own.map (·.2)) AA Qs P) := by
  refine ⟨fun pins s σ H Q I h => ?_⟩
  refine wpAny_Call_Name_kw (ld_blt I hgl hm boot_tuple (PyProof.Rows.callWith_type1 ?_ hst (by rfl)))
  rw [hst]
  show wpAny _ _ (spliced ((false, _) :: backTo pos (starEach [] X.env))) _ _ s
  refine Calls.spliced_cons (wpAny_mono (gen_madeO (k := k) (hr.mono (by omega)) hc hN TB hPm hcode ok S hi hs hg ht he I h) (fun v s5 hx => ?_) fun _ _ e => e)
  obtain ⟨s3, H3, fp, hG, back⟩ := hx
  refine Calls.spliced_nil (call_tuple_new hr I.ok.frames hG fun s' acc H' ys q1 q2 q3 q4 q5 q6 q7 => ?_)
  have J := back H' s' q3 q4 q5 q6
  refine ⟨.ref s'.heap.objs.size, _, J.laid (t' := s'.toks) (o := .tup ys) (fun b u e => Heap.get?_push_of_some _ e) (Nat.le_refl _) ⟨q2, acc.toList, q1, ?_⟩, rfl, q7 _ (J.hok.fresh (Nat.le_refl _))⟩
  have z := IsTup.new s'.heap acc
  simpa using z
theorem pe_tupI {c0 P0 : Addr} {elt tg iter : Expr} {ifs : List Expr} {gpos p pos : Pos} {scope : Scope} {own : List (Str × Nat)} {wi : TI} {g : TG} {tt : TT} {te : TE} {k : Nat} {cv : Value}
    (hr : Room (k + 2) X.A) (hgl : Gl X "tuple") (hm : X.mg "tuple" = none) (hc : X.calm = true) (hN : X.N.Nodup) (TB : GxR.TabB X.base X.mg c0 P0) (hcode : X.env.code = cv) (ok : BlkOk X.N X.env.scope scope own) (S : GenK scope) (hi : PI X tg iter wi)
    (hg : ∀ (A : Around) (s : Shared) (H : Hp) (C : Addr) (code : Value) (fp : List Addr), Room k A → PG (gcx X A s H (genEnv scope (cloFrom X.env.cells scope.names []) C code builtinsNs X.env) fp) tg g)
    (ht : ∀ (A : Around) (s : Shared) (H : Hp) (C : Addr) (code : Value) (fp : List Addr), Room k A → PTs (gcx X A s H (genEnv scope (cloFrom X.env.cells scope.names []) C code builtinsNs X.env) fp) ifs tt)
    (he : ∀ (A : Around) (s : Shared) (H : Hp) (C : Addr) (code : Value) (fp : List Addr), Room k A → PE (gcx X A s H (genEnv scope (cloFrom X.env.cells scope.names []) C code builtinsNs X.env) fp) elt te)
    (hs : ∀ v, genFold iter X.env v = pure v := by intro _; rfl)
    (hst : starEach [.GeneratorExp elt [⟨tg, iter, ifs, 0⟩] scope gpos] X.env = (false, eval (.GeneratorExp elt [⟨tg, iter, ifs, 0⟩] scope gpos) X.env) :: starEach [] X.env := by rfl) :
    PE X (.Call (.Name "tuple" p) [.GeneratorExp elt [⟨tg, iter, ifs, 0⟩] scope gpos] [] pos) (tTI wi g tt te (own.map (·.2)) cv) := by
  refine ⟨fun pins s σ H Q I h => ?_⟩
  obtain ⟨c, P, ecv, h⟩ := h
  refine wpAny_Call_Name_kw (ld_blt I hgl hm boot_tuple (PyProof.Rows.callWith_type1 ?_ hst (by rfl)))
  rw [hst]
  show wpAny _ _ (spliced ((false, _) :: backTo pos (starEach [] X.env))) _ _ s
  refine Calls.spliced_cons (wpAny_mono (gen_madeI (c := c) (P := P) (k := k) (hr.mono (by omega)) hc hN TB (hcode.trans ecv) ok S hi hs hg ht he I h) (fun v s5 hx => ?_) fun _ _ e => e)
  obtain ⟨s3, H3, fp, hG, back⟩ := hx
  refine Calls.spliced_nil (call_tuple_new hr I.ok.frames hG fun s' acc H' ys q1 q2 q3 q4 q5 q6 q7 => ?_)
  have J := back H' s' q3 q4 q5 q6
  refine ⟨.ref s'.heap.objs.size, _, J.laid (t' := s'.toks) (o := .tup ys) (fun b u e => Heap.get?_push_of_some _ e) (Nat.le_refl _) ⟨q2, acc.toList, q1, ?_⟩, rfl, q7 _ (J.hok.fresh (Nat.le_refl _))⟩
  have z := IsTup.new s'.heap acc
  simpa using z
end
end Gx

set_option Elab.async false
set_option linter.all false
set_option maxRecDepth 100000
set_option maxHeartbeats 4000000
/-! riddles as texts -/
namespace Rd
open PySem PySem.Spec PyProof.Rows L2 Dt TL
def numT (i : Int) : Str := Str.ofString (toString i)
def placesT (ps : List Int) : Str := Txt.join (Str.ofString " ") (ps.map numT)
def rowT (r : List Int) : Str := Txt.join (Str.ofString "") (r.map numT)
def rowsT (rs : List (List Int)) : Str := Txt.join (Str.ofString " ") (rs.map rowT)
def wishT (wd : WD) : Str := (((Str.empty ++ Str.ofString "wish ") ++ placesT wd.1) ++ Str.ofString ": ") ++ rowsT wd.2
def headT (many hues : Int) : Str := (((Str.empty ++ Str.ofString "places ") ++ numT many) ++ Str.ofString " hues ") ++ numT hues
def ridT (many hues : Int) (wds : List WD) : Str := Txt.join (Str.ofString "\n") ([headT many hues] ++ wds.map wishT)
/-! as the law writes them -/
def rowsL (r : Str) (rs : List (List Int)) : Str := rs.foldl (fun r h => (r ++ Str.ofString " ") ++ rowT h) r
def wishL (wd : WD) : Str := rowsL ((Str.ofString "wish " ++ placesT wd.1) ++ Str.ofString ":") wd.2
def headL (many hues : Int) : Str := ((Str.ofString "places " ++ numT many) ++ Str.ofString " hues ") ++ numT hues
def ridL (many hues : Int) (wds : List WD) : Str := Txt.join (Str.ofString "\n") ([headL many hues] ++ wds.map wishL)
theorem tl_joinT (y : Str) (ps : List Str) : tl (Txt.join y ps) = joinL (tl y) (ps.map tl) := by rw [join_eq, tl_join]
theorem tl_empty : tl Str.empty = [] := rfl
theorem tl_sp : tl (Str.ofString " ") = [32] := by decide +kernel
theorem rows_tl : ∀ (rs : List (List Int)) (r : Str), tl (rowsL r rs) = tl r ++ (rs.map fun h => 32 :: tl (rowT h)).flatten
  | [], r => by simp [rowsL]
  | h :: rs, r => by
    show tl (rowsL ((r ++ Str.ofString " ") ++ rowT h) rs) = _
    rw [rows_tl rs, tl_append, tl_append, tl_sp]
    simp
theorem join_sp : ∀ (ps : List (List Nat)), ps ≠ [] → 32 :: joinL [32] ps = (ps.map fun p => 32 :: p).flatten
  | [], h => absurd rfl h
  | [p], _ => by simp [joinL]
  | p :: q :: r, _ => by
    have ih := join_sp (q :: r) (by simp)
    rw [joinL, List.map_cons, List.flatten_cons, ← ih]
    simp
theorem wish_same {wd : WD} (h : wd.2 ≠ []) : wishT wd = wishL wd := by
  refine ext_tl ?_
  unfold wishT wishL rowsT
  rw [tl_append, tl_append, tl_append, tl_append, tl_empty, rows_tl, tl_append, tl_append, tl_joinT, tl_sp, List.map_map]
  have e1 : tl (Str.ofString ": ") = tl (Str.ofString ":") ++ [32] := by decide +kernel
  have e2 := join_sp (wd.2.map (tl ∘ rowT)) (by simpa using h)
  rw [List.map_map] at e2
  rw [e1, List.nil_append, List.append_assoc, List.append_assoc, List.append_assoc]
  show _ ++ (_ ++ (_ ++ ([32] ++ joinL [32] (wd.2.map (tl ∘ rowT))))) = _
  rw [show [32] ++ joinL [32] (wd.2.map (tl ∘ rowT)) = 32 :: joinL [32] (wd.2.map (tl ∘ rowT)) from rfl, e2, List.append_assoc]
  rfl
theorem head_same (many hues : Int) : headT many hues = headL many hues := by
  refine ext_tl ?_
  unfold headT headL
  rw [tl_append, tl_append, tl_append, tl_append, tl_empty, List.nil_append, tl_append, tl_append, tl_append]
theorem rid_same {many hues : Int} {wds : List WD} (g : GoodR many hues wds) : ridT many hues wds = ridL many hues wds := by
  unfold ridT ridL
  rw [head_same]
  congr 2
  refine List.map_congr_left fun wd hw => wish_same fun z => ?_
  have := (g.each wd hw).some_
  rw [z] at this
  exact absurd this (by decide)
/-! lengths -/
theorem len_app (x y : Str) : (x ++ y).length = x.length + y.length := by rw [len_tl, tl_append, List.length_append, ← len_tl, ← len_tl]
theorem len_num {i : Int} (h0 : 0 ≤ i) (h1 : i ≤ 9) : (numT i).length ≤ 1 := by
  have all : ∀ n : Nat, n < 10 → (numT (n : Int)).length ≤ 1 := by decide +kernel
  have z := all i.toNat (by omega)
  rw [show ((i.toNat : Nat) : Int) = i by omega] at z
  exact z
theorem num_small {i : Int} (h0 : 0 ≤ i) (h1 : i ≤ 9) : i.natAbs.log2 < 1920 := by
  have : i.natAbs ≤ 9 := by omega
  have all : ∀ n : Nat, n < 10 → n.log2 < 1920 := by decide +kernel
  exact all _ (by omega)
theorem sum_le {α : Type} (l : List α) (f : α → Nat) (b : Nat) (h : ∀ x ∈ l, f x ≤ b) : (l.map f).sum ≤ l.length * b := by
  induction l with
  | nil => simp
  | cons x r ih =>
    rw [List.map_cons, List.sum_cons, List.length_cons, Nat.succ_mul]
    have h1 := h x List.mem_cons_self
    have h2 := ih fun y hy => h y (List.mem_cons_of_mem _ hy)
    omega
theorem joinOk_of {sep : Str} {ws : List Str} (h : (ws.map (·.length)).sum + ws.length * sep.length ≤ 16777216) : JoinOk sep ws = true := PyProof.Rows.joinOk_of h
theorem len_join (sep : Str) (ws : List Str) (b : Nat) (h : ∀ w ∈ ws, w.length ≤ b) : (Txt.join sep ws).length ≤ ws.length * b + ws.length * sep.length := by
  rw [join_eq]
  have a := StrLaws.join_length_le sep ws
  have c := sum_le ws (·.length) b h
  omega
theorem len_ofs {s : String} {n : Nat} (h : (Str.ofString s).length = n) : (Str.ofString s).length ≤ n := Nat.le_of_eq h
theorem len_places {many : Int} {ps : List Int} (m : many ≤ 6) (h : ∀ p ∈ ps, 0 ≤ p ∧ p < many) (h3 : ps.length ≤ 3) : (placesT ps).length ≤ 6 := by
  have z := len_join (Str.ofString " ") (ps.map numT) 1 fun w hw => by
    obtain ⟨p, hp, rfl⟩ := List.mem_map.mp hw
    have := h p hp
    exact len_num (by omega) (by omega)
  have e : (Str.ofString " ").length = 1 := by decide +kernel
  rw [List.length_map, e] at z
  unfold placesT
  omega
theorem len_row {hues : Int} {r : List Int} (m : hues ≤ 4) (h : ∀ p ∈ r, 0 ≤ p ∧ p < hues) (h3 : r.length ≤ 3) : (rowT r).length ≤ 3 := by
  have z := len_join (Str.ofString "") (r.map numT) 1 fun w hw => by
    obtain ⟨p, hp, rfl⟩ := List.mem_map.mp hw
    have := h p hp
    exact len_num (by omega) (by omega)
  have e : (Str.ofString "").length = 0 := by decide +kernel
  rw [List.length_map, e] at z
  unfold rowT
  omega
theorem len_rows {many hues : Int} {wd : WD} (m : hues ≤ 4) (g : Good many hues wd) : (rowsT wd.2).length ≤ 256 := by
  have z := len_join (Str.ofString " ") (wd.2.map rowT) 3 fun w hw => by
    obtain ⟨r, hr, rfl⟩ := List.mem_map.mp hw
    have := g.row r hr
    have := g.three
    exact len_row m (g.row r hr).2 (by omega)
  have e : (Str.ofString " ").length = 1 := by decide +kernel
  rw [List.length_map, e] at z
  have := g.few
  unfold rowsT
  omega
theorem len_wish {many hues : Int} {wd : WD} (m6 : many ≤ 6) (m : hues ≤ 4) (g : Good many hues wd) : (wishT wd).length ≤ 300 := by
  unfold wishT
  rw [len_app, len_app, len_app, len_app]
  have a := len_places m6 g.pl g.three
  have b := len_rows m g
  have e1 : Str.empty.length = 0 := rfl
  have e2 : (Str.ofString "wish ").length = 5 := by decide +kernel
  have e3 : (Str.ofString ": ").length = 2 := by decide +kernel
  omega
theorem len_head {many hues : Int} (m0 : 0 ≤ many) (m6 : many ≤ 6) (h0 : 0 ≤ hues) (m : hues ≤ 4) : (headT many hues).length ≤ 20 := by
  unfold headT
  rw [len_app, len_app, len_app, len_app]
  have a := len_num m0 (by omega : many ≤ 9)
  have b := len_num h0 (by omega : hues ≤ 9)
  have e1 : Str.empty.length = 0 := rfl
  have e2 : (Str.ofString "places ").length = 7 := by decide +kernel
  have e3 : (Str.ofString " hues ").length = 6 := by decide +kernel
  omega
/-! all but tables stays -/
def IsTbl (H : Hp) (b : Addr) : Prop := ∃ ps, H b = some (.tbl ps)
structure NFr (A Qs : List Addr) (H H' : Hp) : Prop where
  keep : ∀ b o, (∀ ps, o ≠ .tbl ps) → H b = some o → H' b = some o
  tabs : ∀ b, IsTbl H b → IsTbl H' b
  tabg : ∀ b, GxR.TabG H b → GxR.TabG H' b
  nest : Gx.Nests A Qs H'
theorem NFr.trans {A Qs : List Addr} {H H1 H2 : Hp} (a : NFr A Qs H H1) (b : NFr A Qs H1 H2) : NFr A Qs H H2 := ⟨fun x o n e => b.keep x o n (a.keep x o n e), fun x t => b.tabs x (a.tabs x t), fun x t => b.tabg x (a.tabg x t), b.nest⟩
theorem NFr.seqs {A Qs : List Addr} {H H' : Hp} (a : NFr A Qs H H') : Seqs H H' := ⟨fun b xs e => a.keep b _ (fun _ z => by cases z) e, fun b xs e => a.keep b _ (fun _ z => by cases z) e⟩
theorem nests_keep {A Qs : List Addr} {H H' : Hp} (h : Gx.Nests A Qs H) (k0 : ∀ b, b ∈ A → H b ≠ none → H' b ≠ none) (k : ∀ b o, ((∃ ps, o = .tbl ps) ∨ ∃ φ, o = .ext φ) → H b = some o → H' b = some o) : Gx.Nests A Qs H' := by
  refine ⟨fun P hP => k0 P hP (h.1 P hP), fun P hP => ⟨(h.2 P hP).1, ?_⟩⟩
  obtain ⟨_, ps, h1, h2, h3⟩ := h.2 P hP
  refine ⟨ps, k _ _ (.inl ⟨_, rfl⟩) h1, h2, fun pos cv e => ?_⟩
  obtain ⟨c2, P2, e1, e2, ⟨qs, q1, q2⟩, e4⟩ := h3 pos cv e
  exact ⟨c2, P2, e1, k _ _ (.inr ⟨_, rfl⟩) e2, ⟨qs, k _ _ (.inl ⟨_, rfl⟩) q1, q2⟩, e4⟩
theorem nests_same {A Qs : List Addr} {H H' : Hp} (h : Gx.Nests A Qs H) (s : Same H H') : Gx.Nests A Qs H' := nests_keep h (fun b _ n z => by
  cases e : H b with
  | none => exact n e
  | some o => rw [s b o e] at z; cases z) fun b o _ e => s _ _ e
theorem NFr.refl {A Qs : List Addr} {H : Hp} (h : Gx.Nests A Qs H) : NFr A Qs H H := ⟨fun _ _ _ e => e, fun _ t => t, fun _ t => t, h⟩
theorem NFr.same {A Qs : List Addr} {H H1 H2 : Hp} (a : NFr A Qs H H1) (s : Same H1 H2) : NFr A Qs H H2 := ⟨fun b o n e => s _ _ (a.keep b o n e), fun b t => (a.tabs b t).imp fun _ e => s _ _ e, fun b t => let ⟨ps, e, r⟩ := a.tabg b t; ⟨ps, s _ _ e, r⟩, nests_same a.nest s⟩
theorem NFr.nested {A Qs : List Addr} {H H1 H2 : Hp} {P c' P' : Addr} (a : NFr A Qs H H1) (hP : P ∈ Qs) (n : Gx.Nested A Qs P c' P' H1 H2) : NFr A Qs H H2 := by
  obtain ⟨_, ps, t1, _⟩ := a.nest.2 P hP
  obtain ⟨_, rs, r, r2, _⟩ := n.nest.2 P hP
  refine ⟨fun b o nt e => ?_, fun b t => ?_, fun b t => ?_, n.nest⟩
  · have e1 := a.keep b o nt e
    exact n.keep b o (fun z => by rw [z, t1] at e1; exact nt ps (Option.some.inj e1).symm) e1
  · obtain ⟨qs, q⟩ := a.tabs b t
    by_cases hb : b = P
    · rw [hb]
      exact ⟨rs, r⟩
    · exact ⟨qs, n.keep b _ hb q⟩
  · obtain ⟨qs, q, q2⟩ := a.tabg b t
    by_cases hb : b = P
    · rw [hb]
      exact ⟨rs, r, r2⟩
    · exact ⟨qs, n.keep b _ hb q, q2⟩
theorem NFr.tabbed {A Qs : List Addr} {H H1 H2 : Hp} {P' : Addr} (a : NFr A Qs H H1) (ne : P' ∉ A) (hP : GxR.TabG H1 P') (t : GxR.Tabbed P' H1 H2) : NFr A Qs H H2 := by
  obtain ⟨ps, t1, _⟩ := id hP
  refine ⟨fun b o nt e => ?_, fun b tb => ?_, fun b tb => ?_, a.nest.tabbed ne hP t⟩
  · have e1 := a.keep b o nt e
    rw [t.2 b (fun z => by rw [z, t1] at e1; exact nt ps (Option.some.inj e1).symm)]
    exact e1
  · by_cases hb : b = P'
    · obtain ⟨rs, r, _⟩ := t.1
      rw [hb]
      exact ⟨rs, r⟩
    · obtain ⟨qs, q⟩ := a.tabs b tb
      exact ⟨qs, by rw [t.2 b hb]; exact q⟩
  · by_cases hb : b = P'
    · rw [hb]
      exact t.1
    · obtain ⟨qs, q, q2⟩ := a.tabg b tb
      exact ⟨qs, by rw [t.2 b hb]; exact q, q2⟩
theorem NFr.free {A Qs : List Addr} {H H1 : Hp} {b : Addr} (a : NFr A Qs H H1) (h : H1 b = none) : H b = none := by
  cases e : H b with
  | none => rfl
  | some o =>
    by_cases ht : ∃ ps, o = .tbl ps
    · obtain ⟨ps, rfl⟩ := ht
      obtain ⟨qs, q⟩ := a.tabs b ⟨ps, e⟩
      rw [h] at q
      cases q
    · have := a.keep b o (fun ps z => ht ⟨ps, z⟩) e
      rw [h] at this
      cases this
theorem NFr.put {A Qs : List Addr} {H H1 : Hp} {b : Addr} {xs : List V} {o : HO} (a : NFr A Qs H H1) (n : H b = none) (l : H1 b = some (.lst xs)) : NFr A Qs H (upd H1 b o) := by
  refine ⟨fun c u nt e => ?_, fun c t => ?_, fun c t => ?_, nests_keep a.nest (fun c _ h z => ?_) fun c u h e => ?_⟩
  · rw [upd_ne (fun z => by rw [z, n] at e; cases e)]
    exact a.keep c u nt e
  · obtain ⟨ps, e⟩ := id t
    obtain ⟨qs, q⟩ := a.tabs c t
    exact ⟨qs, by rw [upd_ne (fun z => by rw [z, n] at e; cases e)]; exact q⟩
  · obtain ⟨ps, e, _⟩ := id t
    obtain ⟨qs, q, q2⟩ := a.tabg c t
    exact ⟨qs, by rw [upd_ne (fun z => by rw [z, n] at e; cases e)]; exact q, q2⟩
  · by_cases hb : c = b
    · rw [hb, upd_same] at z
      cases z
    · rw [upd_ne hb] at z
      exact h z
  · rw [upd_ne (fun z => by
      rw [z, l] at e
      have e := Option.some.inj e
      rcases h with ⟨ps, h⟩ | ⟨φ, h⟩
      · rw [h] at e
        cases e
      · rw [h] at e
        cases e)]
    exact e
/-- a frame over plain tables -/
theorem NFr.ofS {A Qs Ps : List Addr} {H H' : Hp} (hT : Tabs Ps H) (hN : Gx.Nests A Qs H) (sub : ∀ P ∈ Ps, P ∈ A) (dis : ∀ P ∈ Qs, P ∉ Ps) (f : FrS Ps H H') : NFr A Qs H H' := by
  have nt : ∀ b o, (∀ ps, o ≠ .tbl ps) → H b = some o → b ∉ Ps := fun b o n e hb => by
    obtain ⟨ps, h, _⟩ := hT b hb
    rw [h] at e
    exact n ps (Option.some.inj e).symm
  have tg : ∀ b, GxR.TabG H b → GxR.TabG H' b := fun b t => by
    by_cases hb : b ∈ Ps
    · exact f.2 b hb
    · obtain ⟨ps, e, r⟩ := t
      exact ⟨ps, f.1 b _ hb e, r⟩
  refine ⟨fun b o n e => f.1 b o (nt b o n e) e, fun b t => ?_, tg, ⟨fun P hP z => ?_, fun P hP => ⟨(hN.2 P hP).1, ?_⟩⟩⟩
  · by_cases hb : b ∈ Ps
    · obtain ⟨qs, q, _⟩ := f.2 b hb
      exact ⟨qs, q⟩
    · exact t.imp fun _ e => f.1 b _ hb e
  · by_cases hb : P ∈ Ps
    · obtain ⟨qs, q, _⟩ := f.2 P hb
      rw [q] at z
      cases z
    · cases e : H P with
      | none => exact hN.1 P hP e
      | some o =>
        rw [f.1 P o hb e] at z
        cases z
  · obtain ⟨_, ps, h1, h2, h3⟩ := hN.2 P hP
    refine ⟨ps, f.1 P _ (dis P hP) h1, h2, fun pos cv e => ?_⟩
    obtain ⟨c2, P2, e1, e2, e3, e4⟩ := h3 pos cv e
    exact ⟨c2, P2, e1, f.1 c2 _ (nt c2 _ (fun _ z => by cases z) e2) e2, tg P2 e3, e4⟩
theorem NFr.tab {A Qs Ps : List Addr} {H H' : Hp} (a : NFr A Qs H H') (hT : Tabs Ps H) : Tabs Ps H' := fun P hP => a.tabg P (hT P hP)
end Rd

set_option Elab.async false
set_option linter.all false
set_option maxRecDepth 100000
set_option maxHeartbeats 4000000
/-! the greatest of a list of pairs -/
namespace Rd
open PySem PySem.Spec PyProof.Rows L2 Dt
def pairD (z : Int × Int) : PyData := .tuple [.int z.1, .int z.2]
theorem pairD_inj {a b : Int × Int} (h : pairD a = pairD b) : a = b := by
  unfold pairD at h
  injection h with h
  injection h with h1 h2
  injection h1 with h1
  injection h2 with h2 _
  injection h2 with h2
  exact Prod.ext h1 h2
def ltP (a b : Int × Int) : Bool := PySem.W.dataLt (pairD a) (pairD b)
theorem ltP_le {a b : Int × Int} (h : ltP a b = true) : a.1 ≤ b.1 := by
  by_cases e : a.1 = b.1
  · omega
  · unfold ltP pairD at h
    rw [PySem.W.dataLt_tuple, PySem.W.dataLt_all_no (by simp [PySem.W.alike]) (by simp [PyData.eqv]; exact e), PySem.W.dataLt_int] at h
    have := of_decide_eq_true h
    omega
theorem ltP_of {a b : Int × Int} (h : a.1 < b.1) : ltP a b = true := by
  unfold ltP pairD
  rw [PySem.W.dataLt_tuple, PySem.W.dataLt_all_no (by simp [PySem.W.alike]) (by simp [PyData.eqv]; omega), PySem.W.dataLt_int]
  exact decide_eq_true h
def maxP (x : Int × Int) (xs : List (Int × Int)) : Int × Int := xs.foldl (fun a y => if ltP a y then y else a) x
theorem maxD_pairs : ∀ (xs : List (Int × Int)) (x : Int × Int), PySem.W.maxD (pairD x) (xs.map pairD) = pairD (maxP x xs)
  | [], _ => rfl
  | y :: r, x => by
    have ih := maxD_pairs r (if ltP x y then y else x)
    unfold PySem.W.maxD maxP at ih ⊢
    rw [List.map_cons, List.foldl_cons, List.foldl_cons, ← ih]
    congr 1
    unfold ltP
    split <;> rfl
theorem maxP_is : ∀ (xs : List (Int × Int)) (x : Int × Int), maxP x xs ∈ x :: xs ∧ x.1 ≤ (maxP x xs).1 ∧ ∀ y ∈ xs, y.1 ≤ (maxP x xs).1
  | [], x => ⟨List.mem_cons_self, Int.le_refl _, fun _ h => nomatch h⟩
  | y :: r, x => by
    obtain ⟨m, a, b⟩ := maxP_is r (if ltP x y then y else x)
    have e : maxP x (y :: r) = maxP (if ltP x y then y else x) r := rfl
    rw [e]
    by_cases c : ltP x y = true
    · rw [if_pos c] at m a b ⊢
      have := ltP_le c
      refine ⟨List.mem_cons_of_mem _ m, by omega, fun z hz => ?_⟩
      rcases List.mem_cons.mp hz with rfl | hz
      · exact a
      · exact b z hz
    · rw [if_neg c] at m a b ⊢
      have : y.1 ≤ x.1 := by
        by_cases d : x.1 < y.1
        · exact absurd (ltP_of d) c
        · omega
      refine ⟨?_, a, fun z hz => ?_⟩
      · rcases List.mem_cons.mp m with m | m
        · rw [m]
          exact List.mem_cons_self
        · exact List.mem_cons_of_mem _ (List.mem_cons_of_mem _ m)
      · rcases List.mem_cons.mp hz with rfl | hz
        · omega
        · exact b z hz
/-- max(xs) of a list of pairs: one of the greatest first ones -/
def rMaxP (K : PySem.W.Frag) : List V → Hp → VK → Prop := fun vs H Q => ∃ (a : Addr) (ts : List Addr) (k : Addr → Int × Int), vs = [V.ref a] ∧ SqL K H a (ts.map V.ref) ∧ ts ≠ [] ∧ (∀ t ∈ ts, H t = some (.tup [.int (k t).1, .int (k t).2])) ∧
  ∀ t ∈ ts, (∀ u ∈ ts, (k u).1 ≤ (k t).1) → Q (.ref t) H
theorem dpPairs {K : PySem.W.Frag} {H : Hp} {k : Addr → Int × Int} : ∀ {ts : List Addr}, (∀ t ∈ ts, H t = some (.tup [.int (k t).1, .int (k t).2])) → DpAll K H (ts.map V.ref) ((ts.map k).map pairD)
  | [], _ => .nil
  | t :: r, h => .cons (.tup (.inl (.inl (h t List.mem_cons_self))) (.cons (.int _) (.cons (.int _) .nil))) (dpPairs fun u hu => h u (List.mem_cons_of_mem _ hu))
theorem readsAll_get {h : Heap} : ∀ {vs : List Value} {xs : List PyData} {as : List Addr}, ReadsAll h vs xs as → ∀ {i : Nat} {v : Value} {d : PyData}, vs[i]? = some v → xs[i]? = some d → ∃ bs, Reads h v d bs
  | _, _, _, .nil, _, _, _, hv, _ => by simp at hv
  | _, _, _, .cons r rs, 0, v, d, hv, hd => by
    cases Option.some.inj (show some _ = some v from hv)
    cases Option.some.inj (show some _ = some d from hd)
    exact ⟨_, r⟩
  | _, _, _, .cons r rs, i + 1, v, d, hv, hd => readsAll_get rs (i := i) hv hd
theorem cr_maxP {X : Cx} (hc : X.calm = true) (hu : X.A.units + 64 < cLine) : CallR X (.builtin "max") (rMaxP X.K) := by
  intro pins s σ H vs us Q I r h
  obtain ⟨a, ts, k, rfl, hs, hne, hk, q⟩ := h
  obtain ⟨its, rv, hl, _⟩ := I.list hs
  rw [Vals.ref1 r]
  have ei := Tt.vals_refs rv
  obtain ⟨as, rr⟩ := Dp.readsAll I _ _ _ (dpPairs hk) rv
  cases ts with
  | nil => exact absurd rfl hne
  | cons t0 tr =>
    refine PySem.W.max_list_data (x := pairD (k t0)) (xs := (tr.map k).map pairD) (I.ok.hd hc) hl.isList rr ⟨fun x hx y hy => ?_, fun x hx => ?_⟩ ?_ fun i v h' tk bs hi hrd hkp => ?_
    · have px : ∀ x ∈ pairD (k t0) :: (tr.map k).map pairD, ∃ z, x = pairD z := fun x hx => by
        rcases List.mem_cons.mp hx with e | e
        · exact ⟨_, e⟩
        · obtain ⟨z, _, e⟩ := List.mem_map.mp e
          exact ⟨z, e.symm⟩
      obtain ⟨z, rfl⟩ := px x hx
      obtain ⟨z', rfl⟩ := px y hy
      simp [pairD, PySem.W.alike, PySem.W.alikeAll]
    · rcases List.mem_cons.mp hx with e | e
      · rw [e]
        exact fun z => nomatch z
      · obtain ⟨z, _, e⟩ := List.mem_map.mp e
        rw [← e]
        exact fun z => nomatch z
    · have d : PyData.depthAll (pairD (k t0) :: (tr.map k).map pairD) ≤ 3 := by
        have all : ∀ zs : List (Int × Int), PyData.depthAll (zs.map pairD) ≤ 3 := fun zs => by
          induction zs with
          | nil => simp [PyData.depthAll]
          | cons z r ih =>
            rw [List.map_cons]
            simp only [PyData.depthAll, pairD, PyData.depth]
            omega
        exact all (k t0 :: tr.map k)
      omega
    · have hi' : ((t0 :: tr).map Value.ref)[i]? = some v := by
        rw [← ei]
        have z := hi
        rw [List.getElem?_toArray] at z
        exact z
      rw [List.getElem?_map] at hi'
      cases et : (t0 :: tr)[i]? with
      | none => rw [et] at hi'; cases hi'
      | some t =>
        rw [et] at hi'
        cases hi'
        have mt := List.mem_of_getElem? et
        obtain ⟨bs2, r2⟩ := readsAll_get rr (i := i) (v := .ref t) (d := pairD (k t)) (by rw [ei, List.getElem?_map, et]; rfl) (by rw [List.getElem?_map, List.getElem?_map, et]; rfl)
        have e := (PyProof.Rows.reads_det (fun b o e _ => hkp b o e) r2 hrd).1
        rw [maxD_pairs] at e
        have ek := pairD_inj e
        obtain ⟨_, m1, m2⟩ := maxP_is (tr.map k) (k t0)
        refine ⟨.ref t, H, I.kept hkp, rfl, q t mt fun u hu' => ?_⟩
        rw [← ek]
        rcases List.mem_cons.mp hu' with rfl | hu'
        · exact m1
        · exact m2 _ (List.mem_map.mpr ⟨u, hu', rfl⟩)
end Rd

set_option Elab.async false
set_option linter.all false
set_option maxRecDepth 100000
set_option maxHeartbeats 4000000
/-! how many fillings break one wish: rows times hues to the power of the other places -/
namespace Rd
open PySem PySem.Spec PyProof.Rows L2 Dt
def okG (g : Nat → Option Int) (n : Nat) (f : List Int) : Bool := (List.range n).all fun i => match g i with
  | none => true
  | some z => decide (f.getD i 0 = z)
theorem okG_snoc (g : Nat → Option Int) {n : Nat} {f : List Int} (hl : f.length = n) (x : Int) : okG g (n + 1) (f ++ [x]) = (okG g n f && (match g n with | none => true | some z => decide (x = z))) := by
  unfold okG
  rw [List.range_succ, List.all_append]
  have e1 : ((List.range n).all fun i => match g i with | none => true | some z => decide ((f ++ [x]).getD i 0 = z)) = (List.range n).all fun i => match g i with | none => true | some z => decide (f.getD i 0 = z) := by
    rw [Bool.eq_iff_iff, List.all_eq_true, List.all_eq_true]
    have e : ∀ i ∈ List.range n, (f ++ [x]).getD i 0 = f.getD i 0 := fun i hi => by
      have := List.mem_range.mp hi
      rw [List.getD_eq_getElem?_getD, List.getD_eq_getElem?_getD, List.getElem?_append_left (by omega)]
    constructor
    · intro h i hi
      have := h i hi
      rw [e i hi] at this
      exact this
    · intro h i hi
      rw [e i hi]
      exact h i hi
  rw [e1]
  have e2 : (f ++ [x]).getD n 0 = x := by
    rw [List.getD_eq_getElem?_getD, List.getElem?_append_right (by omega), hl, Nat.sub_self]
    rfl
  simp only [List.all_cons, List.all_nil, Bool.and_true, e2]
def wt (h : Nat) (g : Nat → Option Int) : Nat → Nat
  | 0 => 1
  | n + 1 => wt h g n * (match g n with | none => h | some _ => 1)
theorem cnt_none : ∀ (h : Nat) (z : Int), ¬ (0 ≤ z ∧ z < (h : Int)) → (List.range h).countP (fun i => decide (((i : Nat) : Int) = z)) = 0
  | 0, _, _ => rfl
  | h + 1, z, n => by
    rw [List.range_succ, List.countP_append, cnt_none h z (by omega), List.countP_cons, decide_eq_false (by omega : ¬ ((h : Nat) : Int) = z)]
    rfl
theorem cnt_eq : ∀ (h : Nat) (z : Int), 0 ≤ z → z < (h : Int) → (List.range h).countP (fun i => decide (((i : Nat) : Int) = z)) = 1
  | 0, z, h0, h1 => by omega
  | h + 1, z, h0, h1 => by
    rw [List.range_succ, List.countP_append, List.countP_cons]
    by_cases e : z = (h : Int)
    · rw [cnt_none h z (by omega), decide_eq_true e.symm]
      rfl
    · rw [cnt_eq h z h0 (by omega), decide_eq_false (by omega : ¬ ((h : Nat) : Int) = z)]
      rfl
theorem sum_map_if {α : Type} (p : α → Bool) (c : Nat) : ∀ l : List α, (l.map fun x => if p x = true then c else 0).sum = l.countP p * c
  | [] => by simp
  | x :: r => by
    rw [List.map_cons, List.sum_cons, sum_map_if p c r, List.countP_cons]
    by_cases e : p x = true
    · rw [if_pos e, if_pos e, Nat.add_mul]; omega
    · rw [if_neg e, if_neg e, Nat.zero_add, Nat.add_zero]
theorem cnt_ok (h : Nat) (g : Nat → Option Int) (hg : ∀ i z, g i = some z → 0 ≤ z ∧ z < (h : Int)) : ∀ n : Nat, (fillL h n).countP (okG g n) = wt h g n
  | 0 => rfl
  | n + 1 => by
    show ((fillL h n).flatMap (longer h)).countP (okG g (n + 1)) = _
    rw [List.countP_flatMap]
    have e : (fillL h n).map (List.countP (okG g (n + 1)) ∘ longer h) = (fillL h n).map fun f => if okG g n f = true then (match g n with | none => h | some _ => 1) else 0 := by
      refine List.map_congr_left fun f hf => ?_
      have fl := (fill_good hf).1
      show ((longer h f).countP (okG g (n + 1))) = _
      unfold longer
      rw [List.countP_map]
      have e3 : (okG g (n + 1) ∘ fun x : Nat => f ++ [((x : Nat) : Int)]) = fun x : Nat => (okG g n f && (match g n with | none => true | some z => decide (((x : Nat) : Int) = z))) := by
        funext x
        exact okG_snoc g fl _
      rw [e3]
      cases ok : okG g n f with
      | false => simp
      | true =>
        cases eg : g n with
        | none => simp
        | some z =>
          simp only [Bool.true_and, if_true]
          exact cnt_eq h z (hg n z eg).1 (hg n z eg).2
    rw [e, sum_map_if, cnt_ok h g hg n]
    rfl
/-- what a row asks of a place -/
def askG (ps row : List Int) (i : Nat) : Option Int := if ((i : Nat) : Int) ∈ ps then some (row.getD (ps.idxOf ((i : Nat) : Int)) 0) else none
theorem ok_ask {ps row f : List Int} {n : Nat} (nd : ps.Nodup) (hp : ∀ p ∈ ps, 0 ≤ p ∧ p < (n : Int)) (hr : row.length = ps.length) : okG (askG ps row) n f = decide (huesA f ps = row) := by
  rw [Bool.eq_iff_iff, decide_eq_true_eq]
  unfold okG
  rw [List.all_eq_true]
  constructor
  · intro h
    refine List.ext_getElem (by rw [huesA, List.length_map, hr]) fun k h1 h2 => ?_
    have hk : k < ps.length := by rw [huesA, List.length_map] at h1; exact h1
    have hm := List.getElem_mem hk
    obtain ⟨p0, p1⟩ := hp _ hm
    have z := h ps[k].toNat (List.mem_range.mpr (by omega))
    have e : ((ps[k].toNat : Nat) : Int) = ps[k] := by omega
    have ei : ps.idxOf ps[k] = k := nd.idxOf_getElem k hk
    unfold askG at z
    rw [e, if_pos hm, ei] at z
    have z := of_decide_eq_true z
    simp only [huesA, List.getElem_map, atF]
    rw [z, List.getD_eq_getElem?_getD, List.getElem?_eq_getElem h2]
    rfl
  · intro h i hi
    unfold askG
    by_cases e : ((i : Nat) : Int) ∈ ps
    · rw [if_pos e]
      refine decide_eq_true ?_
      have hx := List.idxOf_lt_length_of_mem e
      have e2 : (List.map (atF f) ps).getD (List.idxOf ((i : Nat) : Int) ps) 0 = f.getD i 0 := by
        rw [List.getD_eq_getElem?_getD, List.getElem?_map, List.getElem?_eq_getElem hx]
        simp only [Option.map_some, Option.getD_some, List.getElem_idxOf, atF, Int.toNat_natCast]
      rw [← h, huesA, e2]
    · rw [if_neg e]
theorem wt_ask (h : Nat) (ps row : List Int) : ∀ n : Nat, wt h (askG ps row) n = h ^ ((List.range n).countP fun i => decide (¬ ((i : Nat) : Int) ∈ ps))
  | 0 => rfl
  | n + 1 => by
    rw [wt, wt_ask h ps row n, List.range_succ, List.countP_append, List.countP_cons, List.countP_nil, Nat.zero_add, Nat.pow_add]
    congr 1
    unfold askG
    by_cases e : ((n : Nat) : Int) ∈ ps
    · rw [if_pos e, decide_eq_false (fun z => z e)]
      rfl
    · rw [if_neg e, decide_eq_true e]
      simp
theorem cnt_in (n : Nat) : ∀ ps : List Int, ps.Nodup → (∀ p ∈ ps, 0 ≤ p ∧ p < (n : Int)) → ((List.range n).countP fun i => decide (((i : Nat) : Int) ∈ ps)) = ps.length
  | [], _, _ => by simp
  | p :: r, nd, hp => by
    obtain ⟨n1, n2⟩ := List.nodup_cons.mp nd
    have ih := cnt_in n r n2 fun q hq => hp q (List.mem_cons_of_mem _ hq)
    have h1 := cnt_eq n p (hp p List.mem_cons_self).1 (hp p List.mem_cons_self).2
    rw [List.length_cons, ← ih, ← h1]
    clear ih h1 hp nd n2
    induction n with
    | zero => rfl
    | succ n ih =>
      rw [List.range_succ, List.countP_append, List.countP_append, List.countP_append, ih]
      have e : ((([n] : List Nat).countP fun i => decide (((i : Nat) : Int) ∈ p :: r)) : Nat) = (([n] : List Nat).countP fun i => decide (((i : Nat) : Int) ∈ r)) + (([n] : List Nat).countP fun i => decide (((i : Nat) : Int) = p)) := by
        rw [List.countP_singleton, List.countP_singleton, List.countP_singleton]
        by_cases a : ((n : Nat) : Int) = p
        · have b : ¬ ((n : Nat) : Int) ∈ r := fun z => n1 (a ▸ z)
          rw [decide_eq_true a, decide_eq_false b, decide_eq_true (List.mem_cons.mpr (.inl a))]
          rfl
        · rw [decide_eq_false a]
          by_cases b : ((n : Nat) : Int) ∈ r
          · rw [decide_eq_true b, decide_eq_true (List.mem_cons_of_mem _ b)]
            rfl
          · rw [decide_eq_false b, decide_eq_false fun z => (List.mem_cons.mp z).elim a b]
            rfl
      rw [e]
      omega
theorem cnt_out {n : Nat} {ps : List Int} (nd : ps.Nodup) (hp : ∀ p ∈ ps, 0 ≤ p ∧ p < (n : Int)) : ((List.range n).countP fun i => decide (¬ ((i : Nat) : Int) ∈ ps)) = n - ps.length := by
  have a := cnt_in n ps nd hp
  have b := List.length_eq_countP_add_countP (l := List.range n) (fun i : Nat => decide (((i : Nat) : Int) ∈ ps))
  rw [List.length_range, a] at b
  have e : (fun i : Nat => decide (¬ ((i : Nat) : Int) ∈ ps)) = fun i : Nat => decide ¬ (decide (((i : Nat) : Int) ∈ ps) = true) := by
    funext i
    by_cases m : ((i : Nat) : Int) ∈ ps
    · rw [decide_eq_false (fun z => z m), decide_eq_true m]
      rfl
    · rw [decide_eq_true m, decide_eq_false m]
      rfl
  rw [e]
  omega
theorem cnt_row (h : Nat) {n : Nat} {ps row : List Int} (nd : ps.Nodup) (hp : ∀ p ∈ ps, 0 ≤ p ∧ p < (n : Int)) (hr : row.length = ps.length) (hh : ∀ z ∈ row, 0 ≤ z ∧ z < (h : Int)) : ((fillL h n).countP fun f => decide (huesA f ps = row)) = h ^ (n - ps.length) := by
  have c := cnt_ok h (askG ps row) (fun i z e => ?_) n
  · have e : okG (askG ps row) n = fun f => decide (huesA f ps = row) := funext fun f => ok_ask nd hp hr
    rw [e, wt_ask, cnt_out nd hp] at c
    exact c
  · unfold askG at e
    by_cases m : ((i : Nat) : Int) ∈ ps
    · rw [if_pos m] at e
      injection e with e
      have hx := List.idxOf_lt_length_of_mem m
      rw [List.getD_eq_getElem?_getD, List.getElem?_eq_getElem (by omega)] at e
      rw [← e]
      exact hh _ (List.getElem_mem _)
    · rw [if_neg m] at e
      cases e
/-- how many fillings a wish's rows break -/
theorem cnt_brk (h : Nat) {n : Nat} {ps : List Int} (nd : ps.Nodup) (hp : ∀ p ∈ ps, 0 ≤ p ∧ p < (n : Int)) : ∀ rows : List (List Int), rows.Nodup → (∀ r ∈ rows, r.length = ps.length ∧ ∀ z ∈ r, 0 ≤ z ∧ z < (h : Int)) → ((fillL h n).countP fun f => decide (huesA f ps ∈ rows)) = rows.length * h ^ (n - ps.length)
  | [], _, _ => by simp
  | r :: q, nr, hr => by
    obtain ⟨n1, n2⟩ := List.nodup_cons.mp nr
    have ih := cnt_brk h nd hp q n2 fun x hx => hr x (List.mem_cons_of_mem _ hx)
    have h1 := cnt_row h nd hp (hr r List.mem_cons_self).1 (hr r List.mem_cons_self).2
    rw [List.length_cons, Nat.add_mul, Nat.one_mul, ← ih, ← h1]
    clear ih h1 hr nr n2
    induction fillL h n with
    | nil => rfl
    | cons f l il =>
      rw [List.countP_cons, List.countP_cons, List.countP_cons, il]
      by_cases a : huesA f ps = r
      · have b : ¬ huesA f ps ∈ q := fun z => n1 (a ▸ z)
        rw [decide_eq_true a, decide_eq_false b, decide_eq_true (List.mem_cons.mpr (.inl a))]
        simp
        omega
      · rw [decide_eq_false a]
        by_cases b : huesA f ps ∈ q
        · rw [decide_eq_true b, decide_eq_true (List.mem_cons_of_mem _ b)]
          simp
          omega
        · rw [decide_eq_false b, decide_eq_false fun z => (List.mem_cons.mp z).elim a b]
          simp
/-! ### counts: their sum, and wishes counted twice -/
theorem bro_cnt (f : List Int) : ∀ wds : List WD, (List.range wds.length).countP (brkAt f wds) = wds.countP (brk f)
  | [] => rfl
  | w :: r => by
    rw [List.length_cons, List.range_succ_eq_map, List.countP_cons, List.countP_map, List.countP_cons]
    have e : (brkAt f (w :: r) ∘ Nat.succ) = brkAt f r := by
      funext k
      simp [brkAt]
    rw [e, bro_cnt f r]
    rfl
theorem bro_len (f : List Int) (wds : List WD) : (broL f wds wds.length).length = wds.countP (brk f) := by
  unfold broL
  rw [List.length_map, ← List.countP_eq_length_filter, bro_cnt]
theorem bump_sum : ∀ (ns : List Int) (i : Nat), i < ns.length → (bump ns i).sum = ns.sum + 1
  | [], i, h => absurd h (Nat.not_lt_zero _)
  | x :: r, 0, _ => by
    show (x + 1) + r.sum = (x + r.sum) + 1
    omega
  | x :: r, i + 1, h => by
    have z := bump_sum r i (Nat.lt_of_succ_lt_succ h)
    show x + (bump r i).sum = (x + r.sum) + 1
    omega
/-- each number times its place -/
def wsum : Nat → List Int → Int
  | _, [] => 0
  | k, x :: r => (k : Int) * x + wsum (k + 1) r
theorem bump_wsum : ∀ (ns : List Int) (i k : Nat), i < ns.length → wsum k (bump ns i) = wsum k ns + ((k + i : Nat) : Int)
  | [], i, k, h => absurd h (Nat.not_lt_zero _)
  | x :: r, 0, k, _ => by
    show (k : Int) * (x + 1) + wsum (k + 1) r = ((k : Int) * x + wsum (k + 1) r) + ((k + 0 : Nat) : Int)
    rw [Int.mul_add, Int.mul_one]
    omega
  | x :: r, i + 1, k, h => by
    have z := bump_wsum r i (k + 1) (Nat.lt_of_succ_lt_succ h)
    show (k : Int) * x + wsum (k + 1) (bump r i) = ((k : Int) * x + wsum (k + 1) r) + ((k + (i + 1) : Nat) : Int)
    rw [z]
    omega
theorem bro_le (f : List Int) (wds : List WD) : (broL f wds wds.length).length ≤ wds.length := by
  rw [bro_len]
  exact List.countP_le_length
theorem cnt_sums (wds : List WD) : ∀ (fss : List (List Int)) (ns : List Int), ns.length = wds.length + 1 → (fss.foldl (fun ns f => bump ns (broL f wds wds.length).length) ns).sum = ns.sum + (fss.length : Nat) ∧ wsum 0 (fss.foldl (fun ns f => bump ns (broL f wds wds.length).length) ns) = wsum 0 ns + ((fss.map fun f => wds.countP (brk f)).sum : Nat)
  | [], ns, _ => by simp
  | f :: r, ns, hl => by
    have b := bro_le f wds
    obtain ⟨z1, z2⟩ := cnt_sums wds r (bump ns (broL f wds wds.length).length) (by rw [bump_len]; exact hl)
    rw [List.foldl_cons, z1, z2, bump_sum ns _ (by omega), bump_wsum ns _ 0 (by omega), bro_len, List.map_cons, List.sum_cons, List.length_cons]
    constructor <;> omega
theorem wsum_rep : ∀ (n k : Nat), wsum k (List.replicate n 0) = 0
  | 0, _ => rfl
  | n + 1, k => by
    show (k : Int) * 0 + wsum (k + 1) (List.replicate n 0) = 0
    rw [wsum_rep n (k + 1)]
    omega
theorem sum_rep : ∀ n : Nat, (List.replicate n (0 : Int)).sum = 0
  | 0 => rfl
  | n + 1 => by
    show (0 : Int) + (List.replicate n 0).sum = 0
    rw [sum_rep n]
    rfl
theorem cnt_sum (wds : List WD) (fss : List (List Int)) : (cntL wds fss).sum = (fss.length : Nat) := by
  have z := (cnt_sums wds fss (cnt0 wds) (by simp [cnt0])).1
  unfold cntL
  rw [z, cnt0, sum_rep]
  omega
theorem cnt_wsum (wds : List WD) (fss : List (List Int)) : wsum 0 (cntL wds fss) = ((fss.map fun f => wds.countP (brk f)).sum : Nat) := by
  have z := (cnt_sums wds fss (cnt0 wds) (by simp [cnt0])).2
  unfold cntL
  rw [z, cnt0, wsum_rep]
  omega
theorem swap_cnt {α β : Type} (p : α → β → Bool) (m : List β) : ∀ l : List α, (l.map fun a => m.countP (p a)).sum = (m.map fun b => l.countP fun a => p a b).sum
  | [] => by
    induction m with
    | nil => rfl
    | cons b r ih => simpa using ih
  | a :: l => by
    rw [List.map_cons, List.sum_cons, swap_cnt p m l]
    clear swap_cnt
    induction m with
    | nil => rfl
    | cons b r ih =>
      rw [List.map_cons, List.map_cons, List.sum_cons, List.sum_cons, List.countP_cons, List.countP_cons, ← ih]
      omega
/-- the wishes of the fillings counted by fillings, and by wishes -/
theorem cnt_due {many hues : Int} {wds : List WD} (m0 : 0 ≤ many) (hw : ∀ wd ∈ wds, wd.1.Nodup ∧ wd.2.Nodup ∧ (∀ p ∈ wd.1, 0 ≤ p ∧ p < many) ∧ ∀ r ∈ wd.2, r.length = wd.1.length ∧ ∀ z ∈ r, 0 ≤ z ∧ z < hues) (h0 : 0 ≤ hues) :
    wsum 0 (cntL wds (fillL hues.toNat many.toNat)) = ((wds.map fun wd => wd.2.length * hues.toNat ^ (many.toNat - wd.1.length)).sum : Nat) := by
  rw [cnt_wsum, swap_cnt]
  congr 2
  refine List.map_congr_left fun wd hd => ?_
  obtain ⟨n1, n2, n3, n4⟩ := hw wd hd
  exact cnt_brk hues.toNat n1 (fun p hp => by have := n3 p hp; omega) wd.2 n2 fun r hr => ⟨(n4 r hr).1, fun z hz => by have := (n4 r hr).2 z hz; omega⟩
/-! ### counts, place by place -/
theorem bump_get (ns : List Int) (i k : Nat) (hk : k < ns.length) : (bump ns i).getD k 0 = ns.getD k 0 + (if i = k then 1 else 0) := by
  unfold Dt.bump
  by_cases e : i = k
  · subst e
    rw [if_pos rfl, List.getD_eq_getElem?_getD, List.getElem?_set_self hk]
    rfl
  · rw [if_neg e, List.getD_eq_getElem?_getD, List.getElem?_set_ne e, ← List.getD_eq_getElem?_getD]
    omega
theorem cnt_gets (wds : List WD) {k : Nat} (hk : k < wds.length + 1) : ∀ (fss : List (List Int)) (ns : List Int), ns.length = wds.length + 1 → (fss.foldl (fun ns f => bump ns (broL f wds wds.length).length) ns).getD k 0 = ns.getD k 0 + ((fss.countP fun f => decide (wds.countP (brk f) = k) : Nat) : Int)
  | [], ns, _ => by simp
  | f :: r, ns, hl => by
    rw [List.foldl_cons, cnt_gets wds hk r (bump ns (broL f wds wds.length).length) (by rw [bump_len]; exact hl), bump_get ns _ k (by omega), bro_len, List.countP_cons]
    by_cases e : wds.countP (brk f) = k
    · rw [if_pos e, if_pos (decide_eq_true e)]
      omega
    · rw [if_neg e, decide_eq_false e, if_neg (by decide)]
      omega
def cntF (wds : List WD) (fss : List (List Int)) (k : Nat) : Int := ((fss.countP fun f => decide (wds.countP (brk f) = k) : Nat) : Int)
theorem cnt_form (wds : List WD) (fss : List (List Int)) : cntL wds fss = (List.range (wds.length + 1)).map (cntF wds fss) := by
  refine List.ext_getElem (by rw [cnt_len, List.length_map, List.length_range]) fun k h1 h2 => ?_
  have hk : k < wds.length + 1 := by rw [cnt_len] at h1; exact h1
  have z := cnt_gets wds hk fss (cnt0 wds) (by simp [cnt0])
  have z0 : (cnt0 wds).getD k 0 = 0 := by
    rw [cnt0, List.getD_eq_getElem?_getD, List.getElem?_replicate_of_lt hk]
    rfl
  rw [z0, Int.zero_add] at z
  rw [List.getElem_map, List.getElem_range]
  have e : (cntL wds fss).getD k 0 = (cntL wds fss)[k] := by
    rw [List.getD_eq_getElem?_getD, List.getElem?_eq_getElem h1]
    rfl
  rw [← e]
  exact z
theorem cntF_twice (wds : List WD) (fss : List (List Int)) (k : Nat) : cntF (wds ++ wds) fss (2 * k) = cntF wds fss k ∧ cntF (wds ++ wds) fss (2 * k + 1) = 0 := by
  unfold cntF
  have e1 : (fun f : List Int => decide ((wds ++ wds).countP (brk f) = 2 * k)) = fun f => decide (wds.countP (brk f) = k) := by
    funext f
    rw [List.countP_append, Bool.eq_iff_iff, decide_eq_true_eq, decide_eq_true_eq]
    omega
  have e2 : (fun f : List Int => decide ((wds ++ wds).countP (brk f) = 2 * k + 1)) = fun _ => false := by
    funext f
    rw [List.countP_append]
    exact decide_eq_false (by omega)
  rw [e1, e2]
  exact ⟨rfl, by simp⟩
/-- a wish more, which each of the fillings breaks -/
theorem cnt_every {wds : List WD} {fss : List (List Int)} {wd : WD} (h : ∀ f ∈ fss, brk f wd = true) : cntL (wds ++ [wd]) fss = 0 :: cntL wds fss := by
  have e : ∀ f ∈ fss, (wds ++ [wd]).countP (brk f) = wds.countP (brk f) + 1 := fun f hf => by
    rw [List.countP_append, List.countP_singleton, h f hf]
    rfl
  have e0 : cntF (wds ++ [wd]) fss 0 = 0 := by
    unfold cntF
    have z : (fss.countP fun f => decide ((wds ++ [wd]).countP (brk f) = 0)) = 0 := List.countP_eq_zero.mpr fun f hf => by
      rw [e f hf]
      simp
    rw [z]
    rfl
  have e1 : ∀ k, cntF (wds ++ [wd]) fss (k + 1) = cntF wds fss k := fun k => by
    unfold cntF
    congr 1
    refine List.countP_congr fun f hf => ?_
    rw [e f hf, decide_eq_true_eq, decide_eq_true_eq]
    omega
  rw [cnt_form, cnt_form, List.length_append, List.range_succ_eq_map, List.map_cons, List.map_map, e0]
  congr 1
  exact List.map_congr_left fun k _ => e1 k
/-- what lists of lengths count -/
theorem cnt_lengths (wds : List WD) (fss : List (List Int)) : ((List.range (wds.length + 1)).map fun k => (((fss.map fun f => (broL f wds wds.length).length).countP fun n => decide (n = k) : Nat) : Int)) = cntL wds fss := by
  rw [cnt_form]
  refine List.map_congr_left fun k _ => ?_
  unfold cntF
  rw [List.countP_map]
  congr 2
  funext f
  show decide ((broL f wds wds.length).length = k) = _
  rw [bro_len]
/-! ### a wish fewer -/
def shf (a k : Nat) : Nat := if k < a then k else k + 1
theorem range_but (a : Nat) : ∀ n : Nat, a < n → (List.range n).filter (fun k => decide (k ≠ a)) = (List.range (n - 1)).map (shf a)
  | 0, h => absurd h (Nat.not_lt_zero _)
  | n + 1, h => by
    rw [List.range_succ, List.filter_append, Nat.add_sub_cancel]
    by_cases e : a = n
    · subst e
      have e1 : (List.range a).filter (fun k => decide (k ≠ a)) = List.range a := List.filter_eq_self.mpr fun k hk => decide_eq_true (by have := List.mem_range.mp hk; omega)
      have e2 : (List.range a).map (shf a) = List.range a := by
        conv => rhs; rw [← List.map_id (List.range a)]
        exact List.map_congr_left fun k hk => by unfold shf; rw [if_pos (List.mem_range.mp hk)]; rfl
      have e3 : ([a] : List Nat).filter (fun k => decide (k ≠ a)) = [] := by simp
      rw [e1, e2, e3, List.append_nil]
    · have han : a < n := by omega
      have e3 : ([n] : List Nat).filter (fun k => decide (k ≠ a)) = [n] := by
        rw [List.filter_cons, decide_eq_true (by omega : n ≠ a)]
        rfl
      rw [range_but a n han, e3]
      obtain ⟨m, rfl⟩ : ∃ m, n = m + 1 := ⟨n - 1, by omega⟩
      rw [Nat.add_sub_cancel, List.range_succ, List.map_append]
      congr 1
      show [m + 1] = [shf a m]
      unfold shf
      rw [if_neg (by omega)]
theorem brk_less (f : List Int) (wds : List WD) (a k : Nat) (h : a < wds.length) : brkAt f (wds.take a ++ wds.drop (a + 1)) k = brkAt f wds (shf a k) := by
  have e : (wds.take a ++ wds.drop (a + 1))[k]? = wds[shf a k]? := by
    have tl : (wds.take a).length = a := by rw [List.length_take]; omega
    unfold shf
    by_cases c : k < a
    · rw [if_pos c, List.getElem?_append_left (by omega), List.getElem?_take_of_lt c]
    · rw [if_neg c, List.getElem?_append_right (by omega), tl, List.getElem?_drop]
      congr 1
      omega
  unfold brkAt
  rw [e]
theorem bro_less (f : List Int) (wds : List WD) (a : Nat) (h : a < wds.length ∨ wds = []) :
    (broL f (wds.take a ++ wds.drop (a + 1)) (wds.take a ++ wds.drop (a + 1)).length).map (fun k => k + (if decide ((a : Int) ≤ k) = true then 1 else 0)) = (broL f wds wds.length).filter (fun k => decide (k ≠ (a : Int))) := by
  rcases h with h | h
  · have el : (wds.take a ++ wds.drop (a + 1)).length = wds.length - 1 := by
      rw [List.length_append, List.length_take, List.length_drop]
      omega
    unfold broL
    rw [el, List.filter_map, List.map_map]
    have e1 : (List.filter (brkAt f wds) (List.range wds.length)).filter ((fun k : Int => decide (k ≠ (a : Int))) ∘ fun k : Nat => (k : Int)) = ((List.range (wds.length - 1)).filter (brkAt f (wds.take a ++ wds.drop (a + 1)))).map (shf a) := by
      have e2 : ((fun k : Int => decide (k ≠ (a : Int))) ∘ fun k : Nat => (k : Int)) = fun k : Nat => decide (k ≠ a) := by
        funext k
        show decide (((k : Nat) : Int) ≠ (a : Int)) = decide (k ≠ a)
        rw [Bool.eq_iff_iff, decide_eq_true_eq, decide_eq_true_eq]
        omega
      rw [e2, List.filter_filter]
      have e3 : (fun k => (decide (k ≠ a) && brkAt f wds k)) = fun k => (brkAt f wds k && decide (k ≠ a)) := by
        funext k
        exact Bool.and_comm _ _
      rw [e3, ← List.filter_filter, range_but a _ h, List.filter_map]
      congr 1
      refine List.filter_congr fun k _ => ?_
      exact (brk_less f wds a k h).symm
    rw [e1, List.map_map]
    refine List.map_congr_left fun k _ => ?_
    show ((k : Nat) : Int) + (if decide ((a : Int) ≤ (k : Int)) = true then 1 else 0) = ((shf a k : Nat) : Int)
    unfold shf
    by_cases c : k < a
    · rw [if_pos c, decide_eq_false (by omega : ¬ (a : Int) ≤ (k : Int)), if_neg (by decide)]
      omega
    · rw [if_neg c, decide_eq_true (by omega : (a : Int) ≤ (k : Int)), if_pos rfl]
      omega
  · subst h
    simp [broL]
end Rd

set_option Elab.async false
set_option linter.all false
set_option maxRecDepth 100000
set_option maxHeartbeats 4000000
/-! riddles turned: places and hues called otherwise -/
namespace Rd
open PySem PySem.Spec PyProof.Rows L2 Dt
theorem nodup_perm {α : Type} [DecidableEq α] : ∀ {l m : List α}, l.Nodup → (∀ x ∈ l, x ∈ m) → m.length ≤ l.length → l.Perm m
  | [], m, _, _, h => by
    have : m = [] := List.length_eq_zero_iff.mp (Nat.le_zero.mp h)
    rw [this]
  | x :: r, m, nd, h, hl => by
    obtain ⟨n1, n2⟩ := List.nodup_cons.mp nd
    have hx := h x List.mem_cons_self
    have hp := List.length_pos_of_mem hx
    have e := List.perm_cons_erase hx
    rw [List.length_cons] at hl
    have ih := nodup_perm (m := m.erase x) n2 (fun y hy => (List.mem_erase_of_ne fun z => n1 (by rw [← z]; exact hy)).mpr (h y (List.mem_cons_of_mem _ hy))) (by rw [List.length_erase_of_mem hx]; omega)
    exact (ih.cons x).trans e.symm
theorem sorted_one : ∀ {l m : List Int}, l.Perm m → l.Pairwise (· ≤ ·) → m.Pairwise (· ≤ ·) → l = m
  | [], m, p, _, _ => p.nil_eq
  | a :: r, [], p, _, _ => absurd p.length_eq (by simp)
  | a :: r, b :: q, p, s1, s2 => by
    obtain ⟨a1, a2⟩ := List.pairwise_cons.mp s1
    obtain ⟨b1, b2⟩ := List.pairwise_cons.mp s2
    have h1 : a ≤ b := by
      rcases List.mem_cons.mp (p.mem_iff.mpr (List.mem_cons_self (a := b) (l := q))) with z | z
      · omega
      · exact a1 b z
    have h2 : b ≤ a := by
      rcases List.mem_cons.mp (p.mem_iff.mp (List.mem_cons_self (a := a) (l := r))) with z | z
      · omega
      · exact b1 a z
    have e : a = b := by omega
    subst e
    rw [sorted_one p.cons_inv a2 b2]
theorem map_range_getD {α β : Type} (g : α → β) (d : α) (l : List α) : ((List.range l.length).map fun k => g (l.getD k d)) = l.map g := by
  refine List.ext_getElem (by simp) fun k h1 h2 => ?_
  rw [List.getElem_map, List.getElem_map, List.getElem_range]
  rw [List.length_map] at h2
  rw [List.getD_eq_getElem?_getD, List.getElem?_eq_getElem h2]
  rfl
theorem atF_nat (l : List Int) {k : Nat} (h : k < l.length) : atF l (k : Int) = l[k] := by
  unfold atF
  rw [Int.toNat_natCast, List.getD_eq_getElem?_getD, List.getElem?_eq_getElem h]
  rfl
theorem atF_some {l : List Int} {k : Nat} {x : Int} (h : l[k]? = some x) : atF l (k : Int) = x := by
  unfold atF
  rw [Int.toNat_natCast, List.getD_eq_getElem?_getD, h]
  rfl
theorem map_atF (l : List Int) : ((List.range l.length).map fun k : Nat => atF l (k : Int)) = l := by
  have e := map_range_getD (fun x : Int => x) 0 l
  rw [List.map_id'] at e
  exact e
section
variable {m : Int} {ord : List Int}
theorem perm_len (h : ord.Perm (rngI m)) : ord.length = m.toNat := by rw [h.length_eq, rngI_len]
theorem perm_at (h : ord.Perm (rngI m)) {p : Int} (p0 : 0 ≤ p) (p1 : p < m) : 0 ≤ atF ord p ∧ atF ord p < m := by
  have hl := perm_len h
  obtain ⟨k, rfl⟩ : ∃ k : Nat, p = k := ⟨p.toNat, by omega⟩
  have hk : k < ord.length := by omega
  rw [atF_nat ord hk]
  exact rngI_mem (h.mem_iff.mp (List.getElem_mem hk))
theorem perm_inj (h : ord.Perm (rngI m)) {p q : Int} (p0 : 0 ≤ p) (p1 : p < m) (q0 : 0 ≤ q) (q1 : q < m) (e : atF ord p = atF ord q) : p = q := by
  have hl := perm_len h
  obtain ⟨k, rfl⟩ : ∃ k : Nat, p = k := ⟨p.toNat, by omega⟩
  obtain ⟨j, rfl⟩ : ∃ j : Nat, q = j := ⟨q.toNat, by omega⟩
  have hk : k < ord.length := by omega
  have hj : j < ord.length := by omega
  rw [atF_nat ord hk, atF_nat ord hj] at e
  have nd : ord.Nodup := h.nodup_iff.mpr (rngI_nodup m)
  have := (List.getElem_inj nd).mp e
  omega
theorem perm_all (h : ord.Perm (rngI m)) {q : Int} (q0 : 0 ≤ q) (q1 : q < m) : ∃ p : Int, 0 ≤ p ∧ p < m ∧ atF ord p = q := by
  obtain ⟨j, rfl⟩ : ∃ j : Nat, q = j := ⟨q.toNat, by omega⟩
  have hm := h.mem_iff.mpr (rngI_all q1)
  obtain ⟨k, hk, e⟩ := List.getElem_of_mem hm
  have hl := perm_len h
  exact ⟨(k : Int), by omega, by omega, by rw [atF_nat ord hk]; exact e⟩
end
structure TurnOk (many hues : Int) (ord : List Int) (hos : List (List Int)) : Prop where
  po : ord.Perm (rngI many)
  hl : (hos.length : Int) = many
  ph : ∀ o ∈ hos, o.Perm (rngI hues)
def tuH (hos : List (List Int)) (p h : Int) : Int := atF (hos.getD p.toNat []) h
section
variable {many hues : Int} {ord : List Int} {hos : List (List Int)}
theorem TurnOk.one (ok : TurnOk many hues ord hos) {p : Int} (p0 : 0 ≤ p) (p1 : p < many) : (hos.getD p.toNat []).Perm (rngI hues) := by
  have := ok.hl
  have hk : p.toNat < hos.length := by omega
  rw [List.getD_eq_getElem?_getD, List.getElem?_eq_getElem hk]
  exact ok.ph _ (List.getElem_mem hk)
theorem TurnOk.rng (ok : TurnOk many hues ord hos) {p h : Int} (p0 : 0 ≤ p) (p1 : p < many) (h0 : 0 ≤ h) (h1 : h < hues) : 0 ≤ tuH hos p h ∧ tuH hos p h < hues := perm_at (ok.one p0 p1) h0 h1
theorem TurnOk.inj (ok : TurnOk many hues ord hos) {p h g : Int} (p0 : 0 ≤ p) (p1 : p < many) (h0 : 0 ≤ h) (h1 : h < hues) (g0 : 0 ≤ g) (g1 : g < hues) (e : tuH hos p h = tuH hos p g) : h = g := perm_inj (ok.one p0 p1) h0 h1 g0 g1 e
/-- a filling turned -/
def IsTu (ord : List Int) (hos : List (List Int)) (f g : List Int) : Prop := g.length = f.length ∧ ∀ p : Int, 0 ≤ p → p < (f.length : Int) → atF g (atF ord p) = tuH hos p (atF f p)
theorem atF_good {f : List Int} (gf : GoodF many hues f) {p : Int} (p0 : 0 ≤ p) (p1 : p < many) : 0 ≤ atF f p ∧ atF f p < hues := by
  have := gf.len
  obtain ⟨k, rfl⟩ : ∃ k : Nat, p = k := ⟨p.toNat, by omega⟩
  have hk : k < f.length := by omega
  rw [atF_nat f hk]
  exact gf.hue _ (List.getElem_mem hk)
theorem IsTu.back (ok : TurnOk many hues ord hos) {f f' g : List Int} (gf : GoodF many hues f) (gf' : GoodF many hues f') (a : IsTu ord hos f g) (b : IsTu ord hos f' g) : f = f' := by
  have l1 := gf.len
  have l2 := gf'.len
  refine List.ext_getElem (by omega) fun k h1 h2 => ?_
  have e1 := a.2 (k : Int) (by omega) (by omega)
  have e2 := b.2 (k : Int) (by omega) (by omega)
  have r1 := atF_good gf (p := (k : Int)) (by omega) (by omega)
  have r2 := atF_good gf' (p := (k : Int)) (by omega) (by omega)
  have e := ok.inj (p := (k : Int)) (by omega) (by omega) r1.1 r1.2 r2.1 r2.2 (e1.symm.trans e2)
  rw [atF_nat f h1, atF_nat f' h2] at e
  exact e
theorem IsTu.good (ok : TurnOk many hues ord hos) {f g : List Int} (gf : GoodF many hues f) (a : IsTu ord hos f g) : GoodF many hues g := by
  have l1 := gf.len
  have l2 := a.1
  refine ⟨by omega, fun h hh => ?_⟩
  obtain ⟨k, hk, e⟩ := List.getElem_of_mem hh
  obtain ⟨p, p0, p1, ep⟩ := perm_all ok.po (q := (k : Int)) (by omega) (by omega)
  have z := a.2 p p0 (by omega)
  rw [ep, atF_nat g hk, e] at z
  have r := atF_good gf p0 p1
  rw [z]
  exact ok.rng p0 p1 r.1 r.2
def turnF (many : Int) (ord : List Int) (hos : List (List Int)) (f : List Int) : List Int := (List.range many.toNat).map fun q : Nat => tuH hos ((ord.idxOf (q : Int) : Nat) : Int) (atF f ((ord.idxOf (q : Int) : Nat) : Int))
theorem turnF_is (ok : TurnOk many hues ord hos) {f : List Int} (gf : GoodF many hues f) : IsTu ord hos f (turnF many ord hos f) := by
  have l1 := gf.len
  have nd : ord.Nodup := ok.po.nodup_iff.mpr (rngI_nodup many)
  have ol := perm_len ok.po
  refine ⟨by unfold turnF; rw [List.length_map, List.length_range]; omega, fun p p0 p1 => ?_⟩
  obtain ⟨k, rfl⟩ : ∃ k : Nat, p = k := ⟨p.toNat, by omega⟩
  have hk : k < ord.length := by omega
  obtain ⟨r0, r1⟩ := perm_at ok.po (p := (k : Int)) (by omega) (by omega)
  obtain ⟨q, eq⟩ : ∃ q : Nat, atF ord (k : Int) = q := ⟨(atF ord (k : Int)).toNat, by omega⟩
  rw [eq]
  have ei : ord.idxOf (q : Int) = k := by
    rw [← eq, atF_nat ord hk]
    exact nd.idxOf_getElem k hk
  refine atF_some ?_
  unfold turnF
  rw [List.getElem?_map, List.getElem?_range (by omega)]
  show some (tuH hos ((ord.idxOf (q : Int) : Nat) : Int) (atF f ((ord.idxOf (q : Int) : Nat) : Int))) = _
  rw [ei]
/-! ### a wish turned -/
def pairsU (ord ps : List Int) : List (Int × Int) := (List.range ps.length).map fun k => (atF ord (ps.getD k 0), (k : Int))
def newRow (hos : List (List Int)) (ps : List Int) (zs : List (Int × Int)) (row : List Int) : List Int := zs.map fun z => tuH hos (atF ps z.2) (atF row z.2)
structure TuW (many hues : Int) (ord : List Int) (hos : List (List Int)) (wd wd' : WD) : Prop where
  good : Good many hues wd'
  pl : wd'.1.Perm (wd.1.map (atF ord))
  br : ∀ f g, GoodF many hues f → IsTu ord hos f g → brk g wd' = brk f wd
theorem tuW_of (ok : TurnOk many hues ord hos) {wd : WD} (gw : Good many hues wd) (nw : Neat wd) {zs : List (Int × Int)} (pz : zs.Perm (pairsU ord wd.1)) {rows : List (List Int)} (pr : rows.Perm (wd.2.map (newRow hos wd.1 zs))) :
    TuW many hues ord hos wd (zs.map (·.1), rows) ∧ (zs.map (·.1)).Nodup ∧ rows.Nodup := by
  have zl : zs.length = wd.1.length := by rw [pz.length_eq, pairsU, List.length_map, List.length_range]
  have mz : ∀ z ∈ zs, ∃ k : Nat, k < wd.1.length ∧ z = (atF ord (atF wd.1 (k : Int)), (k : Int)) := fun z hz => by
    obtain ⟨k, hk, e⟩ := List.mem_map.mp (pz.mem_iff.mp hz)
    exact ⟨k, List.mem_range.mp hk, e.symm⟩
  have zm : ∀ k : Nat, k < wd.1.length → (atF ord (atF wd.1 (k : Int)), (k : Int)) ∈ zs := fun k hk => pz.mem_iff.mpr (List.mem_map.mpr ⟨k, List.mem_range.mpr hk, rfl⟩)
  have inP : ∀ k : Nat, k < wd.1.length → 0 ≤ atF wd.1 (k : Int) ∧ atF wd.1 (k : Int) < many := fun k hk => by
    rw [atF_nat _ hk]
    exact gw.pl _ (List.getElem_mem hk)
  have pf : (zs.map (·.1)).Perm (wd.1.map (atF ord)) := by
    have z := pz.map (·.1)
    rw [pairsU, List.map_map] at z
    rw [← map_range_getD (atF ord) 0 wd.1]
    exact z
  have inR : ∀ {r : List Int}, r.length = wd.1.length → (∀ h ∈ r, 0 ≤ h ∧ h < hues) → ∀ k : Nat, k < wd.1.length → 0 ≤ atF r (k : Int) ∧ atF r (k : Int) < hues := fun {r} hl hr k hk => by
    rw [atF_nat r (by omega)]
    exact hr _ (List.getElem_mem _)
  have inj : ∀ r r' : List Int, r.length = wd.1.length → (∀ h ∈ r, 0 ≤ h ∧ h < hues) → r'.length = wd.1.length → (∀ h ∈ r', 0 ≤ h ∧ h < hues) → newRow hos wd.1 zs r = newRow hos wd.1 zs r' → r = r' := fun r r' l1 h1 l2 h2 e => by
    refine List.ext_getElem (by omega) fun k k1 k2 => ?_
    have hk : k < wd.1.length := by omega
    have z := List.map_inj_left.mp e _ (zm k hk)
    have p := inP k hk
    have a := inR l1 h1 k hk
    have b := inR l2 h2 k hk
    have y := ok.inj p.1 p.2 a.1 a.2 b.1 b.2 z
    rw [atF_nat r k1, atF_nat r' k2] at y
    exact y
  have ndz : (zs.map (·.1)).Nodup := by
    refine pf.nodup_iff.mpr ?_
    refine List.pairwise_map.mpr (List.Pairwise.imp_of_mem (fun {a b} ha hb hab e => ?_) nw.nd)
    have pa := gw.pl a ha
    have pb := gw.pl b hb
    exact hab (perm_inj ok.po pa.1 pa.2 pb.1 pb.2 e)
  have ndr : rows.Nodup := by
    refine pr.nodup_iff.mpr ?_
    refine List.pairwise_map.mpr (List.Pairwise.imp_of_mem (fun {a b} ha hb hab e => ?_) nw.rows)
    have ra := gw.row a ha
    have rb := gw.row b hb
    exact hab (inj a b ra.1 ra.2 rb.1 rb.2 e)
  refine ⟨⟨⟨?_, ?_, ?_, ?_, ?_, ?_⟩, pf, ?_⟩, ndz, ndr⟩
  · show 1 ≤ (zs.map (·.1)).length
    rw [List.length_map, zl]
    exact gw.one
  · show (zs.map (·.1)).length ≤ 3
    rw [List.length_map, zl]
    exact gw.three
  · intro p hp
    obtain ⟨q, hq, rfl⟩ := List.mem_map.mp (pf.mem_iff.mp hp)
    have := gw.pl q hq
    exact perm_at ok.po this.1 this.2
  · show 1 ≤ rows.length
    rw [pr.length_eq, List.length_map]
    exact gw.some_
  · show rows.length ≤ 64
    rw [pr.length_eq, List.length_map]
    exact gw.few
  · intro r hr
    obtain ⟨q, hq, rfl⟩ := List.mem_map.mp (pr.mem_iff.mp hr)
    have rq := gw.row q hq
    refine ⟨?_, fun h hh => ?_⟩
    · show (zs.map _).length = (zs.map (·.1)).length
      rw [List.length_map, List.length_map]
    · obtain ⟨z, hz, rfl⟩ := List.mem_map.mp hh
      obtain ⟨k, hk, rfl⟩ := mz z hz
      have p := inP k hk
      have a := inR rq.1 rq.2 k hk
      exact ok.rng p.1 p.2 a.1 a.2
  · intro f g gf tu
    have lf := gf.len
    have hu : huesA g (zs.map (·.1)) = newRow hos wd.1 zs (huesA f wd.1) := by
      unfold huesA newRow
      rw [List.map_map]
      refine List.map_congr_left fun z hz => ?_
      obtain ⟨k, hk, rfl⟩ := mz z hz
      have p := inP k hk
      show atF g (atF ord (atF wd.1 (k : Int))) = tuH hos (atF wd.1 (k : Int)) (atF (wd.1.map (atF f)) (k : Int))
      rw [tu.2 _ p.1 (by omega), atF_nat (wd.1.map (atF f)) (by rw [List.length_map]; exact hk), List.getElem_map, atF_nat wd.1 hk]
    have lh : (huesA f wd.1).length = wd.1.length := by unfold huesA; rw [List.length_map]
    have rh : ∀ h ∈ huesA f wd.1, 0 ≤ h ∧ h < hues := fun h hh => by
      obtain ⟨p, hp, rfl⟩ := List.mem_map.mp hh
      have := gw.pl p hp
      exact atF_good gf this.1 this.2
    unfold brk
    rw [Bool.eq_iff_iff, decide_eq_true_eq, decide_eq_true_eq]
    show huesA g (zs.map (·.1)) ∈ rows ↔ huesA f wd.1 ∈ wd.2
    rw [hu]
    constructor
    · intro h
      obtain ⟨r, hr, e⟩ := List.mem_map.mp (pr.mem_iff.mp h)
      have rr := gw.row r hr
      rw [← inj r _ rr.1 rr.2 lh rh e]
      exact hr
    · intro h
      exact pr.mem_iff.mpr (List.mem_map.mpr ⟨_, h, rfl⟩)
/-! ### riddles turned -/
def wAt (wds : List WD) (k : Int) : WD := wds.getD k.toNat ([], [])
theorem wAt_perm {wds : List WD} {pl : List Int} (pp : pl.Perm (rngI (wds.length : Int))) : (pl.map (wAt wds)).Perm wds := by
  have z := pp.map (wAt wds)
  have e : (rngI (wds.length : Int)).map (wAt wds) = wds := by
    unfold rngI
    rw [Int.toNat_natCast, List.map_map]
    have y := map_range_getD (fun x : WD => x) ([], []) wds
    rw [List.map_id'] at y
    conv => rhs; rw [← y]
    rfl
  rw [e] at z
  exact z
theorem cntW_turn {f g : List Int} (gf : GoodF many hues f) (tu : IsTu ord hos f g) : ∀ {as bs : List WD}, Paired (TuW many hues ord hos) as bs → bs.countP (brk g) = as.countP (brk f)
  | _, _, .nil => rfl
  | _, _, .cons h t => by
    rw [List.countP_cons, List.countP_cons, cntW_turn gf tu t, h.br f g gf tu]
theorem fill_allT {hues : Nat} : ∀ (n : Nat) (f : List Int), f.length = n → (∀ h ∈ f, 0 ≤ h ∧ h < (hues : Int)) → f ∈ fillL hues n
  | 0, f, hl, _ => by
    rw [List.length_eq_zero_iff.mp hl]
    exact List.mem_singleton.mpr rfl
  | n + 1, f, hl, h => by
    have ne : f ≠ [] := fun z => by rw [z] at hl; cases hl
    have e := List.dropLast_concat_getLast ne
    refine List.mem_flatMap.mpr ⟨f.dropLast, fill_allT n _ (by rw [List.length_dropLast]; omega) fun z hz => h z (by have y : z ∈ f.dropLast ++ [f.getLast ne] := List.mem_append_left _ hz; rw [e] at y; exact y), ?_⟩
    have hb := h _ (List.getLast_mem ne)
    refine List.mem_map.mpr ⟨(f.getLast ne).toNat, List.mem_range.mpr (by omega), ?_⟩
    have e2 : (((f.getLast ne).toNat : Nat) : Int) = f.getLast ne := by omega
    rw [e2]
    exact e
theorem fills_turn (ok : TurnOk many hues ord hos) (m0 : 0 ≤ many) (h0 : 0 ≤ hues) : ((fillL hues.toNat many.toNat).map (turnF many ord hos)).Perm (fillL hues.toNat many.toNat) := by
  have gd : ∀ f ∈ fillL hues.toNat many.toNat, GoodF many hues f := fun f hf => by
    obtain ⟨z1, z2⟩ := fill_good hf
    exact ⟨by omega, fun h hh => by have := z2 h hh; omega⟩
  refine nodup_perm ?_ (fun g hg => ?_) (by rw [List.length_map]; exact Nat.le_refl _)
  · refine List.pairwise_map.mpr (List.Pairwise.imp_of_mem (fun {a b} ha hb hab e => ?_) (fill_nodup _ _))
    have ta := turnF_is ok (gd a ha)
    have tb := turnF_is ok (gd b hb)
    rw [← e] at tb
    exact hab (IsTu.back ok (gd a ha) (gd b hb) ta tb)
  · obtain ⟨f, hf, rfl⟩ := List.mem_map.mp hg
    have gg := IsTu.good ok (gd f hf) (turnF_is ok (gd f hf))
    have gl := gg.len
    exact fill_allT _ _ (by omega) fun h hh => by have := gg.hue h hh; omega
theorem cnt_turn (ok : TurnOk many hues ord hos) (m0 : 0 ≤ many) (h0 : 0 ≤ hues) {wds wds' : List WD} {pl : List Int} (pp : pl.Perm (rngI (wds.length : Int))) (pw : Paired (TuW many hues ord hos) (pl.map (wAt wds)) wds') :
    cntL wds' (fillL hues.toNat many.toNat) = cntL wds (fillL hues.toNat many.toNat) := by
  have gd : ∀ f ∈ fillL hues.toNat many.toNat, GoodF many hues f := fun f hf => by
    obtain ⟨z1, z2⟩ := fill_good hf
    exact ⟨by omega, fun h hh => by have := z2 h hh; omega⟩
  have wl : wds'.length = wds.length := by
    rw [← pairedLen pw, List.length_map, perm_len pp, Int.toNat_natCast]
  rw [cnt_form, cnt_form, wl]
  refine List.map_congr_left fun k _ => ?_
  unfold cntF
  congr 1
  rw [← (fills_turn ok m0 h0).countP_eq, List.countP_map]
  refine List.countP_congr fun f hf => ?_
  show decide (wds'.countP (brk (turnF many ord hos f)) = k) = true ↔ _
  rw [cntW_turn (gd f hf) (turnF_is ok (gd f hf)) pw, (wAt_perm pp).countP_eq]
/-- the numbers of some, by the other order, are those by the first -/
theorem pick_perm {n : Nat} {pl : List Int} (pp : pl.Perm (rngI (n : Int))) {q' q : Nat → Bool} (h : ∀ k : Nat, k < n → q' k = q (atF pl (k : Int)).toNat) :
    ((((List.range n).filter q').map fun (k : Nat) => (k : Int)).map (atF pl)).Perm (((List.range n).filter q).map fun (k : Nat) => (k : Int)) := by
  have ln : pl.length = n := by rw [perm_len pp, Int.toNat_natCast]
  have e1 : (((List.range n).filter q').map fun (k : Nat) => (k : Int)).map (atF pl) = pl.filter fun i => q i.toNat := by
    have e := map_atF pl
    rw [ln] at e
    conv => rhs; rw [← e]
    rw [List.filter_map, List.map_map]
    congr 1
    exact List.filter_congr fun k hk => h k (List.mem_range.mp hk)
  have e2 : ((List.range n).filter q).map (fun (k : Nat) => (k : Int)) = (rngI (n : Int)).filter fun i => q i.toNat := by
    unfold rngI
    rw [Int.toNat_natCast, List.filter_map]
    congr 1
  rw [e1, e2]
  exact pp.filter _
theorem pick_sorted (n : Nat) (q : Nat → Bool) : (((List.range n).filter q).map fun (k : Nat) => (k : Int)).Pairwise (· ≤ ·) := by
  refine List.pairwise_map.mpr ?_
  have z : (List.range n).Pairwise (· < ·) := List.pairwise_lt_range
  exact (z.sublist List.filter_sublist).imp fun h => by omega
theorem clB_turn (ok : TurnOk many hues ord hos) {a b a' b' : WD} (ga : ∀ p ∈ a.1, 0 ≤ p ∧ p < many) (gb : ∀ p ∈ b.1, 0 ≤ p ∧ p < many) (ta : TuW many hues ord hos a a') (tb : TuW many hues ord hos b b') : clB a' b' = clB a b := by
  unfold clB
  rw [Bool.eq_iff_iff, List.any_eq_true, List.any_eq_true]
  constructor
  · rintro ⟨p, hp, e⟩
    have e := of_decide_eq_true e
    obtain ⟨x, hx, rfl⟩ := List.mem_map.mp (ta.pl.mem_iff.mp hp)
    obtain ⟨y, hy, exy⟩ := List.mem_map.mp (tb.pl.mem_iff.mp e)
    have px := ga x hx
    have py := gb y hy
    have := perm_inj ok.po py.1 py.2 px.1 px.2 exy
    subst this
    exact ⟨y, hx, decide_eq_true hy⟩
  · rintro ⟨p, hp, e⟩
    have e := of_decide_eq_true e
    exact ⟨_, ta.pl.mem_iff.mpr (List.mem_map.mpr ⟨p, hp, rfl⟩), decide_eq_true (tb.pl.mem_iff.mpr (List.mem_map.mpr ⟨p, e, rfl⟩))⟩
end
/-! ### sorted by codes -/
theorem code_lex {B : Int} : ∀ {a b : List Int}, a.length = b.length → TS.Bd B a → TS.Bd B b → TS.code B a ≤ TS.code B b → a ≠ b → HT.lexLt a b = true
  | [], [], _, _, _, _, h => absurd rfl h
  | [], _ :: _, h, _, _, _, _ => by cases h
  | _ :: _, [], h, _, _, _, _ => by cases h
  | x :: r, y :: q, hl, ba, bb, hc, hn => by
    have hl' : r.length = q.length := by simpa using hl
    rw [HT.lexLt_cons]
    by_cases e : x = y
    · subst e
      rw [if_pos rfl]
      refine code_lex hl' ba.tail bb.tail ?_ fun z => hn (by rw [z])
      by_cases c : TS.code B q < TS.code B r
      · have := (TS.code_same (d := x) hl'.symm).mpr c
        omega
      · omega
    · rw [if_neg e]
      refine decide_eq_true ?_
      by_cases c : x < y
      · exact c
      · have := TS.code_lt (d := y) (e := x) hl'.symm bb.tail ba.tail (by omega)
        omega
end Rd

set_option Elab.async false
set_option linter.all false
set_option maxRecDepth 100000
set_option maxHeartbeats 4000000
/-! trees of wishes, grown backwards from lists of numbers -/
namespace Rd
open PySem PySem.Spec PyProof.Rows L2 Dt
inductive WTr where
  | node (n : Int) (ts : List WTr) : WTr
def WTr.top : WTr → Int
  | .node n _ => n
mutual
def nodesD : WTr → Int → List (Int × Int)
  | .node n ts, d => (n, d) :: nodesL ts (d + 1)
def nodesL : List WTr → Int → List (Int × Int)
  | [], _ => []
  | t :: r, d => nodesD t d ++ nodesL r d
end
mutual
def okT (c : Int → Int → Bool) (m : Nat) : WTr → Prop
  | .node n ts => (0 ≤ n ∧ n < (m : Int)) ∧ okL c m n ts
def okL (c : Int → Int → Bool) (m : Nat) (n : Int) : List WTr → Prop
  | [] => True
  | t :: r => (c t.top n = true ∧ okT c m t) ∧ okL c m n r
end
theorem nodesL_flat (d : Int) : ∀ ts : List WTr, nodesL ts d = ts.flatMap fun t => nodesD t d
  | [] => by simp [nodesL]
  | t :: r => by
    rw [nodesL, nodesL_flat d r, List.flatMap_cons]
theorem okL_of {c : Int → Int → Bool} {m : Nat} {n : Int} : ∀ {ts : List WTr}, (∀ t ∈ ts, c t.top n = true ∧ okT c m t) → okL c m n ts
  | [], _ => by simp [okL]
  | t :: r, h => by
    rw [okL]
    exact ⟨h t List.mem_cons_self, okL_of fun x hx => h x (List.mem_cons_of_mem _ hx)⟩
theorem okL_mem {c : Int → Int → Bool} {m : Nat} {n : Int} : ∀ {ts : List WTr}, okL c m n ts → ∀ t ∈ ts, c t.top n = true ∧ okT c m t
  | [], _, _, h => nomatch h
  | t :: r, h, x, hx => by
    rw [okL] at h
    rcases List.mem_cons.mp hx with rfl | hx
    · exact h.1
    · exact okL_mem h.2 x hx
/-! ### grown -/
def treeF (nums : List Int) (bel : List (List Int)) : Nat → Nat → WTr
  | 0, i => .node (atF nums (i : Int)) []
  | f + 1, i => .node (atF nums (i : Int)) ((bel.getD i []).map fun j => treeF nums bel f j.toNat)
def Grows (n : Nat) (bel : List (List Int)) : Prop := bel.length = n ∧ ∀ i : Nat, i < n → ∀ j ∈ bel.getD i [], (i : Int) < j ∧ j < (n : Int)
theorem treeF_stable {nums : List Int} {bel : List (List Int)} {n : Nat} (g : Grows n bel) : ∀ (f f' i : Nat), i < n → n - i ≤ f → n - i ≤ f' → treeF nums bel f i = treeF nums bel f' i
  | 0, _, i, hi, h, _ => by omega
  | _ + 1, 0, i, hi, _, h => by omega
  | f + 1, f' + 1, i, hi, h1, h2 => by
    rw [treeF, treeF]
    congr 1
    refine List.map_congr_left fun j hj => ?_
    have := g.2 i hi j hj
    exact treeF_stable g f f' j.toNat (by omega) (by omega) (by omega)
def treeI (nums : List Int) (bel : List (List Int)) (i : Nat) : WTr := treeF nums bel (nums.length - i) i
theorem treeI_eq {nums : List Int} {bel : List (List Int)} (g : Grows nums.length bel) {i : Nat} (hi : i < nums.length) : treeI nums bel i = .node (atF nums (i : Int)) ((bel.getD i []).map fun j => treeI nums bel j.toNat) := by
  unfold treeI
  obtain ⟨f, ef⟩ : ∃ f, nums.length - i = f + 1 := ⟨nums.length - i - 1, by omega⟩
  rw [ef, treeF]
  congr 1
  refine List.map_congr_left fun j hj => ?_
  have := g.2 i hi j hj
  exact treeF_stable g _ _ _ (by omega) (by omega) (by omega)
/-- who stands right below: pr tells 1 more than the number of the one above, 0 of the top -/
def kids (prs : List Nat) (i : Nat) : List Int := ((List.range prs.length).filter fun j => decide (prs.getD j 0 = i + 1)).map fun (j : Nat) => (j : Int)
def belOf (prs : List Nat) : List (List Int) := (List.range prs.length).map (kids prs)
structure PrOk (prs : List Nat) : Prop where
  top : prs.getD 0 0 = 0
  one : 1 ≤ prs.length
  up : ∀ j : Nat, 1 ≤ j → j < prs.length → 1 ≤ prs.getD j 0 ∧ prs.getD j 0 ≤ j
theorem belOf_at {prs : List Nat} {i : Nat} (h : i < prs.length) : (belOf prs).getD i [] = kids prs i := by
  unfold belOf
  rw [List.getD_eq_getElem?_getD, List.getElem?_map, List.getElem?_range h]
  rfl
theorem PrOk.le {prs : List Nat} (ok : PrOk prs) {j : Nat} (h : j < prs.length) : prs.getD j 0 ≤ j := by
  by_cases e : j = 0
  · subst e
    rw [ok.top]
    exact Nat.le_refl _
  · exact (ok.up j (by omega) h).2
theorem PrOk.grows {prs : List Nat} (ok : PrOk prs) : Grows prs.length (belOf prs) := by
  refine ⟨by unfold belOf; rw [List.length_map, List.length_range], fun i hi j hj => ?_⟩
  rw [belOf_at hi] at hj
  obtain ⟨k, hk, rfl⟩ := List.mem_map.mp hj
  obtain ⟨h1, h2⟩ := List.mem_filter.mp hk
  have h1 := List.mem_range.mp h1
  have h2 := of_decide_eq_true h2
  have := ok.le h1
  omega
theorem filter_two {α : Type} {p q r : α → Bool} : ∀ l : List α, (∀ x ∈ l, r x = (p x || q x) ∧ (p x && q x) = false) → (l.filter r).Perm (l.filter p ++ l.filter q)
  | [], _ => by simp
  | x :: l, h => by
    have ih := filter_two l fun y hy => h y (List.mem_cons_of_mem _ hy)
    obtain ⟨e1, e2⟩ := h x List.mem_cons_self
    rw [List.filter_cons, List.filter_cons, List.filter_cons, e1]
    cases hp : p x <;> cases hq : q x
    · rw [if_neg (by simp), if_neg (by simp), if_neg (by simp)]
      exact ih
    · rw [if_pos (by simp), if_neg (by simp), if_pos rfl]
      exact (ih.cons x).trans List.perm_middle.symm
    · rw [if_pos (by simp), if_pos rfl, if_neg (by simp)]
      exact ih.cons x
    · rw [hp, hq] at e2
      cases e2
section
variable {nums deps : List Int} {prs : List Nat}
theorem forest (ok : PrOk prs) (ln : nums.length = prs.length) (hd : ∀ j : Nat, 1 ≤ j → j < prs.length → atF deps (j : Int) = atF deps ((prs.getD j 0 - 1 : Nat) : Int) + 1) : ∀ (m i : Nat), i + m = prs.length →
    (((List.range' i m).filter fun j : Nat => decide (prs.getD j 0 ≤ i)).flatMap fun j : Nat => nodesD (treeI nums (belOf prs) j) (atF deps (j : Int))).Perm ((List.range' i m).map fun j : Nat => (atF nums (j : Int), atF deps (j : Int)))
  | 0, i, _ => by simp
  | m + 1, i, h => by
    have ih := forest ok ln hd m (i + 1) (by omega)
    have hi : i < prs.length := by omega
    have g := ok.grows
    rw [← ln] at g
    rw [List.range'_succ, List.filter_cons, if_pos (decide_eq_true (ok.le hi)), List.flatMap_cons, List.map_cons]
    rw [treeI_eq g (by omega), nodesD, nodesL_flat, belOf_at hi, List.cons_append, List.flatMap_map]
    refine List.Perm.cons _ ?_
    refine List.Perm.trans ?_ ih
    -- the ones right below
    have ek : (kids prs i).flatMap (fun j => nodesD (treeI nums (belOf prs) j.toNat) (atF deps (i : Int) + 1)) = ((List.range' (i + 1) m).filter fun j : Nat => decide (prs.getD j 0 = i + 1)).flatMap fun j : Nat => nodesD (treeI nums (belOf prs) j) (atF deps (j : Int)) := by
      unfold kids
      have er : List.range prs.length = List.range' 0 (i + 1) ++ List.range' (i + 1) m := by
        rw [List.range_eq_range', ← h, show i + (m + 1) = (i + 1) + m by omega, ← List.range'_append_1, Nat.zero_add]
      have e0 : (List.range' 0 (i + 1)).filter (fun j => decide (prs.getD j 0 = i + 1)) = [] := List.filter_eq_nil_iff.mpr fun j hj => by
        have hj := (List.mem_range'_1.mp hj).2
        have := ok.le (j := j) (by omega)
        show ¬ decide (prs.getD j 0 = i + 1) = true
        rw [decide_eq_true_eq]
        omega
      rw [er, List.filter_append, e0, List.nil_append, List.flatMap_map]
      rw [List.flatMap_def, List.flatMap_def]
      congr 1
      refine List.map_congr_left fun j hj => ?_
      obtain ⟨h1, h2⟩ := List.mem_filter.mp hj
      have h1 := List.mem_range'_1.mp h1
      have h2 := of_decide_eq_true h2
      have e := hd j (by omega) (by omega)
      rw [h2, Nat.add_sub_cancel] at e
      show nodesD (treeI nums (belOf prs) ((j : Int)).toNat) (atF deps (i : Int) + 1) = _
      rw [Int.toNat_natCast, e]
    rw [ek, ← List.flatMap_append]
    refine List.Perm.flatMap_right _ ?_
    refine (filter_two _ fun j hj => ?_).symm
    constructor
    · rw [Bool.eq_iff_iff, Bool.or_eq_true, decide_eq_true_eq, decide_eq_true_eq, decide_eq_true_eq]
      omega
    · rw [Bool.and_eq_false_iff, decide_eq_false_iff_not, decide_eq_false_iff_not]
      omega
theorem tree_nodes (ok : PrOk prs) (ln : nums.length = prs.length) (hd : ∀ j : Nat, 1 ≤ j → j < prs.length → atF deps (j : Int) = atF deps ((prs.getD j 0 - 1 : Nat) : Int) + 1) :
    (nodesD (treeI nums (belOf prs) 0) (atF deps 0)).Perm ((List.range prs.length).map fun j : Nat => (atF nums (j : Int), atF deps (j : Int))) := by
  have f := forest ok ln hd prs.length 0 (Nat.zero_add _)
  obtain ⟨k, ek⟩ : ∃ k, prs.length = k + 1 := ⟨prs.length - 1, by have := ok.one; omega⟩
  have e : (List.range' 0 prs.length).filter (fun j => decide (prs.getD j 0 ≤ 0)) = [0] := by
    rw [ek, List.range'_succ, List.filter_cons, if_pos (decide_eq_true (by rw [ok.top]; exact Nat.le_refl _))]
    congr 1
    refine List.filter_eq_nil_iff.mpr fun j hj => ?_
    have h1 := List.mem_range'_1.mp hj
    have := (ok.up j (by omega) (by omega)).1
    show ¬ decide (prs.getD j 0 ≤ 0) = true
    rw [decide_eq_true_eq]
    omega
  rw [e, ← List.range_eq_range'] at f
  simpa using f
theorem tree_all {c : Int → Int → Bool} {w : Nat} (ok : PrOk prs) (ln : nums.length = prs.length) (hn : ∀ j : Nat, j < prs.length → 0 ≤ atF nums (j : Int) ∧ atF nums (j : Int) < (w : Int)) (hc : ∀ j : Nat, 1 ≤ j → j < prs.length → c (atF nums (j : Int)) (atF nums ((prs.getD j 0 - 1 : Nat) : Int)) = true) : ∀ (m i : Nat), i + m = prs.length → ∀ k, i ≤ k → k < prs.length → okT c w (treeI nums (belOf prs) k)
  | 0, i, h, k, h1, h2 => by omega
  | m + 1, i, h, k, h1, h2 => by
    by_cases e : i = k
    · subst e
      have g := ok.grows
      rw [← ln] at g
      rw [treeI_eq g (by omega), okT]
      refine ⟨hn i h2, okL_of fun t ht => ?_⟩
      obtain ⟨j, hj, rfl⟩ := List.mem_map.mp ht
      have b := g.2 i (by omega) j hj
      rw [belOf_at h2] at hj
      obtain ⟨k, hk, rfl⟩ := List.mem_map.mp hj
      obtain ⟨k1, k2⟩ := List.mem_filter.mp hk
      have k1 := List.mem_range.mp k1
      have k2 := of_decide_eq_true k2
      rw [Int.toNat_natCast]
      have e := hc k (by omega) k1
      rw [k2, Nat.add_sub_cancel] at e
      refine ⟨?_, tree_all ok ln hn hc m (i + 1) (by omega) k (by omega) k1⟩
      rw [treeI_eq g (by omega)]
      exact e
    · exact tree_all ok ln hn hc m (i + 1) (by omega) k (by omega) h2
end
end Rd

set_option Elab.async false
set_option linter.all false
set_option maxRecDepth 100000
set_option maxHeartbeats 4000000
/-! why a mending came: wishes and how deep they stand -/
namespace Rd
open PySem PySem.Spec PyProof.Rows L2 Dt
def clN (wds : List WD) (n o : Int) : Bool := clB (wAt wds n) (wAt wds o)
def mxI : List Int → Int
  | [] => -1
  | x :: r => if mxI r < x then x else mxI r
theorem mxI_le : ∀ {l : List Int} {x : Int}, x ∈ l → x ≤ mxI l
  | y :: r, x, h => by
    rw [mxI]
    rcases List.mem_cons.mp h with rfl | h
    · split <;> omega
    · have := mxI_le h
      split <;> omega
theorem mxI_up {m : Int} (m0 : -1 ≤ m) : ∀ {l : List Int}, (∀ x ∈ l, x ≤ m) → mxI l ≤ m
  | [], _ => by rw [mxI]; exact m0
  | y :: r, h => by
    have a := mxI_up m0 (l := r) fun x hx => h x (List.mem_cons_of_mem _ hx)
    have b := h y List.mem_cons_self
    rw [mxI]
    split <;> omega
theorem mxI_eq {l : List Int} {m : Int} (m0 : -1 ≤ m) (hm : m ∈ l) (h : ∀ x ∈ l, x ≤ m) : mxI l = m := by
  have a := mxI_le hm
  have b := mxI_up m0 h
  omega
theorem mxI_in : ∀ {l : List Int}, (∀ x ∈ l, 0 ≤ x) → l ≠ [] → mxI l ∈ l
  | [], _, h => absurd rfl h
  | [x], h0, _ => by
    have := h0 x List.mem_cons_self
    rw [mxI, mxI, if_pos (by omega)]
    exact List.mem_cons_self
  | x :: y :: r, h0, _ => by
    have ih := mxI_in (l := y :: r) (fun z hz => h0 z (List.mem_cons_of_mem _ hz)) (by simp)
    rw [mxI]
    split
    · exact List.mem_cons_self
    · exact List.mem_cons_of_mem _ ih
def abv (wds : List WD) (zs : List (Int × Int)) (n : Int) : List Int := (zs.filter fun z => clN wds n z.1).map (·.2)
def dstep (wds : List WD) (zs : List (Int × Int)) (n : Int) : List (Int × Int) := if 0 < 1 + mxI (abv wds zs n) then zs ++ [(n, 1 + mxI (abv wds zs n))] else zs
def depthsL (wds : List WD) (k : Int) (ks : List Int) : List (Int × Int) := ks.foldl (dstep wds) [(k, 0)]
structure WI (wds : List WD) (zs : List (Int × Int)) (prs : List Nat) : Prop where
  ok : PrOk prs
  len : zs.length = prs.length
  d0 : (zs.getD 0 (0, 0)).2 = 0
  pos : ∀ z ∈ zs, 0 ≤ z.2 ∧ 0 ≤ z.1 ∧ z.1 < (wds.length : Int)
  up : ∀ j : Nat, 1 ≤ j → j < prs.length → (zs.getD j (0, 0)).2 = (zs.getD (prs.getD j 0 - 1) (0, 0)).2 + 1 ∧ clN wds (zs.getD j (0, 0)).1 (zs.getD (prs.getD j 0 - 1) (0, 0)).1 = true
theorem WI.start {wds : List WD} {k : Int} (k0 : 0 ≤ k) (k1 : k < (wds.length : Int)) : WI wds [(k, 0)] [0] := by
  refine ⟨⟨rfl, by simp, fun j h1 h2 => ?_⟩, rfl, rfl, fun z hz => ?_, fun j h1 h2 => ?_⟩
  · simp at h2
    omega
  · rw [List.mem_singleton.mp hz]
    exact ⟨Int.le_refl _, k0, k1⟩
  · simp at h2
    omega
theorem getD_old {α : Type} {l m : List α} {d : α} {j : Nat} (h : j < l.length) : (l ++ m).getD j d = l.getD j d := by
  rw [List.getD_eq_getElem?_getD, List.getD_eq_getElem?_getD, List.getElem?_append_left h]
theorem getD_new {α : Type} {l : List α} {x d : α} : (l ++ [x]).getD l.length d = x := by
  rw [List.getD_eq_getElem?_getD, List.getElem?_append_right (Nat.le_refl _), Nat.sub_self]
  rfl
theorem abv_mem {wds : List WD} {zs : List (Int × Int)} {n x : Int} (h : x ∈ abv wds zs n) : ∃ z ∈ zs, clN wds n z.1 = true ∧ z.2 = x := by
  obtain ⟨z, hz, e⟩ := List.mem_map.mp h
  obtain ⟨h1, h2⟩ := List.mem_filter.mp hz
  exact ⟨z, h1, h2, e⟩
theorem abv_of {wds : List WD} {zs : List (Int × Int)} {n : Int} {z : Int × Int} (h : z ∈ zs) (c : clN wds n z.1 = true) : z.2 ∈ abv wds zs n := List.mem_map.mpr ⟨z, List.mem_filter.mpr ⟨h, c⟩, rfl⟩
theorem dstep_no {wds : List WD} {zs : List (Int × Int)} {n : Int} (h : ∀ z ∈ zs, clN wds n z.1 = false) : dstep wds zs n = zs := by
  have e : abv wds zs n = [] := by
    unfold abv
    rw [List.filter_eq_nil_iff.mpr fun z hz => by rw [h z hz]; exact Bool.false_ne_true]
    rfl
  unfold dstep
  rw [e, if_neg (by rw [mxI]; decide)]
theorem dstep_yes {wds : List WD} {zs : List (Int × Int)} {n o d : Int} (d0 : 0 ≤ d) (m : (o, d) ∈ zs) (c : clN wds n o = true) (h : ∀ z ∈ zs, clN wds n z.1 = true → z.2 ≤ d) : dstep wds zs n = zs ++ [(n, d + 1)] := by
  have e : mxI (abv wds zs n) = d := mxI_eq (by omega) (abv_of m c) fun x hx => by
    obtain ⟨z, hz, cz, rfl⟩ := abv_mem hx
    exact h z hz cz
  unfold dstep
  rw [e, if_pos (by omega), Int.add_comm]
theorem WI.more {wds : List WD} {zs : List (Int × Int)} {prs : List Nat} (w : WI wds zs prs) {n o d : Int} {at_ : Nat} (n0 : 0 ≤ n) (n1 : n < (wds.length : Int)) (e : zs[at_]? = some (o, d)) (c : clN wds n o = true) : WI wds (zs ++ [(n, d + 1)]) (prs ++ [at_ + 1]) := by
  have ha : at_ < zs.length := (List.getElem?_eq_some_iff.mp e).1
  have ln := w.len
  have o1 := w.ok.one
  have ez : zs.getD at_ (0, 0) = (o, d) := by rw [List.getD_eq_getElem?_getD, e]; rfl
  have d0 := (w.pos _ (List.mem_of_getElem? e)).1
  refine ⟨⟨?_, by rw [List.length_append]; omega, fun j h1 h2 => ?_⟩, by rw [List.length_append, List.length_append, ln]; rfl, ?_, fun z hz => ?_, fun j h1 h2 => ?_⟩
  · rw [getD_old (by omega)]
    exact w.ok.top
  · rw [List.length_append] at h2
    by_cases z : j < prs.length
    · rw [getD_old z]
      exact w.ok.up j h1 z
    · have : j = prs.length := by simp at h2; omega
      subst this
      rw [getD_new]
      omega
  · rw [getD_old (by omega)]
    exact w.d0
  · rcases List.mem_append.mp hz with hz | hz
    · exact w.pos z hz
    · rw [List.mem_singleton.mp hz]
      exact ⟨by show 0 ≤ d + 1; have : 0 ≤ d := d0; omega, n0, n1⟩
  · rw [List.length_append] at h2
    by_cases z : j < prs.length
    · have u := w.up j h1 z
      have l := (w.ok.up j h1 z).2
      rw [getD_old z, getD_old (by omega), getD_old (by omega)]
      exact u
    · have : j = prs.length := by simp at h2; omega
      subst this
      rw [getD_new, Nat.add_sub_cancel, getD_old ha, ez, ← ln, getD_new]
      exact ⟨rfl, c⟩
theorem belOf_more {prs : List Nat} (ok : PrOk prs) {at_ : Nat} (ha : at_ < prs.length) : belOf (prs ++ [at_ + 1]) = (belOf prs).set at_ (kids prs at_ ++ [(prs.length : Int)]) ++ [[]] := by
  have k1 : ∀ i : Nat, kids (prs ++ [at_ + 1]) i = kids prs i ++ (if i = at_ then [(prs.length : Int)] else []) := fun i => by
    unfold kids
    rw [List.length_append, List.length_singleton, List.range_succ, List.filter_append, List.map_append]
    congr 1
    · congr 1
      refine List.filter_congr fun j hj => ?_
      rw [getD_old (List.mem_range.mp hj)]
    · rw [List.filter_cons, getD_new]
      by_cases e : i = at_
      · subst e
        rw [if_pos (decide_eq_true rfl), if_pos rfl]
        rfl
      · rw [if_neg (by rw [decide_eq_true_eq]; omega), if_neg e]
        rfl
  have k2 : kids prs prs.length = [] := by
    unfold kids
    rw [List.filter_eq_nil_iff.mpr fun j hj => by
      have hj := List.mem_range.mp hj
      have := ok.le hj
      rw [decide_eq_true_eq]
      omega]
    rfl
  unfold belOf
  rw [List.length_append, List.length_singleton, List.range_succ, List.map_append]
  congr 1
  · refine List.ext_getElem? fun i => ?_
    rw [List.getElem?_map, List.getElem?_set, List.getElem?_map, List.length_map, List.length_range]
    by_cases hi : i < prs.length
    · rw [List.getElem?_range hi]
      show some (kids (prs ++ [at_ + 1]) i) = _
      rw [k1 i]
      by_cases e : at_ = i
      · subst e
        rw [if_pos rfl, if_pos rfl, if_pos ha]
      · rw [if_neg e, if_neg (fun z => e z.symm), List.append_nil]
        rfl
    · rw [List.getElem?_eq_none (by rw [List.length_range]; omega)]
      by_cases e : at_ = i
      · omega
      · rw [if_neg e]
        rfl
  · rw [List.map_singleton, k1, k2, if_neg (by omega)]
    rfl
theorem zs_range (zs : List (Int × Int)) : ((List.range zs.length).map fun j : Nat => (atF (zs.map (·.1)) (j : Int), atF (zs.map (·.2)) (j : Int))) = zs := by
  refine List.ext_getElem (by simp) fun k h1 h2 => ?_
  rw [List.getElem_map, List.getElem_range, atF_nat _ (by rw [List.length_map]; exact h2), atF_nat _ (by rw [List.length_map]; exact h2), List.getElem_map, List.getElem_map]
theorem atF_fst {zs : List (Int × Int)} {j : Nat} (h : j < zs.length) : atF (zs.map (·.1)) (j : Int) = (zs.getD j (0, 0)).1 := by
  rw [atF_nat _ (by rw [List.length_map]; exact h), List.getElem_map, List.getD_eq_getElem?_getD, List.getElem?_eq_getElem h]
  rfl
theorem atF_snd {zs : List (Int × Int)} {j : Nat} (h : j < zs.length) : atF (zs.map (·.2)) (j : Int) = (zs.getD j (0, 0)).2 := by
  rw [atF_nat _ (by rw [List.length_map]; exact h), List.getElem_map, List.getD_eq_getElem?_getD, List.getElem?_eq_getElem h]
  rfl
/-- the tree of such a walk -/
theorem WI.tree {wds : List WD} {zs : List (Int × Int)} {prs : List Nat} (w : WI wds zs prs) :
    (nodesD (treeI (zs.map (·.1)) (belOf prs) 0) 0).Perm zs ∧ okT (clN wds) wds.length (treeI (zs.map (·.1)) (belOf prs) 0) ∧ (treeI (zs.map (·.1)) (belOf prs) 0).top = (zs.getD 0 (0, 0)).1 := by
  have ln := w.len
  have o1 := w.ok.one
  have lm : (zs.map (·.1)).length = prs.length := by rw [List.length_map, ln]
  refine ⟨?_, ?_, ?_⟩
  · have t := tree_nodes (deps := zs.map (·.2)) w.ok lm fun j h1 h2 => by
      have l := (w.ok.up j h1 h2).2
      rw [atF_snd (by omega), atF_snd (by omega)]
      exact (w.up j h1 h2).1
    have e0 : atF (zs.map (·.2)) 0 = 0 := (atF_snd (j := 0) (by omega)).trans w.d0
    rw [e0, ← ln, zs_range] at t
    exact t
  · refine tree_all w.ok lm (fun j hj => ?_) (fun j h1 h2 => ?_) prs.length 0 (Nat.zero_add _) 0 (Nat.le_refl _) (by omega)
    · rw [atF_fst (by omega)]
      have hj' : j < zs.length := by omega
      have e : zs.getD j (0, 0) = zs[j] := by rw [List.getD_eq_getElem?_getD, List.getElem?_eq_getElem hj']; rfl
      rw [e]
      exact (w.pos _ (List.getElem_mem hj')).2
    · have l := (w.ok.up j h1 h2).2
      rw [atF_fst (by omega), atF_fst (by omega)]
      exact (w.up j h1 h2).2
  · have g := w.ok.grows
    rw [← lm] at g
    rw [treeI_eq g (by omega)]
    exact atF_fst (j := 0) (by omega)
theorem depths_snoc (wds : List WD) (k : Int) (ks : List Int) (n : Int) : depthsL wds k (ks ++ [n]) = dstep wds (depthsL wds k ks) n := by
  unfold depthsL
  rw [List.foldl_append]
  rfl
theorem depths_len (wds : List WD) (k : Int) : ∀ ks : List Int, (depthsL wds k ks).length ≤ ks.length + 1 ∧ ∀ z ∈ depthsL wds k ks, 0 ≤ z.2 ∧ z.2 ≤ (ks.length : Int) ∧ (z.1 = k ∨ z.1 ∈ ks) := by
  intro ks
  generalize hn : ks.length = n
  induction n generalizing ks with
  | zero =>
    rw [List.length_eq_zero_iff.mp hn]
    refine ⟨Nat.le_refl _, fun z hz => ?_⟩
    have : z = (k, 0) := List.mem_singleton.mp hz
    rw [this]
    exact ⟨Int.le_refl _, Int.le_refl _, .inl rfl⟩
  | succ n ih =>
    have ne : ks ≠ [] := fun z => by rw [z] at hn; cases hn
    have e := List.dropLast_concat_getLast ne
    have ld : ks.dropLast.length = n := by rw [List.length_dropLast]; omega
    obtain ⟨h1, h2⟩ := ih ks.dropLast ld
    rw [← e, depths_snoc]
    unfold dstep
    have mx : mxI (abv wds (depthsL wds k ks.dropLast) (ks.getLast ne)) ≤ n := mxI_up (by omega) fun x hx => by
      obtain ⟨z, hz, _, rfl⟩ := abv_mem hx
      exact (h2 z hz).2.1
    split
    · rename_i c
      refine ⟨by rw [List.length_append]; show _ + 1 ≤ _; omega, fun z hz => ?_⟩
      rcases List.mem_append.mp hz with hz | hz
      · obtain ⟨a, b, c⟩ := h2 z hz
        exact ⟨a, by omega, c.imp_right fun y => List.mem_append_left _ y⟩
      · rw [List.mem_singleton.mp hz]
        exact ⟨by show 0 ≤ 1 + mxI _; omega, by show 1 + mxI _ ≤ _; omega, .inr (List.mem_append_right _ List.mem_cons_self)⟩
    · refine ⟨by omega, fun z hz => ?_⟩
      obtain ⟨a, b, c⟩ := h2 z hz
      exact ⟨a, by omega, c.imp_right fun y => List.mem_append_left _ y⟩
end Rd

set_option Elab.async false
set_option linter.all false
set_option maxRecDepth 100000
set_option maxHeartbeats 4000000
/-! trees on the heap; walks backwards -/
namespace Rd
open PySem PySem.Spec PyProof.Rows L2 Dt
mutual
inductive IsTr (H : Hp) : V → WTr → Prop
  | mk {a c : Addr} {n : Int} {vs : List V} {ts : List WTr} : H a = some (.tup [.int n, .ref c]) → H c = some (.tup vs) → IsTrs H vs ts → IsTr H (.ref a) (.node n ts)
inductive IsTrs (H : Hp) : List V → List WTr → Prop
  | nil : IsTrs H [] []
  | cons {v : V} {t : WTr} {vs : List V} {ts : List WTr} : IsTr H v t → IsTrs H vs ts → IsTrs H (v :: vs) (t :: ts)
end
mutual
theorem IsTr.mono {H H' : Hp} (s : Tups H H') : ∀ {v : V} {t : WTr}, IsTr H v t → IsTr H' v t
  | _, _, .mk h1 h2 h3 => .mk (s _ _ h1) (s _ _ h2) (IsTrs.mono s h3)
theorem IsTrs.mono {H H' : Hp} (s : Tups H H') : ∀ {vs : List V} {ts : List WTr}, IsTrs H vs ts → IsTrs H' vs ts
  | _, _, .nil => .nil
  | _, _, .cons h t => .cons (IsTr.mono s h) (IsTrs.mono s t)
end
theorem IsTrs.len {H : Hp} : ∀ {vs : List V} {ts : List WTr}, IsTrs H vs ts → vs.length = ts.length
  | _, _, .nil => rfl
  | _, _, .cons _ t => by rw [List.length_cons, List.length_cons, IsTrs.len t]
theorem IsTrs.get {H : Hp} : ∀ {vs : List V} {ts : List WTr}, IsTrs H vs ts → ∀ {i : Nat} {v : V}, vs[i]? = some v → ∃ t, ts[i]? = some t ∧ IsTr H v t
  | _, _, .nil, _, _, h => by simp at h
  | _, _, .cons (t := t) h _, 0, v, e => by
    cases Option.some.inj (show some _ = some v from e)
    exact ⟨t, rfl, h⟩
  | _, _, .cons _ r, i + 1, v, e => IsTrs.get r (i := i) e
theorem IsTrs.snoc {H : Hp} {v : V} {t : WTr} : ∀ {vs : List V} {ts : List WTr}, IsTrs H vs ts → IsTr H v t → IsTrs H (vs ++ [v]) (ts ++ [t])
  | _, _, .nil, h => .cons h .nil
  | _, _, .cons a b, h => .cons a (IsTrs.snoc b h)
/-- downwards over a range -/
theorem for_down {lo : Int} {n : Nat} {g : TG} {tb : TS} {D : Ends} {σ : L2.St} {H : Hp} (Pv : Nat → L2.St → Hp → Prop) (h0 : Pv 0 σ H)
    (hs : ∀ i σ H, i < n → Pv i σ H → g (.int (lo + (i : Nat) * (-1))) σ H fun σ2 H2 => tb { D with nx := Pv (i + 1), ct := Pv (i + 1), bk := D.nx } σ2 H2) (hd : ∀ σ H, Pv n σ H → D.nx σ H) :
    ∃ W : Nat → Nat → L2.St → Hp → Prop, (∃ m, W 0 m σ H) ∧ ∀ i m σ H, W i m σ H →
      ((Itc lo (-1) n).stop i H ∧ D.nx σ H) ∨ ((Itc lo (-1) n).go i H ∧ ∃ N : L2.St → Hp → Prop, (∀ σ' H', N σ' H' → ∃ m', m' < m ∧ W (i + 1) m' σ' H') ∧ ∀ x H', (Itc lo (-1) n).yld i H x H' → g x σ H' fun σ2 H2 => tb { D with nx := N, ct := N, bk := D.nx } σ2 H2) := by
  refine ⟨fun i m σ H => m = n - i ∧ i ≤ n ∧ Pv i σ H, ⟨n, by simp, Nat.zero_le _, h0⟩, ?_⟩
  rintro i m σ H ⟨rfl, hi, p⟩
  by_cases hlt : i < n
  · refine .inr ⟨hlt, Pv (i + 1), fun σ' H' p' => ⟨n - (i + 1), by omega, rfl, hlt, p'⟩, fun x H' y => ?_⟩
    obtain ⟨e, y⟩ := y
    subst e
    subst y
    exact hs i σ _ hlt p
  · have e : i = n := by omega
    subst e
    exact .inl ⟨Nat.le_refl _, hd σ H p⟩
/-- over a list from its end -/
theorem for_revL {K : PySem.W.Frag} {a : Addr} {xs : List V} {g : TG} {tb : TS} {D : Ends} {σ : L2.St} {H : Hp} (Pv : Nat → L2.St → Hp → Prop) (h0 : Pv 0 σ H) (hl : ∀ i σ H, i ≤ xs.length → Pv i σ H → SqL K H a xs)
    (hs : ∀ i x σ H, i < xs.length → xs[xs.length - 1 - i]? = some x → Pv i σ H → g x σ H fun σ2 H2 => tb { D with nx := Pv (i + 1), ct := Pv (i + 1), bk := D.nx } σ2 H2) (hd : ∀ σ H, Pv xs.length σ H → D.nx σ H) :
    ∃ W : Nat → Nat → L2.St → Hp → Prop, (∃ m, W 0 m σ H) ∧ ∀ i m σ H, W i m σ H →
      ((Itv K a xs.length).stop i H ∧ D.nx σ H) ∨ ((Itv K a xs.length).go i H ∧ ∃ N : L2.St → Hp → Prop, (∀ σ' H', N σ' H' → ∃ m', m' < m ∧ W (i + 1) m' σ' H') ∧ ∀ x H', (Itv K a xs.length).yld i H x H' → g x σ H' fun σ2 H2 => tb { D with nx := N, ct := N, bk := D.nx } σ2 H2) := by
  refine ⟨fun i m σ H => m = xs.length - i ∧ i ≤ xs.length ∧ Pv i σ H, ⟨xs.length, by simp, Nat.zero_le _, h0⟩, ?_⟩
  rintro i m σ H ⟨rfl, hi, p⟩
  have q := hl i σ H hi p
  by_cases hlt : i < xs.length
  · have hk : xs.length - 1 - i < xs.length := by omega
    refine .inr ⟨⟨hlt, xs, xs[xs.length - 1 - i], q, List.getElem?_eq_getElem hk⟩, Pv (i + 1), fun σ' H' p' => ⟨xs.length - (i + 1), by omega, rfl, hlt, p'⟩, fun x H' y => ?_⟩
    obtain ⟨e, y⟩ := y
    subst e
    exact hs i x σ _ hlt (y xs q) p
  · have e : i = xs.length := by omega
    subst e
    exact .inl ⟨Nat.le_refl _, hd σ H p⟩
end Rd
namespace Gx
open PySem PySem.Spec PyProof.Rows L2 GenW
theorem tup_list {K : PySem.W.Frag} {a : Addr} {xs : List V} {g : TG} {tt : TT} {te : TE} {vs : List Nat} {σ : L2.St} {Q : List V → Hp → Prop} {H2 : Hp} (hz : xs.length ≤ sizeLine) (Pv : Nat → List V → Hp → Prop) (h0 : Pv 0 [] H2) (hl : ∀ i ys H, i ≤ xs.length → Pv i ys H → SqL K H a xs) (hy : ∀ i ys H, Pv i ys H → ys.length ≤ i)
    (hs : ∀ i x ys H, xs[i]? = some x → Pv i ys H → g x (wipe σ vs) H fun σ2 H2 => wipe σ2 vs = wipe σ vs ∧ tt σ2 H2 fun b H3 => if b = true then te σ2 H3 fun y H4 => Pv (i + 1) (ys ++ [y]) H4 else Pv (i + 1) ys H3) (hd : ∀ ys H, Pv xs.length ys H → Q ys H) :
    ∃ W : Nat → Nat → List V → Hp → Prop, (∃ m, W 0 m [] H2) ∧ TurnsC (Itl K a) g tt te vs σ Q W := by
  refine ⟨fun i m ys H => m = xs.length - i ∧ i ≤ xs.length ∧ Pv i ys H, ⟨xs.length, by simp, Nat.zero_le _, h0⟩, ?_⟩
  rintro i m ys H ⟨rfl, hi, p⟩
  have q := hl i ys H hi p
  by_cases hlt : i < xs.length
  · refine .inr ⟨⟨xs, xs[i], q, by simp [hlt]⟩, Nat.lt_of_le_of_lt (hy i ys H p) (Nat.lt_of_lt_of_le hlt hz), Pv (i + 1), fun ys' H' p' => ⟨xs.length - (i + 1), by omega, rfl, hlt, p'⟩, fun x H' y => ?_⟩
    obtain ⟨e, y⟩ := y
    subst e
    exact hs i x ys _ (y xs q) p
  · have e : i = xs.length := by omega
    subst e
    exact .inl ⟨⟨xs, q, Nat.le_refl _⟩, hd ys H p⟩
end Gx

set_option Elab.async false
set_option linter.all false
set_option maxRecDepth 100000
set_option maxHeartbeats 4000000
/-! texts read as riddles -/
namespace Rd
open PySem PySem.Spec PyProof.Rows L2 Dt TL
def figS : Str := Str.ofString "0123456789"
def figI (w : Str) : Int := Txt.find figS w
def signs (w : Str) : List Str := (tl w).map fun c => ⟨#[c]⟩
def rowR (w : Str) : List Int := (signs w).map figI
def readW (l : Str) : WD := (((Txt.split (Txt.partition l (Str.ofString ": ")).1 (Str.ofString " ")).drop 1).map figI, (Txt.split (Txt.partition l (Str.ofString ": ")).2.2 (Str.ofString " ")).map rowR)
def readR (t : Str) : Option (Int × Int × List WD) :=
  if (Txt.split ((Txt.split t (Str.ofString "\n")).getD 0 Str.empty) (Str.ofString " ")).length = 4 then
    some (figI ((Txt.split ((Txt.split t (Str.ofString "\n")).getD 0 Str.empty) (Str.ofString " ")).getD 1 Str.empty), figI ((Txt.split ((Txt.split t (Str.ofString "\n")).getD 0 Str.empty) (Str.ofString " ")).getD 3 Str.empty), ((Txt.split t (Str.ofString "\n")).drop 1).map readW)
  else none
theorem join_mem {S : List Nat} {c : Nat} : ∀ {ps : List (List Nat)}, c ∈ joinL S ps → c ∈ S ∨ ∃ p ∈ ps, c ∈ p
  | [], h => by simp [joinL] at h
  | [p], h => .inr ⟨p, List.mem_cons_self, h⟩
  | p :: q :: r, h => by
    rw [joinL] at h
    rcases List.mem_append.mp h with h | h
    · exact .inr ⟨p, List.mem_cons_self, h⟩
    · rcases List.mem_append.mp h with h | h
      · exact .inl h
      · rcases join_mem h with h | ⟨x, hx, h⟩
        · exact .inl h
        · exact .inr ⟨x, List.mem_cons_of_mem _ hx, h⟩
theorem num_tl {i : Int} (h0 : 0 ≤ i) (h1 : i ≤ 9) : tl (numT i) = [48 + i.toNat] := by
  have all : ∀ n : Nat, n < 10 → tl (numT (n : Int)) = [48 + n] := by decide +kernel
  have z := all i.toNat (by omega)
  rw [show ((i.toNat : Nat) : Int) = i by omega] at z
  exact z
theorem fig_num {i : Int} (h0 : 0 ≤ i) (h1 : i ≤ 9) : figI (numT i) = i := by
  have all : ∀ n : Nat, n < 10 → figI (numT (n : Int)) = (n : Int) := by decide +kernel
  have z := all i.toNat (by omega)
  rw [show ((i.toNat : Nat) : Int) = i by omega] at z
  exact z
theorem join_single : ∀ (ps : List (List Nat)), joinL [] ps = ps.flatten
  | [] => rfl
  | [p] => by simp [joinL]
  | p :: q :: r => by rw [joinL, join_single (q :: r)]; simp
theorem tl_nil : tl (Str.ofString "") = [] := by decide +kernel
theorem tl_row (r : List Int) (h : ∀ x ∈ r, 0 ≤ x ∧ x ≤ 9) : tl (rowT r) = r.map fun x => 48 + x.toNat := by
  unfold rowT
  rw [tl_joinT, tl_nil, join_single, List.map_map]
  induction r with
  | nil => rfl
  | cons x q ih =>
    have hx := h x List.mem_cons_self
    rw [List.map_cons, List.flatten_cons, ih fun y hy => h y (List.mem_cons_of_mem _ hy), List.map_cons]
    show tl (numT x) ++ _ = _
    rw [num_tl hx.1 hx.2]
    rfl
theorem sign_num {i : Int} (h0 : 0 ≤ i) (h1 : i ≤ 9) : (⟨#[48 + i.toNat]⟩ : Str) = numT i := ext_tl (by rw [num_tl h0 h1])
theorem row_read {r : List Int} (h : ∀ x ∈ r, 0 ≤ x ∧ x ≤ 9) : rowR (rowT r) = r := by
  unfold rowR signs
  rw [tl_row r h, List.map_map, List.map_map]
  conv => rhs; rw [← List.map_id r]
  refine List.map_congr_left fun x hx => ?_
  have := h x hx
  show figI ⟨#[48 + x.toNat]⟩ = x
  rw [sign_num this.1 this.2, fig_num this.1 this.2]
theorem sp_split {parts : List Str} (hne : parts ≠ []) (hp : ∀ p ∈ parts, 32 ∉ tl p) : Txt.split (Txt.join (Str.ofString " ") parts) (Str.ofString " ") = parts :=
  split_join (s := 32) (S := []) tl_sp (by decide +kernel) hne hp
theorem num_no {i : Int} {c : Nat} (h0 : 0 ≤ i) (h1 : i ≤ 9) (hc : c < 48 ∨ 57 < c) : c ∉ tl (numT i) := by
  rw [num_tl h0 h1]
  intro z
  have := List.mem_singleton.mp z
  omega
theorem row_no {r : List Int} {c : Nat} (h : ∀ x ∈ r, 0 ≤ x ∧ x ≤ 9) (hc : c < 48 ∨ 57 < c) : c ∉ tl (rowT r) := by
  rw [tl_row r h]
  intro z
  obtain ⟨x, hx, e⟩ := List.mem_map.mp z
  have := h x hx
  omega
theorem wish_front {ps : List Int} (h : ps ≠ []) : (Str.empty ++ Str.ofString "wish ") ++ placesT ps = Txt.join (Str.ofString " ") (Str.ofString "wish" :: ps.map numT) := by
  refine ext_tl ?_
  unfold placesT
  rw [tl_append, tl_append, tl_empty, List.nil_append, tl_joinT, tl_joinT, tl_sp]
  cases ps with
  | nil => exact absurd rfl h
  | cons p r =>
    have e : tl (Str.ofString "wish ") = tl (Str.ofString "wish") ++ [32] := by decide +kernel
    rw [e, List.append_assoc]
    rfl
theorem wish_read {many hues : Int} {wd : WD} (m6 : many ≤ 6) (h4 : hues ≤ 4) (g : Good many hues wd) : readW (wishT wd) = wd := by
  have hp : ∀ x ∈ wd.1, 0 ≤ x ∧ x ≤ 9 := fun x hx => by have := g.pl x hx; omega
  have hr : ∀ r ∈ wd.2, ∀ x ∈ r, 0 ≤ x ∧ x ≤ 9 := fun r h x hx => by have := (g.row r h).2 x hx; omega
  have n1 : wd.1 ≠ [] := fun z => by have := g.one; rw [z] at this; exact absurd this (by decide)
  have n2 : wd.2 ≠ [] := fun z => by have := g.some_; rw [z] at this; exact absurd this (by decide)
  have e : Txt.partition (wishT wd) (Str.ofString ": ") = (Txt.join (Str.ofString " ") (Str.ofString "wish" :: wd.1.map numT), Str.ofString ": ", rowsT wd.2) := by
    unfold wishT
    rw [wish_front n1]
    refine partition_app (s := 58) (S := [32]) (by decide +kernel) ?_
    rw [tl_joinT, tl_sp]
    intro z
    rcases join_mem z with z | ⟨p, hp1, z⟩
    · exact absurd z (by decide)
    · rw [List.map_cons] at hp1
      rcases List.mem_cons.mp hp1 with rfl | hp1
      · exact absurd z (by decide +kernel)
      · rw [List.map_map] at hp1
        obtain ⟨x, hx, rfl⟩ := List.mem_map.mp hp1
        have := hp x hx
        exact num_no this.1 this.2 (by omega) z
  unfold readW
  rw [e]
  dsimp only
  rw [sp_split (by simp) (fun p h => ?_)]
  · unfold rowsT
    rw [sp_split (by simpa using n2) (fun p h => ?_)]
    · rw [List.drop_succ_cons, List.drop_zero, List.map_map, List.map_map]
      refine Prod.ext ?_ ?_
      · conv => rhs; rw [← List.map_id wd.1]
        exact List.map_congr_left fun x hx => fig_num (hp x hx).1 (hp x hx).2
      · conv => rhs; rw [← List.map_id wd.2]
        exact List.map_congr_left fun r h => row_read (hr r h)
    · obtain ⟨r, h1, rfl⟩ := List.mem_map.mp h
      exact row_no (hr r h1) (by omega)
  · rcases List.mem_cons.mp h with rfl | h
    · decide +kernel
    · obtain ⟨x, hx, rfl⟩ := List.mem_map.mp h
      exact num_no (hp x hx).1 (hp x hx).2 (by omega)
theorem head_words (many hues : Int) : headT many hues = Txt.join (Str.ofString " ") [Str.ofString "places", numT many, Str.ofString "hues", numT hues] := by
  refine ext_tl ?_
  unfold headT
  rw [tl_append, tl_append, tl_append, tl_append, tl_empty, List.nil_append, tl_joinT, tl_sp]
  have e1 : tl (Str.ofString "places ") = tl (Str.ofString "places") ++ [32] := by decide +kernel
  have e2 : tl (Str.ofString " hues ") = 32 :: (tl (Str.ofString "hues") ++ [32]) := by decide +kernel
  rw [e1, e2]
  simp [joinL]
theorem wish_no {many hues : Int} {wd : WD} (m6 : many ≤ 6) (h4 : hues ≤ 4) (g : Good many hues wd) : 10 ∉ tl (wishT wd) := by
  have hp : ∀ x ∈ wd.1, 0 ≤ x ∧ x ≤ 9 := fun x hx => by have := g.pl x hx; omega
  have hr : ∀ r ∈ wd.2, ∀ x ∈ r, 0 ≤ x ∧ x ≤ 9 := fun r h x hx => by have := (g.row r h).2 x hx; omega
  unfold wishT placesT rowsT
  rw [tl_append, tl_append, tl_append, tl_append, tl_empty, List.nil_append, tl_joinT, tl_joinT, tl_sp]
  intro z
  rcases List.mem_append.mp z with z | z
  · rcases List.mem_append.mp z with z | z
    · rcases List.mem_append.mp z with z | z
      · exact absurd z (by decide +kernel)
      · rcases join_mem z with z | ⟨p, hp1, z⟩
        · exact absurd z (by decide)
        · rw [List.map_map] at hp1
          obtain ⟨x, hx, rfl⟩ := List.mem_map.mp hp1
          exact num_no (hp x hx).1 (hp x hx).2 (by omega) z
    · exact absurd z (by decide +kernel)
  · rcases join_mem z with z | ⟨p, hp1, z⟩
    · exact absurd z (by decide)
    · rw [List.map_map] at hp1
      obtain ⟨r, h, rfl⟩ := List.mem_map.mp hp1
      exact row_no (hr r h) (by omega) z
theorem rid_read {many hues : Int} {wds : List WD} (g : GoodR many hues wds) : readR (ridT many hues wds) = some (many, hues, wds) := by
  have m1 := g.m1
  have m6 := g.m6
  have h2 := g.h2
  have h4 := g.h4
  have hw : ∀ p ∈ [Str.ofString "places", numT many, Str.ofString "hues", numT hues], ∀ c, c = 32 ∨ c = 10 → c ∉ tl p := fun p hp c hc => by
    simp only [List.mem_cons, List.not_mem_nil, or_false] at hp
    rcases hp with rfl | rfl | rfl | rfl
    · rcases hc with rfl | rfl <;> decide +kernel
    · exact num_no (by omega) (by omega) (by omega)
    · rcases hc with rfl | rfl <;> decide +kernel
    · exact num_no (by omega) (by omega) (by omega)
  have e1 : Txt.split (ridT many hues wds) (Str.ofString "\n") = headT many hues :: wds.map wishT := by
    unfold ridT
    refine split_join (s := 10) (S := []) (by decide +kernel) (by decide +kernel) (by simp) fun p hp => ?_
    rw [List.singleton_append] at hp
    rcases List.mem_cons.mp hp with rfl | hp
    · rw [head_words, tl_joinT, tl_sp]
      intro z
      rcases join_mem z with z | ⟨p, hp1, z⟩
      · exact absurd z (by decide)
      · obtain ⟨q, hq, rfl⟩ := List.mem_map.mp hp1
        exact hw q hq 10 (.inr rfl) z
    · obtain ⟨wd, h, rfl⟩ := List.mem_map.mp hp
      exact wish_no m6 h4 (g.each wd h)
  have e2 : Txt.split (headT many hues) (Str.ofString " ") = [Str.ofString "places", numT many, Str.ofString "hues", numT hues] := by
    rw [head_words]
    exact sp_split (by simp) fun p hp => hw p hp 32 (.inl rfl)
  unfold readR
  rw [e1]
  show (if (Txt.split (headT many hues) (Str.ofString " ")).length = 4 then some (figI ((Txt.split (headT many hues) (Str.ofString " ")).getD 1 Str.empty), figI ((Txt.split (headT many hues) (Str.ofString " ")).getD 3 Str.empty), (wds.map wishT).map readW) else none) = _
  rw [e2]
  refine (if_pos (show [Str.ofString "places", numT many, Str.ofString "hues", numT hues].length = 4 from rfl)).trans ?_
  show some (figI (numT many), figI (numT hues), (wds.map wishT).map readW) = _
  rw [fig_num (by omega) (by omega), fig_num (by omega) (by omega), List.map_map]
  have e3 : wds.map (readW ∘ wishT) = wds := by
    conv => rhs; rw [← List.map_id wds]
    exact List.map_congr_left fun wd h => wish_read m6 h4 (g.each wd h)
  rw [e3]
theorem rid_inj {many hues many' hues' : Int} {wds wds' : List WD} (g : GoodR many hues wds) (g' : GoodR many' hues' wds') (h : ridT many hues wds = ridT many' hues' wds') : many = many' ∧ hues = hues' ∧ wds = wds' := by
  have a := rid_read g
  rw [h, rid_read g'] at a
  have a := Option.some.inj a
  simp only [Prod.mk.injEq] at a
  exact ⟨a.1.symm, a.2.1.symm, a.2.2.symm⟩
end Rd
namespace Gx
open PySem PySem.Spec PyProof.Rows L2 GenW TL
theorem tup_str {x : Str} {g : TG} {tt : TT} {te : TE} {vs : List Nat} {σ : L2.St} {Q : List V → Hp → Prop} {H2 : Hp} (hz : x.cps.size ≤ sizeLine) (Pv : Nat → List V → Hp → Prop) (h0 : Pv 0 [] H2) (hy : ∀ i ys H, Pv i ys H → ys.length ≤ i)
    (hs : ∀ i c ys H, x.cps[i]? = some c → Pv i ys H → g (.str ⟨#[c]⟩) (wipe σ vs) H fun σ2 H2 => wipe σ2 vs = wipe σ vs ∧ tt σ2 H2 fun b H3 => if b = true then te σ2 H3 fun y H4 => Pv (i + 1) (ys ++ [y]) H4 else Pv (i + 1) ys H3) (hd : ∀ ys H, Pv x.cps.size ys H → Q ys H) :
    ∃ W : Nat → Nat → List V → Hp → Prop, (∃ m, W 0 m [] H2) ∧ TurnsC (Its x) g tt te vs σ Q W := by
  refine ⟨fun i m ys H => m = x.cps.size - i ∧ i ≤ x.cps.size ∧ Pv i ys H, ⟨x.cps.size, by simp, Nat.zero_le _, h0⟩, ?_⟩
  rintro i m ys H ⟨rfl, hi, p⟩
  by_cases hlt : i < x.cps.size
  · refine .inr ⟨hlt, Nat.lt_of_le_of_lt (hy i ys H p) (Nat.lt_of_lt_of_le hlt hz), Pv (i + 1), fun ys' H' p' => ⟨x.cps.size - (i + 1), by omega, rfl, hlt, p'⟩, fun v H' y => ?_⟩
    obtain ⟨rfl, c, ec, rfl⟩ := y
    exact hs i c ys _ ec p
  · have e : i = x.cps.size := by omega
    subst e
    exact .inl ⟨Nat.le_refl _, hd ys H p⟩
end Gx

set_option Elab.async false
set_option linter.all false
set_option maxRecDepth 100000
set_option maxHeartbeats 4000000
/-! texts in lists: how long all of them are -/
namespace Rd
open PySem PySem.Spec PyProof.Rows L2 Dt TL
def msr (ys : List Str) : Nat := (ys.map (·.length)).sum + ys.length
theorem msr_app (a b : List Str) : msr (a ++ b) = msr a + msr b := by
  unfold msr
  rw [List.map_append, List.sum_append, List.length_append]
  omega
theorem msr_cons (x : Str) (b : List Str) : msr (x :: b) = x.length + 1 + msr b := by
  unfold msr
  rw [List.map_cons, List.sum_cons, List.length_cons]
  omega
theorem msr_take (n : Nat) (a : List Str) : msr (a.take n) ≤ msr a := by
  have z := msr_app (a.take n) (a.drop n)
  rw [List.take_append_drop] at z
  omega
theorem msr_drop (n : Nat) (a : List Str) : msr (a.drop n) ≤ msr a := by
  have z := msr_app (a.take n) (a.drop n)
  rw [List.take_append_drop] at z
  omega
theorem msr_set : ∀ (a : List Str) (i : Nat) (x : Str), msr (a.set i x) ≤ msr a + x.length
  | [], _, _ => by simp [msr]
  | y :: r, 0, x => by
    rw [List.set_cons_zero, msr_cons, msr_cons]
    omega
  | y :: r, i + 1, x => by
    have := msr_set r i x
    rw [List.set_cons_succ, msr_cons, msr_cons]
    omega
theorem msr_mem {a : List Str} {x : Str} (h : x ∈ a) : x.length + 1 ≤ msr a := by
  obtain ⟨p, q, rfl⟩ := List.append_of_mem h
  rw [msr_app, msr_cons]
  omega
theorem msr_split (x y : Str) (hy : 1 ≤ y.length) : msr (Txt.split x y) ≤ x.length + 1 := split_weight x y hy
theorem msr_join {sep : Str} {a : List Str} (h : sep.length ≤ 1) : (Txt.join sep a).length ≤ msr a := by
  rw [join_eq]
  have z := StrLaws.join_length_le sep a
  have : a.length * sep.length ≤ a.length * 1 := Nat.mul_le_mul_left _ h
  unfold msr
  omega
theorem msr_ok {sep : Str} {a : List Str} (h : sep.length ≤ 1) (m : msr a ≤ 16777216) : (a.map (·.length)).sum + a.length * sep.length ≤ 16777216 := by
  have : a.length * sep.length ≤ a.length * 1 := Nat.mul_le_mul_left _ h
  unfold msr at m
  omega
theorem op_mulS {X : Cx} : OpR X (binaryOp .Mult) (fun x y H Q => ∃ (i : Str) (n : Int), x = .str i ∧ y = .int n ∧ MulOk i n ∧ Q (.str (Txt.mul i n)) H) := by
  intro pins s σ H x y v u Q I rx ry h
  obtain ⟨i, n, rfl, rfl, hz, q⟩ := h
  obtain ⟨t, rfl⟩ := rx
  obtain ⟨t', rfl⟩ := ry
  exact PySem.SB.mul hz fun t' k => ⟨.str _, H, I.tok k, ⟨t', rfl⟩, q⟩
theorem cut_few (z : Str) (n : Nat) : (cutS z none (some (n : Int))).length ≤ n := by
  unfold cutS
  rw [len_tl]
  show (((z.cps.toList.drop _).take _).length) ≤ n
  rw [HT.sIx_nat, HT.sIx_none, List.length_take]
  omega
theorem pe_cal0 {X : Cx} {k : Nat} {x : Str} {sp : Sp} {p pos : Pos} (C : Cal X.prog X.w X.K X.mg X.base k x [] sp) (hr : Room k X.A) (hg : Gl X x) (hdb : (x == ("__debug__" : Str)) = false := by decide) : PE X (.Call (.Name x p) [] [] pos) (tCall sp [] E0 tNil) := by
  obtain ⟨f, fd, F, hm, hk, hb⟩ := C
  exact pe_call0 F hr hg hm hk hb .nil pass0 hdb
end Rd

set_option Elab.async false
set_option linter.all false
set_option maxRecDepth 100000
set_option maxHeartbeats 4000000
/-! texts read strictly, row by row -/
namespace Rd
open PySem PySem.Spec PyProof.Rows L2 Dt TL
def isDig (c : Nat) : Bool := decide (48 ≤ c ∧ c ≤ 57)
def figL (w : Str) : List Int := if (tl w).all isDig then (tl w).map (fun c : Nat => (c : Int) - 48) else []
def partsW (row : Str) : List Str := Txt.split row (Str.ofString ": ")
def plW (row : Str) : List (List Int) := (Txt.split (cutS ((partsW row).getD 0 Str.empty) (some 5) none) (Str.ofString " ")).map figL
def wishR (row : Str) : Option WD :=
  if cutS row none (some 5) ≠ Str.ofString "wish " ∨ (partsW row).length ≠ 2 then none
  else if (plW row).any (fun l => decide (l.length ≠ 1)) then none
  else some ((plW row).map (fun l => l.getD 0 0), (Txt.split ((partsW row).getD 1 Str.empty) (Str.ofString " ")).map figL)
theorem join_sp2 (x y : Str) : Txt.join y (Txt.split x y) = x := by rw [join_eq]; exact StrLaws.join_split x y
theorem fig_one {w : Str} {x : Int} (h : figL w = [x]) : 0 ≤ x ∧ x ≤ 9 ∧ w = numT x := by
  unfold figL at h
  split at h
  · rename_i hd
    cases e : tl w with
    | nil => rw [e] at h; cases h
    | cons c r =>
      rw [e] at h hd
      cases r with
      | cons _ _ => simp at h
      | nil =>
        have hx : (c : Int) - 48 = x := by simpa using h
        have hc := List.all_eq_true.mp hd c List.mem_cons_self
        have hc := of_decide_eq_true hc
        refine ⟨by omega, by omega, ext_tl ?_⟩
        rw [num_tl (by omega) (by omega), e]
        congr 1
        omega
  · cases h
theorem fig_row {w : Str} {r : List Int} (h : figL w = r) (n : r ≠ []) : (∀ x ∈ r, 0 ≤ x ∧ x ≤ 9) ∧ w = rowT r := by
  unfold figL at h
  split at h
  · rename_i hd
    have hr : ∀ x ∈ r, 0 ≤ x ∧ x ≤ 9 := fun x hx => by
      rw [← h] at hx
      obtain ⟨c, hc, rfl⟩ := List.mem_map.mp hx
      have := of_decide_eq_true (List.all_eq_true.mp hd c hc)
      omega
    refine ⟨hr, ext_tl ?_⟩
    rw [tl_row r hr, ← h, List.map_map]
    conv => lhs; rw [← List.map_id (tl w)]
    refine List.map_congr_left fun c hc => ?_
    have := of_decide_eq_true (List.all_eq_true.mp hd c hc)
    show c = 48 + ((c : Int) - 48).toNat
    omega
  · exact absurd h.symm n
theorem fig_num' {i : Int} (h0 : 0 ≤ i) (h1 : i ≤ 9) : figL (numT i) = [i] := by
  unfold figL
  rw [num_tl h0 h1, if_pos]
  · show [((48 + i.toNat : Nat) : Int) - 48] = [i]
    congr 1
    omega
  · show (isDig (48 + i.toNat) && true) = true
    rw [Bool.and_true]
    exact decide_eq_true (by omega)
theorem fig_row' {r : List Int} (h : ∀ x ∈ r, 0 ≤ x ∧ x ≤ 9) : figL (rowT r) = r := by
  unfold figL
  rw [tl_row r h, if_pos]
  · rw [List.map_map]
    conv => rhs; rw [← List.map_id r]
    refine List.map_congr_left fun x hx => ?_
    have := h x hx
    show ((48 + x.toNat : Nat) : Int) - 48 = x
    omega
  · refine List.all_eq_true.mpr fun c hc => ?_
    obtain ⟨x, hx, rfl⟩ := List.mem_map.mp hc
    have := h x hx
    exact decide_eq_true (by omega)
theorem cut_tl (z : Str) (n : Nat) : tl (cutS z none (some (n : Int))) = (tl z).take n := by
  unfold cutS
  show ((z.cps.toList.drop _).take _) = _
  rw [HT.sIx_nat, HT.sIx_none, List.drop_zero, Nat.sub_zero, len_tl]
  rcases Nat.le_total n (tl z).length with h | h
  · rw [Nat.min_eq_left h]
  · rw [Nat.min_eq_right h, List.take_of_length_le h, List.take_of_length_le (Nat.le_refl _)]
theorem cutf_tl (z : Str) (n : Nat) : tl (cutS z (some (n : Int)) none) = (tl z).drop n := by
  unfold cutS
  show ((z.cps.toList.drop _).take _) = _
  rw [HT.sIx_nat, HT.sIx_none, len_tl]
  rcases Nat.le_total n (tl z).length with h | h
  · rw [Nat.min_eq_left h, List.take_of_length_le (by rw [List.length_drop]; exact Nat.le_refl _)]
  · rw [Nat.min_eq_right h, List.drop_of_length_le (Nat.le_refl _), List.drop_of_length_le h, List.take_nil]
theorem wish_tl5 : tl (Str.ofString "wish ") = [119, 105, 115, 104, 32] := by decide +kernel
/-- a row that is read is the row of that wish -/
theorem wishR_text {many hues : Int} {row : Str} {wd : WD} (h : wishR row = some wd) (g : Good many hues wd) : wishT wd = row := by
  unfold wishR at h
  split at h
  · cases h
  rename_i h1
  have h1 : cutS row none (some 5) = Str.ofString "wish " ∧ (partsW row).length = 2 := ⟨Decidable.byContradiction fun z => h1 (.inl z), Decidable.byContradiction fun z => h1 (.inr z)⟩
  split at h
  · cases h
  rename_i h2
  have h2 : ∀ l ∈ plW row, l.length = 1 := fun l hl => Decidable.byContradiction fun z => h2 (List.any_eq_true.mpr ⟨l, hl, decide_eq_true z⟩)
  have e := Option.some.inj h
  obtain ⟨p0, p1, ep⟩ : ∃ p0 p1, partsW row = [p0, p1] := by
    cases hp : partsW row with
    | nil => rw [hp] at h1; exact absurd h1.2 (by decide)
    | cons a r =>
      cases r with
      | nil => rw [hp] at h1; simp at h1
      | cons b q =>
        cases q with
        | nil => exact ⟨a, b, rfl⟩
        | cons _ _ => rw [hp] at h1; simp at h1
  have er : Txt.join (Str.ofString ": ") [p0, p1] = row := by
    rw [← ep]
    exact join_sp2 row (Str.ofString ": ")
  have etr : tl row = tl p0 ++ ([58, 32] ++ tl p1) := by
    rw [← er, tl_joinT, show tl (Str.ofString ": ") = [58, 32] by decide +kernel]
    rfl
  have c5 : (tl row).take 5 = [119, 105, 115, 104, 32] := by
    have z := cut_tl row 5
    rw [show cutS row none (some ((5 : Nat) : Int)) = Str.ofString "wish " from h1.1, wish_tl5] at z
    exact z.symm
  have l5 : 5 ≤ (tl p0).length := by
    refine Decidable.byContradiction fun z => ?_
    have z : (tl p0).length ≤ 4 := by omega
    have y : ((tl row).take 5)[(tl p0).length]? = [119, 105, 115, 104, 32][(tl p0).length]? := by rw [c5]
    rw [List.getElem?_take_of_lt (by omega), etr, List.getElem?_append_right (Nat.le_refl _), Nat.sub_self] at y
    have m : (58 : Nat) ∈ [119, 105, 115, 104, 32] := List.mem_of_getElem? y.symm
    exact absurd m (by decide)
  have e0 : tl p0 = [119, 105, 115, 104, 32] ++ (tl p0).drop 5 := by
    have z := (List.take_append_drop 5 (tl p0)).symm
    rw [etr, List.take_append_of_le_length l5] at c5
    rw [c5] at z
    exact z
  -- the places
  have ew1 : wd.1 = (plW row).map fun l => l.getD 0 0 := by rw [← e]
  have ew2 : wd.2 = (Txt.split p1 (Str.ofString " ")).map figL := by
    rw [← e, ep]
    rfl
  have epl : plW row = (Txt.split (cutS p0 (some 5) none) (Str.ofString " ")).map figL := by
    unfold plW
    rw [ep]
    rfl
  have wp : (Txt.split (cutS p0 (some 5) none) (Str.ofString " ")) = wd.1.map numT := by
    rw [ew1, epl, List.map_map, List.map_map]
    conv => lhs; rw [← List.map_id (Txt.split (cutS p0 (some 5) none) (Str.ofString " "))]
    refine List.map_congr_left fun x hx => ?_
    have l1 := h2 (figL x) (by rw [epl]; exact List.mem_map_of_mem hx)
    cases hf : figL x with
    | nil => rw [hf] at l1; cases l1
    | cons y q =>
      cases q with
      | cons _ _ => rw [hf] at l1; simp at l1
      | nil =>
        show x = numT ((figL x).getD 0 0)
        rw [hf]
        exact (fig_one hf).2.2
  have ec : cutS p0 (some 5) none = placesT wd.1 := by
    unfold placesT
    rw [← wp]
    exact (join_sp2 _ _).symm
  have e05 : (tl p0).drop 5 = tl (placesT wd.1) := by
    rw [← ec]
    exact (cutf_tl p0 5).symm
  -- the rows
  have wr : Txt.split p1 (Str.ofString " ") = wd.2.map rowT := by
    rw [ew2, List.map_map]
    conv => lhs; rw [← List.map_id (Txt.split p1 (Str.ofString " "))]
    refine List.map_congr_left fun x hx => ?_
    have hm : figL x ∈ wd.2 := by
      rw [ew2]
      exact List.mem_map_of_mem hx
    have hl := (g.row _ hm).1
    have h1' := g.one
    exact (fig_row (w := x) rfl fun z => by rw [z] at hl; simp at hl; omega).2
  have e1 : p1 = rowsT wd.2 := by
    unfold rowsT
    rw [← wr]
    exact (join_sp2 _ _).symm
  refine ext_tl ?_
  unfold wishT
  rw [tl_append, tl_append, tl_append, tl_append, tl_empty, List.nil_append, wish_tl5, show tl (Str.ofString ": ") = [58, 32] by decide +kernel, etr, e0, e05, e1]
  simp
/-- the row of a wish is read as that wish -/
theorem wishR_of {many hues : Int} {wd : WD} (m6 : many ≤ 6) (h4 : hues ≤ 4) (g : Good many hues wd) : wishR (wishT wd) = some wd := by
  have hp : ∀ x ∈ wd.1, 0 ≤ x ∧ x ≤ 9 := fun x hx => by have := g.pl x hx; omega
  have hr : ∀ r ∈ wd.2, ∀ x ∈ r, 0 ≤ x ∧ x ≤ 9 := fun r h x hx => by have := (g.row r h).2 x hx; omega
  have n1 : wd.1 ≠ [] := fun z => by have := g.one; rw [z] at this; exact absurd this (by decide)
  have n2 : wd.2 ≠ [] := fun z => by have := g.some_; rw [z] at this; exact absurd this (by decide)
  have eT : wishT wd = Txt.join (Str.ofString ": ") [(Str.empty ++ Str.ofString "wish ") ++ placesT wd.1, rowsT wd.2] := by
    refine ext_tl ?_
    unfold wishT
    rw [tl_append, tl_append, tl_joinT]
    simp [joinL]
  have no58 : 58 ∉ tl ((Str.empty ++ Str.ofString "wish ") ++ placesT wd.1) := by
    unfold placesT
    rw [tl_append, tl_append, tl_empty, List.nil_append, tl_joinT, tl_sp]
    intro z
    rcases List.mem_append.mp z with z | z
    · exact absurd z (by decide +kernel)
    · rcases join_mem z with z | ⟨p, hp1, z⟩
      · exact absurd z (by decide)
      · rw [List.map_map] at hp1
        obtain ⟨x, hx, rfl⟩ := List.mem_map.mp hp1
        exact num_no (hp x hx).1 (hp x hx).2 (by omega) z
  have no58' : 58 ∉ tl (rowsT wd.2) := by
    unfold rowsT
    rw [tl_joinT, tl_sp]
    intro z
    rcases join_mem z with z | ⟨p, hp1, z⟩
    · exact absurd z (by decide)
    · rw [List.map_map] at hp1
      obtain ⟨r, h, rfl⟩ := List.mem_map.mp hp1
      exact row_no (hr r h) (by omega) z
  have ep : partsW (wishT wd) = [(Str.empty ++ Str.ofString "wish ") ++ placesT wd.1, rowsT wd.2] := by
    unfold partsW
    rw [eT]
    refine split_join (s := 58) (S := [32]) (by decide +kernel) (by decide +kernel) (by simp) fun p hp' => ?_
    simp only [List.mem_cons, List.not_mem_nil, or_false] at hp'
    rcases hp' with rfl | rfl
    · exact no58
    · exact no58'
  have c5 : cutS (wishT wd) none (some 5) = Str.ofString "wish " := by
    refine ext_tl ?_
    rw [show tl (cutS (wishT wd) none (some 5)) = (tl (wishT wd)).take 5 from cut_tl (wishT wd) 5, wish_tl5]
    unfold wishT
    rw [tl_append, tl_append, tl_append, tl_append, tl_empty, List.nil_append, wish_tl5]
    rfl
  have cf : cutS ((Str.empty ++ Str.ofString "wish ") ++ placesT wd.1) (some 5) none = placesT wd.1 := by
    refine ext_tl ?_
    rw [show tl (cutS ((Str.empty ++ Str.ofString "wish ") ++ placesT wd.1) (some 5) none) = (tl ((Str.empty ++ Str.ofString "wish ") ++ placesT wd.1)).drop 5 from cutf_tl _ 5, tl_append, tl_append, tl_empty, List.nil_append, wish_tl5]
    rfl
  have epl : plW (wishT wd) = wd.1.map fun x => [x] := by
    unfold plW
    rw [ep]
    show (Txt.split (cutS ((Str.empty ++ Str.ofString "wish ") ++ placesT wd.1) (some 5) none) (Str.ofString " ")).map figL = _
    rw [cf]
    unfold placesT
    rw [sp_split (by simpa using n1) (fun p h => ?_), List.map_map]
    · exact List.map_congr_left fun x hx => fig_num' (hp x hx).1 (hp x hx).2
    · obtain ⟨x, hx, rfl⟩ := List.mem_map.mp h
      exact num_no (hp x hx).1 (hp x hx).2 (by omega)
  have er : (Txt.split (rowsT wd.2) (Str.ofString " ")).map figL = wd.2 := by
    unfold rowsT
    rw [sp_split (by simpa using n2) (fun p h => ?_), List.map_map]
    · conv => rhs; rw [← List.map_id wd.2]
      exact List.map_congr_left fun r h => fig_row' (hr r h)
    · obtain ⟨r, h1, rfl⟩ := List.mem_map.mp h
      exact row_no (hr r h1) (by omega)
  unfold wishR
  rw [if_neg (by rw [c5, ep]; simp), if_neg, epl, ep]
  · show some ((wd.1.map fun x => [x]).map (fun l => l.getD 0 0), (Txt.split (rowsT wd.2) (Str.ofString " ")).map figL) = some wd
    rw [er, List.map_map]
    congr 1
    refine Prod.ext ?_ rfl
    show wd.1.map _ = wd.1
    conv => rhs; rw [← List.map_id wd.1]
    rfl
  · rw [epl]
    intro z
    obtain ⟨l, hl, y⟩ := List.any_eq_true.mp z
    obtain ⟨x, _, rfl⟩ := List.mem_map.mp hl
    exact absurd rfl (of_decide_eq_true y)
end Rd

set_option Elab.async false
set_option linter.all false
set_option maxRecDepth 100000
set_option maxHeartbeats 4000000
/-! ten names -/
namespace Rd
open PySem PySem.Spec PyProof.Rows L2 Dt TL
def letS : Str := Str.ofString "abcdefghijklmnopqrstuvwxyz"
theorem let_mem : ∀ n : Fin 26, (97 + (n : Nat)) ∈ letS.cps.toList := by decide +kernel
theorem let_in {c : Nat} (h : 97 ≤ c ∧ c ≤ 122) : c ∈ letS.cps.toList := by
  have z := let_mem ⟨c - 97, by omega⟩
  have e : 97 + (c - 97) = c := by omega
  rw [← e]
  exact z
def sgn (c : Nat) : Str := ⟨#[c]⟩
theorem sgn_tl (c : Nat) : tl (sgn c) = [c] := rfl
theorem let_at' : ∀ n : Fin 26, letS.cps.toList[(n : Nat)]? = some (97 + (n : Nat)) := by decide +kernel
theorem let_at {i : Int} (h0 : 0 ≤ i) (h1 : i < 26) : atI letS.cps.toList i = some (97 + i.toNat) := by
  have l : letS.cps.toList.length = 26 := by decide +kernel
  unfold atI
  rw [l, ixN_of h0 (by omega)]
  have z := let_at' ⟨i.toNat, by omega⟩
  exact z
theorem let_ix' : ∀ n : Fin 26, Txt.index0 letS (sgn (97 + (n : Nat))) = some (n : Nat) := by decide +kernel
theorem let_ix {c : Nat} (h : 97 ≤ c ∧ c ≤ 122) : Txt.index0 letS (sgn c) = some (c - 97) := by
  have z := let_ix' ⟨c - 97, by omega⟩
  have e : 97 + (c - 97) = c := by omega
  rw [show (97 + ((⟨c - 97, by omega⟩ : Fin 26) : Nat)) = c from e] at z
  exact z
theorem let_len : letS.length ≤ sizeLine := by decide +kernel
/-- small letters -/
def Low (cs : List Nat) : Prop := ∀ c ∈ cs, 97 ≤ c ∧ c ≤ 122
instance : DecidablePred NmOk := fun n => by unfold NmOk; infer_instance
theorem nm_of {n : Str} (h1 : 1 ≤ (tl n).length) (h8 : (tl n).length ≤ 8) (hl : Low (tl n)) : NmOk n := ⟨by rw [← Array.length_toList]; exact h1, by rw [← Array.length_toList]; exact h8, hl⟩
structure TenN (ns : List Str) : Prop where
  ten : ns.length = 10
  nd : ns.Nodup
  ok : ∀ n ∈ ns, NmOk n
def names0 : List Str := [Str.ofString "wish", Str.ofString "names", Str.ofString "taken", Str.ofString "forget", Str.ofString "filling", Str.ofString "kept", Str.ofString "spent", Str.ofString "a", Str.ofString "aa", Str.ofString "zzzzzzzz"]
theorem ten0 : TenN names0 := ⟨rfl, by decide +kernel, by decide +kernel⟩
theorem nd_tl {ns : List Str} (h : (ns.map tl).Nodup) : ns.Nodup := by
  have z := List.pairwise_map.mp h
  exact z.imp fun h e => h (by rw [e])
theorem word_tl {cs : List Nat} : tl (Txt.join (Str.ofString "") (cs.map sgn)) = cs := by
  rw [tl_joinT, show tl (Str.ofString "") = [] from tl_nil, join_single, List.map_map]
  induction cs with
  | nil => rfl
  | cons c r ih => rw [List.map_cons, List.flatten_cons, ih]; rfl
theorem cut_to_tl (z : Str) {n : Int} (h : 0 ≤ n) : tl (cutS z none (some n)) = (tl z).take n.toNat := by
  have e : n = ((n.toNat : Nat) : Int) := by omega
  rw [e, cut_tl]
  rfl
theorem cut_from_tl (z : Str) {n : Int} (h : 0 ≤ n) (hl : n.toNat ≤ (tl z).length) : tl (cutS z (some n) none) = (tl z).drop n.toNat := by
  have e : n = ((n.toNat : Nat) : Int) := by omega
  unfold cutS
  rw [e, HT.sIx_nat, HT.sIx_none]
  have e2 : z.length = (tl z).length := by rw [len_tl]
  show ((z.cps.toList.drop _).take _) = _
  rw [Int.toNat_natCast, e2, Nat.min_eq_left hl, List.take_of_length_le (by rw [List.length_drop]; exact Nat.le_refl _)]
/-- the beginnings of one word, and two more -/
theorem ten1 {cs : List Nat} {w m l : Str} {t : Nat} (hw : tl w = cs) (h8 : cs.length = 8) (lo : Low cs) (ht : t < 12) (hm : m = sgn (97 + (cs.getD 7 0 - 97 + 1 + t) % 26)) (hl : l = sgn (97 + (cs.getD 7 0 - 97 + 13 + t) % 26)) :
    TenN (((List.range 8).map fun (k : Nat) => cutS w none (some (0 + (k : Int) + 1))) ++ [cutS w none (some 7) ++ m, cutS w none (some 7) ++ l]) := by
  match cs, h8 with
  | [c0, c1, c2, c3, c4, c5, c6, c7], _ =>
    have b7 : 97 ≤ c7 ∧ c7 ≤ 122 := lo c7 (by simp)
    have lows : ∀ (k : Nat), Low ([c0, c1, c2, c3, c4, c5, c6, c7].take k) := fun k c hc => lo c (List.mem_of_mem_take hc)
    have t1 : ∀ k : Nat, tl (cutS w none (some (0 + (k : Int) + 1))) = [c0, c1, c2, c3, c4, c5, c6, c7].take (k + 1) := fun k => by
      rw [cut_to_tl w (by omega), hw]
      congr 1
      omega
    have t7 : tl (cutS w none (some 7)) = [c0, c1, c2, c3, c4, c5, c6] := by
      rw [cut_to_tl w (by decide), hw]
      rfl
    have ea : ([c0, c1, c2, c3, c4, c5, c6, c7] : List Nat).getD 7 0 = c7 := rfl
    rw [ea] at hm hl
    have tm : tl (cutS w none (some 7) ++ m) = [c0, c1, c2, c3, c4, c5, c6, 97 + (c7 - 97 + 1 + t) % 26] := by rw [tl_append, t7, hm]; rfl
    have tl2 : tl (cutS w none (some 7) ++ l) = [c0, c1, c2, c3, c4, c5, c6, 97 + (c7 - 97 + 13 + t) % 26] := by rw [tl_append, t7, hl]; rfl
    refine ⟨by simp, nd_tl ?_, fun n hn => ?_⟩
    · have e : (((List.range 8).map fun (k : Nat) => cutS w none (some (0 + (k : Int) + 1))) ++ [cutS w none (some 7) ++ m, cutS w none (some 7) ++ l]).map tl = [[c0], [c0, c1], [c0, c1, c2], [c0, c1, c2, c3], [c0, c1, c2, c3, c4], [c0, c1, c2, c3, c4, c5], [c0, c1, c2, c3, c4, c5, c6], [c0, c1, c2, c3, c4, c5, c6, c7], [c0, c1, c2, c3, c4, c5, c6, 97 + (c7 - 97 + 1 + t) % 26], [c0, c1, c2, c3, c4, c5, c6, 97 + (c7 - 97 + 13 + t) % 26]] := by
        rw [List.map_append, List.map_map, List.map_cons, List.map_cons, List.map_nil, tm, tl2]
        have e2 : ((List.range 8).map (tl ∘ fun (k : Nat) => cutS w none (some (0 + (k : Int) + 1)))) = (List.range 8).map fun k => [c0, c1, c2, c3, c4, c5, c6, c7].take (k + 1) := List.map_congr_left fun k _ => t1 k
        rw [e2]
        rfl
      rw [e]
      have d1 : c7 ≠ 97 + (c7 - 97 + 1 + t) % 26 := by omega
      have d2 : c7 ≠ 97 + (c7 - 97 + 13 + t) % 26 := by omega
      have d3 : 97 + (c7 - 97 + 1 + t) % 26 ≠ 97 + (c7 - 97 + 13 + t) % 26 := by omega
      generalize 97 + (c7 - 97 + 1 + t) % 26 = x at d1 d3
      generalize 97 + (c7 - 97 + 13 + t) % 26 = y at d2 d3
      simp [List.nodup_cons, d1, d2, d3]
    · rcases List.mem_append.mp hn with z | z
      · obtain ⟨k, hk, rfl⟩ := List.mem_map.mp z
        have hk8 := List.mem_range.mp hk
        refine nm_of (by rw [t1, List.length_take]; simp; omega) (by rw [t1, List.length_take]; simp; omega) (by rw [t1]; exact lows _)
      · have low6 : ∀ c ∈ [c0, c1, c2, c3, c4, c5, c6], 97 ≤ c ∧ c ≤ 122 := fun c hc => lo c (by
          have : c ∈ [c0, c1, c2, c3, c4, c5, c6] ++ [c7] := List.mem_append_left _ hc
          exact this)
        rcases List.mem_cons.mp z with rfl | z
        · refine nm_of (by rw [tm]; simp) (by rw [tm]; simp) ?_
          rw [tm]
          intro c hc
          have hc2 : c ∈ [c0, c1, c2, c3, c4, c5, c6] ++ [97 + (c7 - 97 + 1 + t) % 26] := hc
          rcases List.mem_append.mp hc2 with y | y
          · exact low6 c y
          · rw [List.mem_singleton.mp y]; omega
        · rw [List.mem_singleton.mp z]
          refine nm_of (by rw [tl2]; simp) (by rw [tl2]; simp) ?_
          rw [tl2]
          intro c hc
          have hc2 : c ∈ [c0, c1, c2, c3, c4, c5, c6] ++ [97 + (c7 - 97 + 13 + t) % 26] := hc
          rcases List.mem_append.mp hc2 with y | y
          · exact low6 c y
          · rw [List.mem_singleton.mp y]; omega
/-- a word, unlike at one place -/
def mid (w : Str) (at_ turn : Int) (k : Nat) : Str := (cutS w none (some at_) ++ sgn (97 + ((turn + (0 + (k : Int))) % 26).toNat)) ++ cutS w (some (at_ + 1)) none
theorem ten2 {cs : List Nat} {w : Str} {at_ turn : Int} (hw : tl w = cs) (h1 : 1 ≤ cs.length) (h8 : cs.length ≤ 8) (lo : Low cs) (a0 : 0 ≤ at_) (a1 : at_ < (cs.length : Int)) (t0 : 0 ≤ turn) :
    TenN ((List.range 10).map (mid w at_ turn)) := by
  have tm : ∀ k : Nat, tl (mid w at_ turn k) = cs.take at_.toNat ++ [97 + ((turn + (0 + (k : Int))) % 26).toNat] ++ cs.drop (at_ + 1).toNat := fun k => by
    unfold mid
    rw [tl_append, tl_append, cut_to_tl w a0, cut_from_tl w (by omega) (by rw [hw]; omega), hw]
    rfl
  have len : ∀ k : Nat, (tl (mid w at_ turn k)).length = cs.length := fun k => by
    rw [tm, List.length_append, List.length_append, List.length_take, List.length_drop, List.length_singleton]
    omega
  refine ⟨by rw [List.length_map, List.length_range], nd_tl ?_, fun n hn => ?_⟩
  · rw [List.map_map]
    refine List.pairwise_map.mpr (List.Pairwise.imp_of_mem (fun {a b} ha hb hlt z => ?_) (List.pairwise_lt_range (n := 10)))
    have ha := List.mem_range.mp ha
    have hb := List.mem_range.mp hb
    have z2 : tl (mid w at_ turn a) = tl (mid w at_ turn b) := z
    rw [tm, tm] at z2
    have z3 := List.append_cancel_right z2
    have z4 := List.append_cancel_left z3
    injection z4 with z5 _
    omega
  · obtain ⟨k, hk, rfl⟩ := List.mem_map.mp hn
    refine nm_of (by rw [len]; exact h1) (by rw [len]; exact h8) ?_
    rw [tm]
    intro c hc
    rcases List.mem_append.mp hc with y | y
    · rcases List.mem_append.mp y with x | x
      · exact lo c (List.mem_of_mem_take x)
      · rw [List.mem_singleton.mp x]
        omega
    · exact lo c (List.mem_of_mem_drop y)
theorem TenN.perm {a b : List Str} (h : TenN a) (p : b.Perm a) : TenN b := ⟨by rw [p.length_eq]; exact h.ten, p.nodup_iff.mpr h.nd, fun n hn => h.ok n (p.mem_iff.mp hn)⟩
end Rd

set_option Elab.async false
set_option linter.all false
set_option maxRecDepth 100000
set_option maxHeartbeats 4000000
/-! what is told is held as it stands; walks over a dict's items -/
namespace Rd
open PySem PySem.Spec PyProof.Rows L2 Dt
def tFrz (te : TE) : TE := fun σ H Q => te σ H fun v H1 => ∃ (d : Addr) (u : HO), v = .ref d ∧ H1 d = some u ∧ Mut (some u) ∧ ∀ od, Q v (upd H1 d (.frz od u))
theorem pe_frz {X : Cx} {e : Expr} {te : TE} (he : PE X e te) : PE X e (tFrz te) := by
  refine ⟨fun pins s σ H Q I h => ?_⟩
  refine thn (he.run pins s σ H _ I h) fun v s1 ⟨x, H1, I1, r1, d, u, ex, hd, mu, q⟩ => ?_
  obtain ⟨od, I2⟩ := I1.lock hd mu
  exact ⟨x, _, I2, r1, q od⟩
theorem for_items {d : Addr} {o : Obj} {kvs : List (Key × V)} {g : TG} {tb : TS} {D : Ends} {σ : L2.St} {H : Hp} (Pv : Nat → L2.St → Hp → Prop) (h0 : Pv 0 σ H) (hl : ∀ i σ H, i ≤ kvs.length → Pv i σ H → H d = some (.frz o (.dK kvs)))
    (hs : ∀ i k v σ H T, kvs[i]? = some (k, v) → Pv i σ H → H T = none → g (.ref T) σ (upd H T (.tup [kV k, v])) fun σ2 H2 => tb { D with nx := Pv (i + 1), ct := Pv (i + 1), bk := D.nx } σ2 H2) (hd : ∀ σ H, Pv kvs.length σ H → D.nx σ H) :
    ∃ W : Nat → Nat → L2.St → Hp → Prop, (∃ m, W 0 m σ H) ∧ ∀ i m σ H, W i m σ H →
      ((Iti d o kvs).stop i H ∧ D.nx σ H) ∨ ((Iti d o kvs).go i H ∧ ∃ N : L2.St → Hp → Prop, (∀ σ' H', N σ' H' → ∃ m', m' < m ∧ W (i + 1) m' σ' H') ∧ ∀ x H', (Iti d o kvs).yld i H x H' → g x σ H' fun σ2 H2 => tb { D with nx := N, ct := N, bk := D.nx } σ2 H2) := by
  refine ⟨fun i m σ H => m = kvs.length - i ∧ i ≤ kvs.length ∧ Pv i σ H, ⟨kvs.length, by simp, Nat.zero_le _, h0⟩, ?_⟩
  rintro i m σ H ⟨rfl, hi, p⟩
  have q := hl i σ H hi p
  by_cases hlt : i < kvs.length
  · refine .inr ⟨⟨q, hlt⟩, Pv (i + 1), fun σ' H' p' => ⟨kvs.length - (i + 1), by omega, rfl, hlt, p'⟩, fun x H' y => ?_⟩
    obtain ⟨T, k, v, e, rfl, nT, rfl⟩ := y
    exact hs i k v σ H T e p nT
  · have e : i = kvs.length := by omega
    subst e
    exact .inl ⟨⟨q, Nat.le_refl _⟩, hd σ H p⟩
end Rd

set_option Elab.async false
set_option linter.all false
set_option maxRecDepth 100000
set_option maxHeartbeats 4000000
/-! walks over a dict's keys, held; what __init__ stores -/
namespace Rd
open PySem PySem.Spec PyProof.Rows L2 Dt
theorem pi_keysF {X : Cx} {tg e : Expr} {td : TE} (he : PE X e td) : PI X tg e (iKeys (tFrz td)) := pi_keys (pe_frz he)
theorem dc_keys {d : Addr} {o : Obj} {kvs : List (Key × V)} {g : TG} {tt : TT} {tk tv : TE} {vs : List Nat} {σ : L2.St} {H1 : Hp} {D : Addr} {Qd : Hp → Prop} (Pv : Nat → Hp → Prop) (h0 : Pv 0 (upd H1 D (.dK []))) (hl : ∀ i H, i ≤ kvs.length → Pv i H → H d = some (.frz o (.dK kvs)))
    (hs : ∀ i k v H, kvs[i]? = some (k, v) → Pv i H → g (kV k) (wipe σ vs) H fun σ2 H2 => wipe σ2 vs = wipe σ vs ∧ tt σ2 H2 fun b H3 =>
      if b = true then tk σ2 H3 fun y H4 => tv σ2 H4 fun z H5 => ∃ kvs k, y = kV k ∧ H5 D = some (.dK kvs) ∧ kvs.length < sizeLine ∧ Pv (i + 1) (upd H5 D (.dK (putK kvs k z))) else Pv (i + 1) H3) (hd : ∀ H, Pv kvs.length H → Qd H) :
    ∃ W : Nat → Nat → Hp → Prop, (∃ m, W 0 m (upd H1 D (.dK []))) ∧ ∀ i m H, W i m H →
      ((Itk d o kvs).stop i H ∧ Qd H) ∨ ((Itk d o kvs).go i H ∧ ∃ Nx : Hp → Prop, (∀ H', Nx H' → ∃ m', m' < m ∧ W (i + 1) m' H') ∧ ∀ x H', (Itk d o kvs).yld i H x H' → g x (wipe σ vs) H' fun σ2 H2 => wipe σ2 vs = wipe σ vs ∧ tt σ2 H2 fun b H3 =>
        if b = true then tk σ2 H3 fun y H4 => tv σ2 H4 fun z H5 => ∃ kvs k, y = kV k ∧ H5 D = some (.dK kvs) ∧ kvs.length < sizeLine ∧ Nx (upd H5 D (.dK (putK kvs k z))) else Nx H3) := by
  refine ⟨fun i m H => m = kvs.length - i ∧ i ≤ kvs.length ∧ Pv i H, ⟨kvs.length, by simp, Nat.zero_le _, h0⟩, ?_⟩
  rintro i m H ⟨rfl, hi, p⟩
  have q := hl i H hi p
  by_cases hlt : i < kvs.length
  · refine .inr ⟨⟨q, hlt⟩, Pv (i + 1), fun H' p' => ⟨kvs.length - (i + 1), by omega, rfl, hlt, p'⟩, fun x H' y => ?_⟩
    obtain ⟨rfl, k, v, e, rfl⟩ := y
    exact hs i k v _ e p
  · have e : i = kvs.length := by omega
    subst e
    exact .inl ⟨⟨q, Nat.le_refl _⟩, hd H p⟩
section
variable {a b c d e : V}
theorem pf1 : putF ("many" : Str) a [] = ([("many", a)] : List (Str × V)) := rfl
theorem pf2 : putF ("hues" : Str) b [("many", a)] = ([("many", a), ("hues", b)] : List (Str × V)) := by
  have e1 : ¬ (("many" : Str) = "hues") := by decide +kernel
  simp only [putF, if_neg e1]
theorem pf3 : putF ("table" : Str) c [("many", a), ("hues", b)] = ([("many", a), ("hues", b), ("table", c)] : List (Str × V)) := by
  have e1 : ¬ (("many" : Str) = "table") := by decide +kernel
  have e2 : ¬ (("hues" : Str) = "table") := by decide +kernel
  simp only [putF, if_neg e1, if_neg e2]
theorem pf4 : putF ("beyond" : Str) d [("many", a), ("hues", b), ("table", c)] = ([("many", a), ("hues", b), ("table", c), ("beyond", d)] : List (Str × V)) := by
  have e1 : ¬ (("many" : Str) = "beyond") := by decide +kernel
  have e2 : ¬ (("hues" : Str) = "beyond") := by decide +kernel
  have e3 : ¬ (("table" : Str) = "beyond") := by decide +kernel
  simp only [putF, if_neg e1, if_neg e2, if_neg e3]
theorem pf5 : putF ("wishes" : Str) e [("many", a), ("hues", b), ("table", c), ("beyond", d)] = ([("many", a), ("hues", b), ("table", c), ("beyond", d), ("wishes", e)] : List (Str × V)) := by
  have e1 : ¬ (("many" : Str) = "wishes") := by decide +kernel
  have e2 : ¬ (("hues" : Str) = "wishes") := by decide +kernel
  have e3 : ¬ (("table" : Str) = "wishes") := by decide +kernel
  have e4 : ¬ (("beyond" : Str) = "wishes") := by decide +kernel
  simp only [putF, if_neg e1, if_neg e2, if_neg e3, if_neg e4]
end
/-- what a new keeper is not -/
structure FrN (Ps : List Addr) (p : Addr) (H H' : Hp) : Prop where
  keep : ∀ b o, b ∉ Ps → b ≠ p → H b = some o → H' b = some o
  tabs : Tabs Ps H'
end Rd

set_option Elab.async false
set_option linter.all false
set_option maxRecDepth 100000
set_option maxHeartbeats 4000000
/-! C(..) where __init__ may raise -/
namespace Rd
open PySem PySem.Spec PyProof.Rows L2 Dt
def tMakeX (C : Addr) (sp : Sp) (E : L2.St → XK) (t : TA) : TE := fun σ H Q => t σ H fun vs H1 => ∀ p dx, H1 p = none → H1 dx = none → dx ≠ p → sp (.ref p :: vs) (upd (upd H1 dx (.own p)) p (.ins C dx [])) (fun v H2 => v = .non ∧ Q (.ref p) H2) (E σ)
theorem make_runX {X : Cx} {CX : CXT} {k : Nat} {C f : Addr} {fd : FuncData} {ps : List Str} {sp : Sp} {E : L2.St → XK} {pins : List (Addr × Obj)} {σ : L2.St} {H : Hp} {s : Shared} {Q : VK} {us : List Value} {vs : List V} (mk : Mk X.K C f) (fn : FnOk X.prog X.w X.K X.mg X.base CX k f fd ps sp) (room : Room (k + 1) X.A) (bi : Binds X.K fd ps []) (out : PassesAt CX X σ (E σ))
    (I : Inv X pins σ H s) (rel : Vals vs us) (h : ∀ p dx, H p = none → H dx = none → dx ≠ p → sp (.ref p :: vs) (upd (upd H dx (.own p)) p (.ins C dx [])) (fun v H2 => v = .non ∧ Q (.ref p) H2) (E σ)) :
    wpAny (model X.prog X.w) X.A (call (.ref C) us) (EP X pins σ Q) X.xe s := by
  have big : s.heap.objs.size ≠ s.heap.objs.size + 1 := Nat.ne_of_lt (Nat.lt_succ_self _)
  have made := h (s.heap.objs.size + 1) s.heap.objs.size (I.hok.fresh (Nat.le_succ _)) (I.hok.fresh (Nat.le_refl _)) big
  have J := Inv.made (C := C) I
  have rels : Vals (V.ref (s.heap.objs.size + 1) :: vs) (Value.ref (s.heap.objs.size + 1) :: us) := .cons rfl rel
  have len : (Value.ref (s.heap.objs.size + 1) :: us).length = ps.length := by
    rw [← rels.length]
    exact fn.len _ _ _ _ made
  have bd := bi _ (Value.ref (s.heap.objs.size + 1) :: us) J.kIn (by rw [List.append_nil]; exact len)
  rw [List.append_nil] at bd
  have go := fn.run _ X.stack _ _ ⟨Value.ref (s.heap.objs.size + 1) :: us, []⟩ _ _ _ (E σ) (room.make C us []) (J.env0.make C us []) bd rels made
  refine wpAny_call (make_map (f := f) I.kIn mk.makes mk.init (beq_iff_eq.mp mk.fn) (codeAny_mono go fun r t q => ?_))
  match r, q with
  | .error e, q => exact out pins _ _ e t J q
  | .ok (.ret u), q =>
    obtain ⟨v, H2, J2, rv, rfl, z⟩ := J.after q
    exact ⟨rv, V.ref (s.heap.objs.size + 1), H2, J2, rfl, z⟩
  | .ok .next, q => exact q.elim
  | .ok .brk, q => exact q.elim
  | .ok .cont, q => exact q.elim
def MkCalX (P : Program) (w : World) (K : PySem.W.Frag) (mg : Str → Option Value) (base : Heap) (C : Addr) (k : Nat) (x : Str) (ps : List Str) (sp : Sp) : Prop :=
  ∃ (f : Addr) (fd : FuncData), Mk K C f ∧ FnOk P w K mg base (L2.CX P w) k f fd ps sp ∧ mg x = some (.ref C) ∧ Binds K fd ps []
theorem pe_mkcalX {X : Cx} {W : WX} {k : Nat} {C : Addr} {x : Str} {ps : List Str} {sp : Sp} {p pos : Pos} {e : Expr} {es : List Expr} {t : TA} (M : MkCalX X.prog X.w X.K X.mg X.base C k x ps sp) (room : Room (k + 1) X.A) (tk : Takes X W) (hg : Gl X x)
    (ha : PA X (e :: es) t) (hdb : (x == ("__debug__" : Str)) = false := by decide) (he : starEach (e :: es) X.env = (false, eval e X.env) :: starEach es X.env := by rfl) (hpl : (backTo pos (starEach es X.env)).any (·.1) = false := by rfl) :
    PE X (.Call (.Name x p) (e :: es) [] pos) (tMakeX C sp (WE W) t) := by
  obtain ⟨f, fd, mk, fn, hm, bi⟩ := M
  constructor
  intro pins s σ H Q I h
  apply wpAny_Call_Name_kw
  apply ld_glob I hg hm _ hdb
  apply PySem.W.callWith_K (h₀ := X.base) I.ok.mod.kin mk.kp _ he hpl
  refine thn (ha.run pos pins s σ H _ I h) ?_
  rintro us s1 ⟨vs, H1, I1, rv, q⟩
  exact ⟨I1.kIn, make_runX mk fn room bi (passAt tk σ) I1 rv q⟩
end Rd

set_option Elab.async false
set_option linter.all false
set_option maxRecDepth 100000
set_option maxHeartbeats 4000000
/-! a tuple times an int from 1 on -/
namespace L2
open PySem PySem.Spec PyProof.Rows
theorem tuple_mul1 (l : Addr) (items : Array Value) (n : Nat) (sl : Array (Option Value)) (dd : Option Addr) (u : Tok) :
    Meets (Builtin.«tuple.__mul__» ⟨[.ref l, .int 1 u], []⟩) (fun _ R s => s.heap.get? l = some { cls := .type "tuple", dict := dd, data := .seq items n, slots := sl } ∧ R (.ok (.ret (Value.ref l))) s) :=
  .of_wp fun prog w A R s h => by
    obtain ⟨hp, g, d, tk, os⟩ := s
    obtain ⟨hl, h⟩ := h
    have f1 := AutoSeq1.idx_int
    have c1 : (items.isEmpty || (1 : Int) == 1) = true := by simp
    wp_walk using wpAny_loadPart' hl
    repeat (first
      | (refine wpAny_ite_false (decide_eq_false (by decide)) ?_; wp_walk using wpAny_loadPart' hl)
      | (refine wpAny_ite_true (decide_eq_true (by rw [c1])) ?_; wp_walk using wpAny_loadPart' hl))
    exact ⟨_, rfl, h⟩
def rRep1 (K : PySem.W.Frag) : R2 := fun x y H Q => ∃ l xs, x = .ref l ∧ y = .int 1 ∧ SqT K H l xs ∧ Q (.ref l) H
theorem op_rep1 {X : Cx} : OpR X (binaryOp .Mult) (rRep1 X.K) := by
  intro pins s σ H x y v u Q I rx ry h
  obtain ⟨l, xs, rfl, rfl, hT, q⟩ := h
  cases rx
  obtain ⟨t, rfl⟩ := ry
  obtain ⟨its, r, ⟨⟨cls, dd, data, sl⟩, ho, hc, n, hd⟩, hs⟩ := I.tuple hT
  simp only at hc hd
  subst hc hd
  refine wpAny_binaryOp_repeat_ref (T := "tuple") (U := "int") (by decide) ⟨_, ho, rfl⟩ (fun s' => typeIs_int s' 1 t) noFill_tuple_mul F.fills_int_mul F.slot_int_rmul repeat_tuple F.slot_int_index.lookup
    (call_meets F.slot_int_rmul (typeIs_int s 1 t) F.entry_int_rmul (F.args_int_rmul_2 _ _) (int_rmul_tuple 1 t l its.toArray n dd sl)
      ⟨ho, rfl, ⟨_, ho, rfl⟩, call_meets F.slot_tuple_mul ⟨_, ho, rfl⟩ F.entry_tuple_mul (F.args_tuple_mul_2 _ _) (tuple_mul1 l its.toArray n sl dd t) ⟨ho, ?_⟩⟩)
  exact ⟨.ref l, H, I, rfl, q⟩
def rRepU (K : PySem.W.Frag) : R2 := fun x y H Q => rRepT K x y H Q ∨ rRep1 K x y H Q
theorem op_repU {X : Cx} : OpR X (binaryOp .Mult) (rRepU X.K) := OpR.or op_repT op_rep1
end L2

set_option Elab.async false
set_option linter.all false
set_option maxRecDepth 100000
set_option maxHeartbeats 4000000
/-! what an expression comes to, while the tape is drawn from -/
namespace Rd
open PySem PySem.Spec PyProof.Rows L2 Dt
def Tr (tp : Addr) (te : TE) (σ : L2.St) (H : Hp) (Φ : V → Hp → Prop) : Prop := ∀ Q : VK, (∀ v H', Taped tp H H' → Φ v H' → Q v H') → te σ H Q
def TrO (tp : Addr) (t : TO) (σ : L2.St) (H : Hp) : Prop := ∀ Q : Option Int → Hp → Prop, (∀ o H', Taped tp H H' → Q o H') → t σ H Q
/-- what stays while the tape is drawn from -/
def Stays (tp : Addr) (Φ : V → Hp → Prop) : Prop := ∀ v H H', Tape H tp → Taped tp H H' → Φ v H → Φ v H'
theorem tr_var {tp : Addr} {i : Nat} {σ : L2.St} {H : Hp} {Φ : V → Hp → Prop} {v : V} (t : Tape H tp) (h : σ[i]? = some (some v)) (p : Φ v H) : Tr tp (tVar i) σ H Φ := fun Q k => ⟨v, h, k v H (Taped.refl t) p⟩
theorem tr_c {tp : Addr} {v : V} {σ : L2.St} {H : Hp} {Φ : V → Hp → Prop} (t : Tape H tp) (p : Φ v H) : Tr tp (tC v) σ H Φ := fun Q k => k v H (Taped.refl t) p
theorem tr_mono {tp : Addr} {te : TE} {σ : L2.St} {H : Hp} {Φ Ψ : V → Hp → Prop} (h : Tr tp te σ H Φ) (k : ∀ v H', Taped tp H H' → Φ v H' → Ψ v H') : Tr tp te σ H Ψ := fun Q q => h Q fun v H' d p => q v H' d (k v H' d p)
theorem seq_tr {tp : Addr} {te : TE} {i : Nat} {u : TS} {D : Ends} {σ : L2.St} {H : Hp} {Φ : V → Hp → Prop} (h : Tr tp te σ H Φ) (k : ∀ v H', Taped tp H H' → Φ v H' → u D (σ.set i (some v)) H') : tSeq (tAsg te (gName i)) u D σ H := h _ k
theorem seq_trg {tp : Addr} {te : TE} {g : TG} {u : TS} {D : Ends} {σ : L2.St} {H : Hp} {Φ : V → Hp → Prop} (h : Tr tp te σ H Φ) (k : ∀ v H', Taped tp H H' → Φ v H' → g v σ H' (u D)) : tSeq (tAsg te g) u D σ H := h _ k
theorem ret_tr {tp : Addr} {te : TE} {D : Ends} {σ : L2.St} {H : Hp} {Φ : V → Hp → Prop} (h : Tr tp te σ H Φ) (k : ∀ v H', Taped tp H H' → Φ v H' → D.rt v H') : tRet te D σ H := h _ k
/-! ### ints -/
def isI : V → Hp → Prop := fun v _ => ∃ i, v = .int i
theorem tr_add {tp : Addr} {ta tb : TE} {σ : L2.St} {H : Hp} (a : Tr tp ta σ H isI) (b : ∀ H1, Taped tp H H1 → Tr tp tb σ H1 isI) : Tr tp (tOp (rI0 fun i j => .int (i + j)) ta tb) σ H isI := fun Q k => a _ fun x H1 d1 ⟨i, e1⟩ => b H1 d1 _ fun y H2 d2 ⟨j, e2⟩ => ⟨i, j, e1, e2, k _ _ (d1.trans d2) ⟨_, rfl⟩⟩
theorem tro_none {tp : Addr} {σ : L2.St} {H : Hp} (t : Tape H tp) : TrO tp tNoPart σ H := fun Q k => k none H (Taped.refl t)
theorem tro_some {tp : Addr} {te : TE} {σ : L2.St} {H : Hp} (a : Tr tp te σ H isI) : TrO tp (tPart te) σ H := fun Q k => a _ fun x H1 d ⟨i, e⟩ => ⟨i, e, k _ _ d⟩
theorem tr_dig {tp : Addr} {ta tb : TE} {sp : Sp} {σ : L2.St} {H : Hp} {lo hi : Int} (hsp : ∀ (Hx : Hp) (Q : VK) (E : XK) (m : Int), Tape Hx tp → lo ≤ m → m ≤ hi → (∀ H' d, Taped tp Hx H' → 0 ≤ d → d < m → Q (.int d) H') → sp [.ref tp, .int m] Hx Q E)
    (a : Tr tp ta σ H fun v _ => v = .ref tp) (b : ∀ H1, Taped tp H H1 → Tr tp tb σ H1 fun v _ => ∃ m, v = .int m ∧ lo ≤ m ∧ m ≤ hi) : Tr tp (tCall sp [] E0 (tCons ta (tCons tb tNil))) σ H fun v _ => ∃ d, v = .int d ∧ 0 ≤ d ∧ d < hi := fun Q k => a _ fun x H1 d1 e1 => b H1 d1 _ fun y H2 d2 ⟨m, e2, l1, l2⟩ => by
  subst e1
  subst e2
  exact hsp H2 _ _ m d2.2 l1 l2 fun H' d d3 d0 dm => k _ _ ((d1.trans d2).trans d3) ⟨d, rfl, d0, by omega⟩
/-! ### lists of pairs -/
structure EntW (x : Int × List Int) : Prop where
  num : x.1.natAbs < 10 ^ 31
  few : x.2.length ≤ 10
  hue : ∀ z ∈ x.2, -10 < z ∧ z < 10
def WEnt (H : Hp) (e : Addr) : Prop := ∃ x, IsEnt H e x ∧ EntW x
theorem WEnt.mono {H H' : Hp} {e : Addr} (h : WEnt H e) (t : Tups H H') : WEnt H' e := let ⟨x, a, b⟩ := h; ⟨x, a.mono t, b⟩
/-- a list of pairs, not the tape -/
def EntL (tp : Addr) (n : Nat) : V → Hp → Prop := fun v H => ∃ (l : Addr) (es : List Addr), v = .ref l ∧ l ≠ tp ∧ H l = some (.lst (es.map V.ref)) ∧ es.length ≤ n ∧ ∀ e ∈ es, WEnt H e
theorem entL_stays (tp : Addr) (n : Nat) : Stays tp (EntL tp n) := fun v H H' t f ⟨l, es, h1, h2, h3, h4, h5⟩ => ⟨l, es, h1, h2, f.1 _ _ h2 h3, h4, fun e he => (h5 e he).mono (f.tups t)⟩
theorem EntL.up {tp : Addr} {n m : Nat} {v : V} {H : Hp} (h : EntL tp n v H) (k : n ≤ m) : EntL tp m v H := let ⟨l, es, h1, h2, h3, h4, h5⟩ := h; ⟨l, es, h1, h2, h3, Nat.le_trans h4 k, h5⟩
theorem cut_mem {α : Type} {f : α → V} {l : List α} {lo hi : Option Int} : ∃ l' : List α, cutV (l.map f) lo hi = l'.map f ∧ l'.length ≤ l.length ∧ ∀ x ∈ l', x ∈ l := by
  unfold cutV
  refine ⟨(l.drop (HT.sIx (l.map f).length 0 lo)).take (HT.sIx (l.map f).length (l.map f).length hi - HT.sIx (l.map f).length 0 lo), by rw [List.map_take, List.map_drop], ?_, fun x hx => List.mem_of_mem_drop (List.mem_of_mem_take hx)⟩
  rw [List.length_take, List.length_drop]
  omega
theorem tr_sl {K : PySem.W.Frag} {tp : Addr} {ta : TE} {tl th : TO} {σ : L2.St} {H : Hp} {n : Nat} (t : Tape H tp) (a : Tr tp ta σ H (EntL tp n)) (b : ∀ H1, Taped tp H H1 → TrO tp tl σ H1) (c : ∀ H1, Taped tp H H1 → TrO tp th σ H1) : Tr tp (tSl (rSlL K) ta tl th) σ H (EntL tp n) := fun Q k => a _ fun x H1 d1 p1 => b H1 d1 _ fun lo H2 d2 => c H2 (d1.trans d2) _ fun hi H3 d3 => by
  obtain ⟨l, es, rfl, h2, h3, h4, h5⟩ := entL_stays tp n x H1 H3 d1.2 (d2.trans d3) p1
  obtain ⟨es', e1, e2, e3⟩ := cut_mem (f := V.ref) (l := es) (lo := lo) (hi := hi)
  refine ⟨l, _, rfl, .inl (.inl h3), fun p np => ?_⟩
  rw [e1]
  have sp := same_upd (o := .lst (es'.map V.ref)) np
  exact k _ _ ((d1.trans (d2.trans d3)).same sp) ⟨p, es', rfl, d3.2.new np, upd_same, by omega, fun e he => (h5 e (e3 e he)).mono (tups_same sp)⟩
theorem tr_rev {K : PySem.W.Frag} {tp : Addr} {ta : TE} {σ : L2.St} {H : Hp} {n : Nat} (a : Tr tp ta σ H (EntL tp n)) : Tr tp (tRevL K ta) σ H (EntL tp n) := fun Q k => a _ fun x H1 d1 p1 => by
  obtain ⟨l, es, rfl, h2, h3, h4, h5⟩ := p1
  refine ⟨l, _, rfl, .inl (.inl h3), fun p np => ?_⟩
  rw [← List.map_reverse]
  have sp := same_upd (o := .lst (es.reverse.map V.ref)) np
  exact k _ _ (d1.same sp) ⟨p, es.reverse, rfl, d1.2.new np, upd_same, by rw [List.length_reverse]; exact h4, fun e he => (h5 e (List.mem_reverse.mp he)).mono (tups_same sp)⟩
theorem tr_cat {tp : Addr} {ta tb : TE} {σ : L2.St} {H : Hp} {n m : Nat} (hn : n + m ≤ 1000) (a : Tr tp ta σ H (EntL tp n)) (b : ∀ H1, Taped tp H H1 → Tr tp tb σ H1 (EntL tp m)) : Tr tp (tOp rCat ta tb) σ H (EntL tp (n + m)) := fun Q k => a _ fun x H1 d1 p1 => b H1 d1 _ fun y H2 d2 p2 => by
  obtain ⟨l, es, rfl, h2, h3, h4, h5⟩ := entL_stays tp n x H1 H2 d1.2 d2 p1
  obtain ⟨l', es', rfl, g2, g3, g4, g5⟩ := p2
  refine ⟨l, l', _, _, rfl, rfl, h3, g3, by rw [List.length_map, List.length_map]; exact Nat.le_of_lt (small1000 (by omega)), fun p np => ?_⟩
  rw [← List.map_append]
  have sp := same_upd (o := .lst ((es ++ es').map V.ref)) np
  refine k _ _ ((d1.trans d2).same sp) ⟨p, es ++ es', rfl, d2.2.new np, upd_same, by rw [List.length_append]; omega, fun e he => ?_⟩
  rcases List.mem_append.mp he with q | q
  · exact (h5 e q).mono (tups_same sp)
  · exact (g5 e q).mono (tups_same sp)
/-- a row that may stand in a pair -/
def RowW : V → Hp → Prop := fun v H => ∃ (r : Addr) (row : List Int), v = .ref r ∧ IsRow H r row ∧ row.length ≤ 10 ∧ ∀ z ∈ row, -10 < z ∧ z < 10
theorem rowW_stays (tp : Addr) : Stays tp RowW := fun v H H' t f ⟨r, row, h1, h2, h3⟩ => ⟨r, row, h1, f.tups t _ _ h2, h3⟩
def numW : V → Hp → Prop := fun v _ => ∃ i, v = .int i ∧ i.natAbs < 10 ^ 31
theorem tr_pair {tp : Addr} {ta tb : TE} {σ : L2.St} {H : Hp} (a : Tr tp ta σ H numW) (b : ∀ H1, Taped tp H H1 → Tr tp tb σ H1 RowW) : Tr tp (tTup (tCons ta (tCons tb tNil))) σ H fun v H' => ∃ e, v = .ref e ∧ WEnt H' e := fun Q k => a _ fun x H1 d1 ⟨i, e1, hi⟩ => b H1 d1 _ fun y H2 d2 ⟨r, row, e2, h2, h3, h4⟩ => by
  subst e1
  subst e2
  refine ⟨(by show 2 ≤ sizeLine; decide), fun t nt => ?_⟩
  have st := same_upd (o := .tup [.int i, .ref r]) nt
  exact k _ _ ((d1.trans d2).same st) ⟨t, rfl, (i, row), ⟨r, upd_same, st _ _ h2⟩, ⟨hi, h3, h4⟩⟩
theorem tr_one {tp : Addr} {ta : TE} {σ : L2.St} {H : Hp} (a : Tr tp ta σ H fun v H' => ∃ e, v = .ref e ∧ WEnt H' e) : Tr tp (tLst (tCons ta tNil)) σ H (EntL tp 1) := fun Q k => a _ fun x H1 d1 ⟨e, e1, w⟩ => by
  subst e1
  refine ⟨(by show 1 ≤ sizeLine; decide), fun l nl => ?_⟩
  have st := same_upd (o := .lst [.ref e]) nl
  refine k _ _ (d1.same st) ⟨l, [e], rfl, d1.2.new nl, upd_same, Nat.le_refl _, fun b hb => ?_⟩
  rw [List.mem_singleton.mp hb]
  exact w.mono (tups_same st)
/-! ### wide data -/
structure FineW (d : PyData) (n w : Nat) : Prop where
  lay : d.canLay0 = true
  dep : d.depth ≤ n
  wei : d.weight ≤ w
  sho : d.showable = true
  noD : d.hasDict = false
  sh : d.intsShort 40 = true
structure FineWA (ds : List PyData) (n w : Nat) : Prop where
  lay : PyData.canLayAll0 ds = true
  dep : PyData.depthAll ds ≤ n
  wei : PyData.weightAll ds ≤ w
  sho : PyData.showableAll ds = true
  noD : PyData.hasDictAll ds = false
  sh : PyData.intsShortAll 40 ds = true
theorem FineWA.nil (n : Nat) : FineWA [] n 0 := ⟨rfl, Nat.zero_le _, Nat.le_refl _, rfl, rfl, rfl⟩
theorem FineWA.cons {d : PyData} {ds : List PyData} {n w u : Nat} (h : FineW d n w) (t : FineWA ds n u) : FineWA (d :: ds) n (w + 1 + u) := by
  refine ⟨?_, ?_, ?_, ?_, ?_, ?_⟩
  · simp only [PyData.canLayAll0, h.lay, t.lay, Bool.and_self]
  · have a := h.dep
    have b := t.dep
    simp only [PyData.depthAll]
    omega
  · have a := h.wei
    have b := t.wei
    simp only [PyData.weightAll]
    omega
  · simp only [PyData.showableAll, h.sho, t.sho, Bool.and_self]
  · simp only [PyData.hasDictAll, h.noD, t.noD, Bool.or_self]
  · simp only [PyData.intsShortAll, h.sh, t.sh, Bool.and_self]
theorem FineW.tuple {ds : List PyData} {n w : Nat} (t : FineWA ds n w) : FineW (.tuple ds) (n + 1) w := by
  refine ⟨by simp only [PyData.canLay0]; exact t.lay, ?_, by simp only [PyData.weight]; exact t.wei, by simp only [PyData.showable]; exact t.sho, by simp only [PyData.hasDict]; exact t.noD, by simp only [PyData.intsShort]; exact t.sh⟩
  have a := t.dep
  simp only [PyData.depth]
  omega
theorem FineW.list {ds : List PyData} {n w : Nat} (t : FineWA ds n w) : FineW (.list ds) (n + 1) w := by
  refine ⟨by simp only [PyData.canLay0]; exact t.lay, ?_, by simp only [PyData.weight]; exact t.wei, by simp only [PyData.showable]; exact t.sho, by simp only [PyData.hasDict]; exact t.noD, by simp only [PyData.intsShort]; exact t.sh⟩
  have a := t.dep
  simp only [PyData.depth]
  omega
theorem FineW.mono {d : PyData} {n w n' w' : Nat} (h : FineW d n w) (a : n ≤ n') (b : w ≤ w') : FineW d n' w' := ⟨h.lay, Nat.le_trans h.dep a, Nat.le_trans h.wei b, h.sho, h.noD, h.sh⟩
theorem fineWA_map {α : Type} {f : α → PyData} {n w : Nat} : ∀ (l : List α), (∀ x ∈ l, FineW (f x) n w) → FineWA (l.map f) n (l.length * (w + 1))
  | [], _ => by
    have z := FineWA.nil n
    exact ⟨z.lay, z.dep, Nat.le_trans z.wei (Nat.zero_le _), z.sho, z.noD, z.sh⟩
  | x :: r, h => by
    have t := fineWA_map r fun y hy => h y (List.mem_cons_of_mem _ hy)
    have z := FineWA.cons (h x List.mem_cons_self) t
    refine ⟨z.lay, z.dep, ?_, z.sho, z.noD, z.sh⟩
    have := z.wei
    rw [List.length_cons, Nat.succ_mul]
    show PyData.weightAll (f x :: r.map f) ≤ _
    omega
theorem fineW_int {i : Int} (h : i.natAbs < 10 ^ 31) : FineW (.int i) 1 110 := by
  have hl : i.natAbs.log2 ≤ 102 := by
    by_cases e : i.natAbs = 0
    · rw [e]; decide
    · have := (Nat.log2_lt e).mpr (show i.natAbs < 2 ^ 103 from Nat.lt_trans h (by decide))
      omega
  refine ⟨rfl, by simp [PyData.depth], ?_, ?_, rfl, ?_⟩
  · simp only [PyData.weight]
    split <;> omega
  · simp only [PyData.showable]
    exact decide_eq_true (by omega)
  · have e := PySem.int_text_length_le10 (k := 31) (by decide) h
    show decide ((Str.ofString (toString i)).length ≤ 40) = true
    rw [PySem.ofString_length]
    exact decide_eq_true (by omega)
theorem fineW_small {i : Int} (h0 : -100 < i) (h1 : i < 100) : FineW (.int i) 1 110 := fineW_int (Nat.lt_trans (show i.natAbs < 100 by omega) (by decide))
theorem fineW_row {r : List Int} (h : ∀ z ∈ r, -100 < z ∧ z < 100) : FineW (rowD r) 2 (r.length * 111) := FineW.tuple (fineWA_map r fun z hz => fineW_small (h z hz).1 (h z hz).2)
theorem fineW_ent {x : Int × List Int} (h : EntW x) : FineW (entD x) 3 1400 := by
  have a := fineW_int h.num
  have b : FineW (rowD x.2) 2 1110 := (fineW_row fun z hz => by have := h.hue z hz; omega).mono (Nat.le_refl _) (by have := h.few; omega)
  exact (FineW.tuple (FineWA.cons (a.mono (by omega) (Nat.le_refl _)) (FineWA.cons b (FineWA.nil _)))).mono (Nat.le_refl _) (by omega)
theorem fineW_log {log : Log} (h : ∀ e ∈ log, EntW e) (hl : log.length ≤ 200) : FineW (logD log) 4 290000 :=
  (FineW.list (fineWA_map log fun x hx => fineW_ent (h x hx))).mono (Nat.le_refl _) (by omega)
theorem FineW.shows {d : PyData} {n w : Nat} (h : FineW d n w) (hw : w ≤ 380000) : d.shown.length ≤ sizeLine := by
  have a := PyData.shown_le 40 (by decide) d (PyData.leavesShort_of_canLay0 40 d h.lay h.sh)
  have b := h.wei
  have c : (40 + 2) * d.weight + 40 ≤ 16000000 := by omega
  exact Nat.le_trans a (Nat.le_trans c (by decide))
theorem FineW.shaped {d : PyData} {n w : Nat} (h : FineW d n w) (hn : n ≤ 64) : SeqAt.shaped d = true := by
  show (d.canLay0 && decide (d.depth ≤ 64)) = true
  rw [h.lay, decide_eq_true (Nat.le_trans h.dep hn)]
  rfl
/-- the log that a list of pairs is -/
theorem entL_log {H : Hp} : ∀ {es : List Addr}, (∀ e ∈ es, WEnt H e) → ∃ log : Log, Paired (IsEnt H) es log ∧ ∀ x ∈ log, EntW x
  | [], _ => ⟨[], .nil, fun _ h => nomatch h⟩
  | e :: r, h => by
    obtain ⟨x, a, b⟩ := h e List.mem_cons_self
    obtain ⟨log, c, d⟩ := entL_log (es := r) fun y hy => h y (List.mem_cons_of_mem _ hy)
    refine ⟨x :: log, .cons a c, fun y hy => ?_⟩
    rcases List.mem_cons.mp hy with z | z
    · rw [z]; exact b
    · exact d y z
end Rd
namespace Rd
open PySem PySem.Spec PyProof.Rows L2 Dt
def rNotInT (K : PySem.W.Frag) : R2 := fun x y H Q => ∃ d ds, Dp K H x d ∧ Dp K H y (.tuple ds) ∧ SeqAt.shaped d = true ∧ SeqAt.shaped (.tuple ds) = true ∧ Q (.bl (!ds.any fun z => PyData.eqv z d)) H
theorem op_notInT {X : Cx} (hu : X.A.units + 65 < cLine) : OpR X (compareOp .NotIn) (rNotInT X.K) := by
  intro pins s σ H x y v u Q I rx ry h
  obtain ⟨d, ds, hd, he, sd, se, q⟩ := h
  obtain ⟨as, r1⟩ := Dp.reads I d x v hd rx
  obtain ⟨bs, r2⟩ := Dp.reads I (.tuple ds) y u he ry
  exact SeqAt.notIn_tuple_reads r2 r1 (SeqAt.canLay_of_shaped se) (SeqAt.canLay_of_shaped sd) (room_in_shaped sd hu) ⟨.bl _, H, I, rfl, q⟩
end Rd
namespace Rd
open PySem PySem.Spec PyProof.Rows L2 Dt
theorem one_tr {tp : Addr} {te : TE} {σ : L2.St} {H : Hp} {Φ : V → Hp → Prop} {Q : List V → Hp → Prop} (h : Tr tp te σ H Φ) (k : ∀ v H', Taped tp H H' → Φ v H' → Q [v] H') : tCons te tNil σ H Q := h _ k
/-- a new list of pairs -/
def EntN (tp : Addr) (n : Nat) (H0 : Hp) : V → Hp → Prop := fun v H => EntL tp n v H ∧ ∃ l, v = .ref l ∧ H0 l = none
theorem tr_catN {tp : Addr} {ta tb : TE} {σ : L2.St} {H : Hp} {n m : Nat} (hn : n + m ≤ 1000) (a : Tr tp ta σ H (EntL tp n)) (b : ∀ H1, Taped tp H H1 → Tr tp tb σ H1 (EntL tp m)) : Tr tp (tOp rCat ta tb) σ H (EntN tp (n + m) H) := fun Q k => a _ fun x H1 d1 p1 => b H1 d1 _ fun y H2 d2 p2 => by
  obtain ⟨l, es, rfl, h2, h3, h4, h5⟩ := entL_stays tp n x H1 H2 d1.2 d2 p1
  obtain ⟨l', es', rfl, g2, g3, g4, g5⟩ := p2
  refine ⟨l, l', _, _, rfl, rfl, h3, g3, by rw [List.length_map, List.length_map]; exact Nat.le_of_lt (small1000 (by omega)), fun p np => ?_⟩
  rw [← List.map_append]
  have sp := same_upd (o := .lst ((es ++ es').map V.ref)) np
  refine k _ _ ((d1.trans d2).same sp) ⟨⟨p, es ++ es', rfl, d2.2.new np, upd_same, by rw [List.length_append]; omega, fun e he => ?_⟩, p, rfl, (d1.trans d2).free np⟩
  rcases List.mem_append.mp he with q | q
  · exact (h5 e q).mono (tups_same sp)
  · exact (g5 e q).mono (tups_same sp)
theorem EntN.l {tp : Addr} {n : Nat} {H0 H : Hp} {v : V} (h : EntN tp n H0 v H) : EntL tp n v H := h.1
/-- lists of pairs in a list that is no other one of them -/
structure EntLs (tp : Addr) (n : Nat) (H : Hp) (l : Addr) (vs : List V) : Prop where
  nt : l ≠ tp
  hl : H l = some (.lst vs)
  each : ∀ x ∈ vs, EntL tp n x H ∧ x ≠ .ref l
theorem EntLs.stays {tp : Addr} {n : Nat} {H H' : Hp} {l : Addr} {vs : List V} (h : EntLs tp n H l vs) (t : Tape H tp) (f : Taped tp H H') : EntLs tp n H' l vs := ⟨h.nt, f.1 _ _ h.nt h.hl, fun x hx => ⟨entL_stays tp n x H H' t f (h.each x hx).1, (h.each x hx).2⟩⟩
theorem EntL.put {tp : Addr} {n : Nat} {H : Hp} {l : Addr} {vs : List V} {o : HO} {x : V} (h : EntL tp n x H) (hl : H l = some (.lst vs)) (ne : x ≠ .ref l) : EntL tp n x (upd H l o) := by
  obtain ⟨l', es, rfl, h2, h3, h4, h5⟩ := h
  have n' : l' ≠ l := fun z => ne (by rw [z])
  exact ⟨l', es, rfl, h2, by rw [upd_ne n']; exact h3, h4, fun e he => (h5 e he).mono (tups_upd fun xs z => by rw [hl] at z; cases z)⟩
theorem EntLs.snoc {tp : Addr} {n : Nat} {H : Hp} {l : Addr} {vs : List V} {v : V} (h : EntLs tp n H l vs) (hv : EntL tp n v H) (ne : v ≠ .ref l) : EntLs tp n (upd H l (.lst (vs ++ [v]))) l (vs ++ [v]) := by
  refine ⟨h.nt, upd_same, fun x hx => ?_⟩
  rcases List.mem_append.mp hx with z | z
  · exact ⟨(h.each x z).1.put h.hl (h.each x z).2, (h.each x z).2⟩
  · rw [List.mem_singleton.mp z]
    exact ⟨hv.put h.hl ne, ne⟩
theorem tr_rowcat {K : PySem.W.Frag} {tp : Addr} {ta tb : TE} {σ : L2.St} {H : Hp} {n m : Nat} (hn : n + m ≤ 10) (a : Tr tp ta σ H fun v H' => ∃ (r : Addr) (row : List Int), v = .ref r ∧ IsRow H' r row ∧ row.length ≤ n ∧ ∀ z ∈ row, -10 < z ∧ z < 10) (b : ∀ H1, Taped tp H H1 → Tr tp tb σ H1 fun v H' => ∃ (r : Addr) (row : List Int), v = .ref r ∧ IsRow H' r row ∧ row.length ≤ m ∧ ∀ z ∈ row, -10 < z ∧ z < 10) : Tr tp (tOp (rCatA K) ta tb) σ H RowW := fun Q k => a _ fun x H1 d1 ⟨r, row, e1, h1, h2, h3⟩ => b H1 d1 _ fun y H2 d2 ⟨r', row', e2, g1, g2, g3⟩ => by
  subst e1
  subst e2
  have h1' : IsRow H2 r row := d2.tups d1.2 _ _ h1
  have d12 := d1.trans d2
  have hb : ∀ z ∈ row ++ row', -10 < z ∧ z < 10 := fun z hz => by
    rcases List.mem_append.mp hz with q | q
    · exact h3 z q
    · exact g3 z q
  refine ⟨r, r', _, _, rfl, rfl, .inl (.inl h1'), .inl (.inl g1), by rw [List.length_map, List.length_map]; exact Nat.le_of_lt (small1000 (by omega)), fun z => ?_, fun _ z => ?_, fun _ _ p np => ?_⟩
  · exact k _ _ d12 ⟨r', row', rfl, g1, by omega, g3⟩
  · exact k _ _ d12 ⟨r, row, rfl, h1', by omega, h3⟩
  · have sp := same_upd (o := .tup (row.map V.int ++ row'.map V.int)) np
    exact k _ _ (d12.same sp) ⟨p, row ++ row', rfl, by show upd _ p _ p = _; rw [upd_same, List.map_append], by rw [List.length_append]; omega, hb⟩
end Rd
namespace Rd
open PySem PySem.Spec PyProof.Rows L2 Dt
/-- pairs, one after the other -/
def EntA (tp : Addr) (m : Nat) (ta : TA) (σ : L2.St) (H : Hp) : Prop := ∀ Q : List V → Hp → Prop, (∀ (es : List Addr) H', Taped tp H H' → es.length = m → (∀ e ∈ es, WEnt H' e) → Q (es.map V.ref) H') → ta σ H Q
theorem enta_nil {tp : Addr} {σ : L2.St} {H : Hp} (t : Tape H tp) : EntA tp 0 tNil σ H := fun Q k => k [] H (Taped.refl t) rfl fun _ h => nomatch h
theorem enta_cons {tp : Addr} {m : Nat} {te : TE} {ta : TA} {σ : L2.St} {H : Hp} (a : Tr tp te σ H fun v H' => ∃ e, v = .ref e ∧ WEnt H' e) (b : ∀ H1, Taped tp H H1 → EntA tp m ta σ H1) : EntA tp (m + 1) (tCons te ta) σ H := fun Q k => a _ fun v H1 d1 ⟨e, ev, w⟩ => b H1 d1 _ fun es H2 d2 hl hw => by
  subst ev
  refine k (e :: es) H2 (d1.trans d2) (by rw [List.length_cons, hl]) fun x hx => ?_
  rcases List.mem_cons.mp hx with z | z
  · rw [z]; exact w.mono (d2.tups d1.2)
  · exact hw x z
theorem tr_ents {tp : Addr} {m : Nat} {ta : TA} {σ : L2.St} {H : Hp} (hm : m ≤ 1000) (a : EntA tp m ta σ H) : Tr tp (tLst ta) σ H (EntN tp m H) := fun Q k => a _ fun es H1 d1 hl hw => by
  refine ⟨by rw [List.length_map, hl]; exact Nat.le_of_lt (small1000 hm), fun l nl => ?_⟩
  have sl := same_upd (o := .lst (es.map V.ref)) nl
  exact k _ _ (d1.same sl) ⟨⟨l, es, rfl, d1.2.new nl, upd_same, by omega, fun e he => (hw e he).mono (tups_same sl)⟩, l, rfl, d1.free nl⟩
/-- a row of at most so many -/
def RowN (n : Nat) : V → Hp → Prop := fun v H => ∃ (r : Addr) (row : List Int), v = .ref r ∧ IsRow H r row ∧ row.length ≤ n ∧ ∀ z ∈ row, -10 < z ∧ z < 10
theorem rowN_stays (tp : Addr) (n : Nat) : Stays tp (RowN n) := fun v H H' t f ⟨r, row, h1, h2, h3⟩ => ⟨r, row, h1, f.tups t _ _ h2, h3⟩
theorem RowN.w {n : Nat} {v : V} {H : Hp} (h : RowN n v H) (hn : n ≤ 10) : RowW v H := let ⟨r, row, h1, h2, h3, h4⟩ := h; ⟨r, row, h1, h2, by omega, h4⟩
theorem tr_slrow {K : PySem.W.Frag} {tp : Addr} {ta : TE} {tl th : TO} {σ : L2.St} {H : Hp} {n : Nat} (a : Tr tp ta σ H (RowN n)) (b : ∀ H1, Taped tp H H1 → TrO tp tl σ H1) (c : ∀ H1, Taped tp H H1 → TrO tp th σ H1) : Tr tp (tSl (rSlA K) ta tl th) σ H (RowN n) := fun Q k => a _ fun x H1 d1 p1 => b H1 d1 _ fun lo H2 d2 => c H2 (d1.trans d2) _ fun hi H3 d3 => by
  obtain ⟨r, row, rfl, h2, h3, h4⟩ := rowN_stays tp n x H1 H3 d1.2 (d2.trans d3) p1
  obtain ⟨row', e1, e2, e3⟩ := cut_mem (f := V.int) (l := row) (lo := lo) (hi := hi)
  have d := d1.trans (d2.trans d3)
  refine ⟨r, _, rfl, .inl (.inl h2), fun _ => k _ _ d ⟨r, row, rfl, h2, h3, h4⟩, fun _ p np => ?_⟩
  rw [e1]
  exact k _ _ (d.same (same_upd np)) ⟨p, row', rfl, upd_same, by omega, fun z hz => h4 z (e3 z hz)⟩
theorem tr_rowcatN {K : PySem.W.Frag} {tp : Addr} {ta tb : TE} {σ : L2.St} {H : Hp} {n m : Nat} (hn : n + m ≤ 10) (a : Tr tp ta σ H (RowN n)) (b : ∀ H1, Taped tp H H1 → Tr tp tb σ H1 (RowN m)) : Tr tp (tOp (rCatA K) ta tb) σ H RowW := tr_rowcat hn a b
theorem tr_tup1 {tp : Addr} {ta : TE} {σ : L2.St} {H : Hp} (a : Tr tp ta σ H fun v _ => ∃ i, v = .int i ∧ -10 < i ∧ i < 10) : Tr tp (tTup (tCons ta tNil)) σ H (RowN 1) := fun Q k => a _ fun v H1 d1 ⟨i, e, i0, i1⟩ => by
  subst e
  refine ⟨(by show 1 ≤ sizeLine; decide), fun t nt => ?_⟩
  exact k _ _ (d1.same (same_upd nt)) ⟨t, [i], rfl, upd_same, Nat.le_refl _, fun z hz => by rw [List.mem_singleton.mp hz]; exact ⟨i0, i1⟩⟩
theorem tr_tup0 {tp : Addr} {σ : L2.St} {H : Hp} (t : Tape H tp) : Tr tp (tTup tNil) σ H (RowN 0) := fun Q k => by
  refine ⟨(by show 0 ≤ sizeLine; decide), fun p np => ?_⟩
  exact k _ _ ((Taped.refl t).same (same_upd np)) ⟨p, [], rfl, upd_same, Nat.le_refl _, fun _ h => nomatch h⟩
theorem tr_neg {tp : Addr} {c : Int} {σ : L2.St} {H : Hp} {Φ : V → Hp → Prop} (t : Tape H tp) (p : Φ (.int (-c)) H) : Tr tp (tUn (rU fun i => .int (-i)) (tC (.int c))) σ H Φ := fun Q k => ⟨c, rfl, k _ _ (Taped.refl t) p⟩
end Rd
namespace Rd
open PySem PySem.Spec PyProof.Rows L2 Dt
/-- a list of pairs, one at least, new since H -/
def SomeAt (H : Hp) (c : Nat) : V → Hp → Prop := fun v Hc => ∃ (l : Addr) (es : List Addr), v = .ref l ∧ H l = none ∧ Hc l = some (.lst (es.map V.ref)) ∧ 1 ≤ es.length ∧ es.length ≤ c ∧ ∀ e ∈ es, WEnt Hc e
theorem some_stays {tp : Addr} {H Hc Hd : Hp} {c : Nat} {v : V} (t : Tape H tp) (tc : Tape Hc tp) (d : Taped tp Hc Hd) (h : SomeAt H c v Hc) : SomeAt H c v Hd := by
  obtain ⟨l, es, h1, h2, h3, h4, h5, h6⟩ := h
  exact ⟨l, es, h1, h2, d.1 _ _ (t.new h2) h3, h4, h5, fun e he => (h6 e he).mono (d.tups tc)⟩
theorem SomeAt.up {H Hc : Hp} {c c' : Nat} {v : V} (h : SomeAt H c v Hc) (k : c ≤ c') : SomeAt H c' v Hc := let ⟨l, es, h1, h2, h3, h4, h5, h6⟩ := h; ⟨l, es, h1, h2, h3, h4, Nat.le_trans h5 k, h6⟩
theorem tr_some {tp : Addr} {m : Nat} {ta : TA} {σ : L2.St} {H Hc : Hp} (hm : m + 1 ≤ 1000) (dc : Taped tp H Hc) (a : EntA tp (m + 1) ta σ Hc) : Tr tp (tLst ta) σ Hc (SomeAt H (m + 1)) := fun Q k => a _ fun es H1 d1 hl hw => by
  refine ⟨by rw [List.length_map, hl]; exact Nat.le_of_lt (small1000 hm), fun l nl => ?_⟩
  have sl := same_upd (o := .lst (es.map V.ref)) nl
  exact k _ _ (d1.same sl) ⟨l, es, rfl, dc.free (d1.free nl), upd_same, by omega, by omega, fun e he => (hw e he).mono (tups_same sl)⟩
theorem some_cat {tp : Addr} {tb : TE} {i : Nat} {σ : L2.St} {H Hc : Hp} {c m : Nat} {v : V} (t : Tape H tp) (dc : Taped tp H Hc) (hσ : σ[i]? = some (some v)) (hs : SomeAt H c v Hc) (hn : c + m ≤ 1000) (b : ∀ H1, Taped tp Hc H1 → Tr tp tb σ H1 (EntL tp m)) : Tr tp (tOp rCat (tVar i) tb) σ Hc (SomeAt H (c + m)) := fun Q k => ⟨v, hσ, b Hc (Taped.refl dc.2) _ fun y H2 d2 p2 => by
  obtain ⟨l, es, rfl, h2, h3, h4, h5, h6⟩ := some_stays t dc.2 d2 hs
  obtain ⟨l', es', rfl, g2, g3, g4, g5⟩ := p2
  refine ⟨l, l', _, _, rfl, rfl, h3, g3, by rw [List.length_map, List.length_map]; exact Nat.le_of_lt (small1000 (by omega)), fun p np => ?_⟩
  rw [← List.map_append]
  have sp := same_upd (o := .lst ((es ++ es').map V.ref)) np
  refine k _ _ (d2.same sp) ⟨p, es ++ es', rfl, dc.free (d2.free np), upd_same, by rw [List.length_append]; omega, by rw [List.length_append]; omega, fun e he => ?_⟩
  rcases List.mem_append.mp he with q | q
  · exact (h6 e q).mono (tups_same sp)
  · exact (g5 e q).mono (tups_same sp)⟩
end Rd

set_option Elab.async false
set_option linter.all false
set_option maxRecDepth 100000
set_option maxHeartbeats 4000000
/-! how large a thing's repr is; expressions that make things -/
namespace Rd
open PySem PySem.Spec PyProof.Rows L2 Dt
structure FX (d : PyData) (n w : Nat) : Prop where
  dep : d.depth ≤ n
  sho : d.showable = true
  sh : d.leavesShort 60 = true
  blk : d.bulk ≤ w
structure FXA (ds : List PyData) (n w : Nat) : Prop where
  dep : PyData.depthAll ds ≤ n
  sho : PyData.showableAll ds = true
  sh : PyData.leavesShortAll 60 ds = true
  blk : PyData.bulkAll ds ≤ w
theorem FX.mono {d : PyData} {n w n' w' : Nat} (h : FX d n w) (a : n ≤ n') (b : w ≤ w') : FX d n' w' := ⟨Nat.le_trans h.dep a, h.sho, h.sh, Nat.le_trans h.blk b⟩
theorem FXA.mono {ds : List PyData} {n w n' w' : Nat} (h : FXA ds n w) (a : n ≤ n') (b : w ≤ w') : FXA ds n' w' := ⟨Nat.le_trans h.dep a, h.sho, h.sh, Nat.le_trans h.blk b⟩
theorem FXA.nil (n : Nat) : FXA [] n 0 := ⟨Nat.zero_le _, rfl, rfl, Nat.le_refl _⟩
theorem FXA.cons {d : PyData} {ds : List PyData} {n w u : Nat} (h : FX d n w) (t : FXA ds n u) : FXA (d :: ds) n (w + 1 + u) := by
  refine ⟨?_, ?_, ?_, ?_⟩
  · have a := h.dep
    have b := t.dep
    simp only [PyData.depthAll]
    omega
  · simp only [PyData.showableAll, h.sho, t.sho, Bool.and_self]
  · simp only [PyData.leavesShortAll, h.sh, t.sh, Bool.and_self]
  · have a := h.blk
    have b := t.blk
    simp only [PyData.bulkAll]
    omega
theorem FX.list {ds : List PyData} {n w : Nat} (t : FXA ds n w) : FX (.list ds) (n + 1) w := by
  refine ⟨?_, by simp only [PyData.showable]; exact t.sho, by simp only [PyData.leavesShort]; exact t.sh, by simp only [PyData.bulk]; exact t.blk⟩
  have a := t.dep
  simp only [PyData.depth]
  omega
theorem FX.tuple {ds : List PyData} {n w : Nat} (t : FXA ds n w) : FX (.tuple ds) (n + 1) w := by
  refine ⟨?_, by simp only [PyData.showable]; exact t.sho, by simp only [PyData.leavesShort]; exact t.sh, by simp only [PyData.bulk]; exact t.blk⟩
  have a := t.dep
  simp only [PyData.depth]
  omega
theorem FX.list' {ds : List PyData} {n w : Nat} (t : FX (.list ds) n w) : FXA ds n w := by
  refine ⟨?_, by have := t.sho; simpa only [PyData.showable] using this, by have := t.sh; simpa only [PyData.leavesShort] using this, by have := t.blk; simpa only [PyData.bulk] using this⟩
  have a := t.dep
  simp only [PyData.depth] at a
  omega
theorem FX.tuple' {ds : List PyData} {n w : Nat} (t : FX (.tuple ds) n w) : FXA ds n w := by
  refine ⟨?_, by have := t.sho; simpa only [PyData.showable] using this, by have := t.sh; simpa only [PyData.leavesShort] using this, by have := t.blk; simpa only [PyData.bulk] using this⟩
  have a := t.dep
  simp only [PyData.depth] at a
  omega
theorem FX.tuple1 {ds : List PyData} {n w : Nat} (t : FX (.tuple ds) (n + 1) w) : FXA ds n w := by
  have z := t.tuple'
  have a := t.dep
  simp only [PyData.depth] at a
  exact ⟨by omega, z.sho, z.sh, z.blk⟩
theorem FX.list1 {ds : List PyData} {n w : Nat} (t : FX (.list ds) (n + 1) w) : FXA ds n w := by
  have z := t.list'
  have a := t.dep
  simp only [PyData.depth] at a
  exact ⟨by omega, z.sho, z.sh, z.blk⟩
theorem FXA.un {d : PyData} {ds : List PyData} {n w : Nat} (h : FXA (d :: ds) n w) : FX d n (d.bulk) ∧ FXA ds n (PyData.bulkAll ds) ∧ d.bulk + 1 + PyData.bulkAll ds ≤ w := by
  have a := h.dep
  have b := h.sho
  have c := h.sh
  have e := h.blk
  simp only [PyData.depthAll] at a
  simp only [PyData.showableAll, Bool.and_eq_true] at b
  simp only [PyData.leavesShortAll, Bool.and_eq_true] at c
  simp only [PyData.bulkAll] at e
  exact ⟨⟨by omega, b.1, c.1, Nat.le_refl _⟩, ⟨by omega, b.2, c.2, Nat.le_refl _⟩, e⟩
theorem FXA.get {n : Nat} : ∀ {ds : List PyData} {w : Nat} {i : Nat} {d : PyData}, FXA ds n w → ds[i]? = some d → FX d n w
  | d :: ds, w, 0, _, h, e => by
    cases e
    obtain ⟨a, b, c⟩ := h.un
    exact a.mono (Nat.le_refl _) (by omega)
  | d :: ds, w, i + 1, x, h, e => by
    obtain ⟨a, b, c⟩ := h.un
    exact (b.get (i := i) e).mono (Nat.le_refl _) (by omega)
theorem FXA.mem {n w : Nat} {ds : List PyData} {d : PyData} (h : FXA ds n w) (m : d ∈ ds) : FX d n w := by
  obtain ⟨i, hi⟩ := List.getElem?_of_mem m
  exact h.get hi
theorem FXA.append {n : Nat} : ∀ {ds es : List PyData} {w u : Nat}, FXA ds n w → FXA es n u → FXA (ds ++ es) n (w + u)
  | [], _, _, _, _, h => h.mono (Nat.le_refl _) (by omega)
  | d :: ds, es, w, u, h, t => by
    obtain ⟨a, b, c⟩ := h.un
    exact (FXA.cons a (b.append t)).mono (Nat.le_refl _) (by omega)
theorem FXA.take {n : Nat} : ∀ {ds : List PyData} {w : Nat} (k : Nat), FXA ds n w → FXA (ds.take k) n w
  | _, _, 0, _ => (FXA.nil n).mono (Nat.le_refl _) (Nat.zero_le _)
  | [], _, _ + 1, _ => (FXA.nil n).mono (Nat.le_refl _) (Nat.zero_le _)
  | d :: ds, w, k + 1, h => by
    obtain ⟨a, b, c⟩ := h.un
    exact (FXA.cons a (b.take k)).mono (Nat.le_refl _) (by omega)
theorem FXA.drop {n : Nat} : ∀ {ds : List PyData} {w : Nat} (k : Nat), FXA ds n w → FXA (ds.drop k) n w
  | _, _, 0, h => h
  | [], _, _ + 1, h => h
  | d :: ds, w, k + 1, h => by
    obtain ⟨a, b, c⟩ := h.un
    exact (b.drop k).mono (Nat.le_refl _) (by omega)
theorem FXA.map {α : Type} {f : α → PyData} {n w : Nat} : ∀ (l : List α), (∀ x ∈ l, FX (f x) n w) → FXA (l.map f) n (l.length * (w + 1))
  | [], _ => (FXA.nil n).mono (Nat.le_refl _) (Nat.zero_le _)
  | x :: r, h => by
    have z := FXA.cons (h x List.mem_cons_self) (FXA.map r fun y hy => h y (List.mem_cons_of_mem _ hy))
    refine z.mono (Nat.le_refl _) ?_
    rw [List.length_cons, Nat.succ_mul]
    omega
theorem FX.int {i : Int} (h : i.natAbs < 10 ^ 55) : FX (.int i) 0 0 := by
  have hl : i.natAbs.log2 ≤ 183 := by
    by_cases e : i.natAbs = 0
    · rw [e]; decide
    · have := (Nat.log2_lt e).mpr (show i.natAbs < 2 ^ 184 from Nat.lt_trans h (by decide))
      omega
  refine ⟨by simp [PyData.depth], ?_, ?_, by simp only [PyData.bulk]; exact Nat.le_refl _⟩
  · simp only [PyData.showable]
    exact decide_eq_true (by omega)
  · have e := PySem.int_text_length_le10 (k := 55) (by decide) h
    show decide ((Str.ofString (toString i)).length ≤ 60) = true
    rw [PySem.ofString_length]
    exact decide_eq_true (by omega)
theorem FX.non : FX .none 0 0 := ⟨by simp [PyData.depth], rfl, rfl, by simp [PyData.bulk]⟩
theorem FX.bl (b : Bool) : FX (.bool b) 0 0 := ⟨by simp [PyData.depth], rfl, rfl, by simp [PyData.bulk]⟩
theorem FX.str {z : Str} {w : Nat} (h : z.cps.size ≤ w) (c : ∀ x ∈ z.cps.toList, x < 1114112) : FX (.str z) 0 w :=
  ⟨by simp [PyData.depth], rfl, by
    show (z.cps.toList.all fun c => decide (c < 16 ^ 8)) = true
    rw [List.all_eq_true]
    exact fun x hx => decide_eq_true (Nat.lt_trans (c x hx) (by decide)), by simp only [PyData.bulk]; exact h⟩
theorem FX.d0 : FX (.dict []) 2 0 := ⟨by decide, by decide, by decide, by decide⟩
theorem FX.d1 : FX (.dict [(.int 0, .int 0)]) 3 2 := ⟨by decide +kernel, by decide +kernel, by decide +kernel, by decide +kernel⟩
theorem FX.d2 : FX (.dict [(.tuple [.int 0], .int 0)]) 4 3 := ⟨by decide +kernel, by decide +kernel, by decide +kernel, by decide +kernel⟩
theorem FX.shows {d : PyData} {n w : Nat} (h : FX d n w) (hw : w ≤ 200000) : d.shown.length ≤ sizeLine := by
  have a := PyData.shown_le_bulk 60 (by decide) d h.sh
  have b := h.blk
  have c : (60 + 2) * d.bulk + 60 ≤ 16000000 := by omega
  exact Nat.le_trans a (Nat.le_trans c (by decide))
theorem FX.ints {ns : List Int} (h : ∀ z ∈ ns, z.natAbs < 10 ^ 55) : FXA (ns.map .int) 0 ns.length := (FXA.map ns fun z hz => FX.int (h z hz)).mono (Nat.le_refl _) (by omega)
/-! ### expressions that make things -/
/-- te makes d, whatever stood where H0 stood -/
def TEn (Av : Addr → Prop) (te : TE) (σ : L2.St) (H0 : Hp) (d : PyData) : Prop := ∀ (H : Hp) (Q : VK), Same H0 H → (∀ H' v, Same H H' → An Av H' v d → Q v H') → te σ H Q
def TAn (Av : Addr → Prop) (t : TA) (σ : L2.St) (H0 : Hp) (ds : List PyData) : Prop := ∀ (H : Hp) (R : List V → Hp → Prop), Same H0 H → (∀ H' vs, Same H H' → AnAll Av H' vs ds → R vs H') → t σ H R
theorem Drawn.noTb {Av : Addr → Prop} {wl cl : Addr} {H H' : Hp} (D : Drawn wl cl H H') (w : Well H wl cl) (a : Av wl) (c : Av cl) : NoTb Av H H' := fun b o _ m e => by
  obtain ⟨_, _, _, h1, h2, _⟩ := w
  refine D.1 b o (fun z => m ?_) (fun z => m ?_) e
  · rw [z, h1] at e
    exact ⟨_, (Option.some.inj e).symm, by rw [z]; exact a⟩
  · rw [z, h2] at e
    exact ⟨_, (Option.some.inj e).symm, by rw [z]; exact c⟩
section
variable {Av : Addr → Prop} {σ : L2.St} {H0 : Hp} {te : TE} {t : TA} {d : PyData} {ds : List PyData}
theorem ten_int (i : Int) : TEn Av (tC (.int i)) σ H0 (.int i) := fun H Q _ q => q H _ (Same.refl H) (.int i)
theorem ten_str (z : Str) : TEn Av (tC (.str z)) σ H0 (.str z) := fun H Q _ q => q H _ (Same.refl H) (.str z)
theorem ten_bl (b : Bool) : TEn Av (tC (.bl b)) σ H0 (.bool b) := fun H Q _ q => q H _ (Same.refl H) (.bl b)
theorem ten_non : TEn Av (tC .non) σ H0 .none := fun H Q _ q => q H _ (Same.refl H) .non
theorem ten_var {i : Nat} {v : V} (e : σ[i]? = some (some v)) (a : An Av H0 v d) : TEn Av (tVar i) σ H0 d := fun H Q s q => ⟨v, e, q H v (Same.refl H) (a.up (NoTb.same s))⟩
theorem tan_nil : TAn Av tNil σ H0 [] := fun H R _ q => q H [] (Same.refl H) .nil
theorem tan_cons (a : TEn Av te σ H0 d) (b : TAn Av t σ H0 ds) : TAn Av (tCons te t) σ H0 (d :: ds) := fun H R s q => a H _ s fun H1 v s1 av => b H1 _ (s.trans s1) fun H2 vs s2 avs => q H2 (v :: vs) (s1.trans s2) (.cons (av.up (NoTb.same s2)) avs)
theorem ten_tup (b : TAn Av t σ H0 ds) (l : ds.length ≤ 1000) : TEn Av (tTup t) σ H0 (.tuple ds) := fun H Q s q => b H _ s fun H1 vs s1 avs => ⟨by rw [avs.len]; exact Nat.le_of_lt (small1000 l), fun p np => q _ _ (s1.trans (same_upd np)) (.tup upd_same (avs.up (NoTb.same (same_upd np))))⟩
theorem ten_lst (av : ∀ b, Av b → Old H0 b) (b : TAn Av t σ H0 ds) (l : ds.length ≤ 1000) : TEn Av (tLst t) σ H0 (.list ds) := fun H Q s q => b H _ s fun H1 vs s1 avs => ⟨by rw [avs.len]; exact Nat.le_of_lt (small1000 l), fun p np => q _ _ (s1.trans (same_upd np)) (.lst upd_same (fun z => av p z ((s.trans s1).free np)) (avs.up (NoTb.same (same_upd np))))⟩
theorem ten_d0 : TEn Av tDNewK σ H0 (.dict []) := fun H Q s q => fun p np => q _ _ (same_upd np) (.dct (.e upd_same))
theorem ten_d1 : TEn Av (tDisp [(tC (.int 0), tC (.int 0))]) σ H0 (.dict [(.int 0, .int 0)]) := fun H Q s q => fun p np => by
  refine ⟨upd_same, [(.inl 0, .int 0)], rfl, (by show 1 ≤ 15; decide), ?_⟩
  have e : upd (upd H p (.dK [])) p (.dK (mergeK [] [((Sum.inl 0 : Key), V.int 0)])) = upd H p (.dK [(.inl 0, .int 0)]) := upd_upd
  rw [e]
  exact q _ _ (same_upd np) (.dct (.n upd_same))
end
end Rd

set_option Elab.async false
set_option linter.all false
set_option maxRecDepth 100000
set_option maxHeartbeats 4000000
/-! numbers beside truths: less, minus -/
namespace Rd
open PySem PySem.Spec PyProof.Rows L2 Dt
def bI (b : Bool) : Int := if b = true then 1 else 0
theorem lt_bi_gives (a : Bool) (b : Int) (u : Tok) : Gives (Builtin.«int.__lt__» ⟨[.bool a, .int b u], []⟩) (.val (.bool (decide (bI a < b)))) :=
  Gives.of_wp (by
    intro _ _ _ s0 _ hq
    rcases s0 with ⟨h0, g0, d0, t0, o0⟩
    wp_walk
    exact ⟨_, rfl, hq⟩)
theorem gt_bi_gives (a : Bool) (b : Int) (u : Tok) : Gives (Builtin.«int.__gt__» ⟨[.bool a, .int b u], []⟩) (.val (.bool (decide (b < bI a)))) :=
  Gives.of_wp (by
    intro _ _ _ s0 _ hq
    rcases s0 with ⟨h0, g0, d0, t0, o0⟩
    wp_walk
    exact ⟨_, rfl, hq⟩)
section
variable {prog : Program} {w : World} {A : Around} {E : Value → Shared → Prop} {s : Shared} {Q : Value → Shared → Prop}
theorem lt_bool_int {a : Bool} {b : Int} {u : Tok} (h : Q (.bool (decide (bI a < b))) s) : wpAny (model prog w) A (compareOp .Lt (.bool a) (.int b u)) Q E s := by
  show wpAny (model prog w) A (richCompare .Lt (.bool a) (.int b u)) Q E s
  refine SeqAt.rc_left_or (Ta := "bool") (Tb := "int") (id := "int.__lt__") rfl (typeIs_int s b u) (by decide) F.sub_int_bool F.slot_bool_lt ?_ (.inl rfl)
  exact call_gives F.slot_bool_lt rfl F.entry_int_lt (F.args_int_lt_2 _ _) (lt_bi_gives a b u) ⟨nofun, h⟩
theorem lt_int_bool {a : Int} {t : Tok} {b : Bool} (h : Q (.bool (decide (a < bI b))) s) : wpAny (model prog w) A (compareOp .Lt (.int a t) (.bool b)) Q E s := by
  show wpAny (model prog w) A (richCompare .Lt (.int a t) (.bool b)) Q E s
  refine SeqAt.rc_sub_first_or (Ta := "int") (Tb := "bool") (id := "int.__gt__") (typeIs_int s a t) rfl (by decide) F.sub_bool_int F.slot_bool_gt_refl ?_ (.inl rfl)
  exact call_gives F.slot_bool_gt_refl rfl F.entry_int_gt (F.args_int_gt_2 _ _) (gt_bi_gives b a t) ⟨nofun, h⟩
end
/-- a number or a truth, as a number -/
def NumV (v : V) (i : Int) : Prop := v = .int i ∨ ∃ b, v = .bl b ∧ i = bI b
def rLtB : R2 := fun x y H Q => ∃ i j, (x = .int i ∧ NumV y j ∨ NumV x i ∧ y = .int j) ∧ Q (.bl (decide (i < j))) H
theorem op_ltB {X : Cx} : OpR X (compareOp .Lt) rLtB := by
  intro pins s σ H x y v u Q I rx ry h
  obtain ⟨i, j, h, q⟩ := h
  have both : x = .int i → y = .int j → wpAny (model X.prog X.w) X.A (compareOp .Lt v u) (EP X pins σ Q) X.xe s := fun hx hy => by
    subst hx hy
    exact op_lt pins s σ H _ _ v u Q I rx ry ⟨i, j, rfl, rfl, q⟩
  rcases h with ⟨hx, hy | ⟨b, rfl, rfl⟩⟩ | ⟨hx | ⟨b, rfl, rfl⟩, hy⟩
  · exact both hx hy
  · subst hx
    obtain ⟨t, rfl⟩ := rx
    cases (show u = Value.bool b from ry)
    exact lt_int_bool ⟨.bl _, H, I, rfl, q⟩
  · exact both hx hy
  · subst hy
    obtain ⟨t, rfl⟩ := ry
    cases (show v = Value.bool b from rx)
    exact lt_bool_int ⟨.bl _, H, I, rfl, q⟩
def rSubB : R2 := fun x y H Q => ∃ i j, NumV x i ∧ y = .int j ∧ Q (.int (i - j)) H
theorem op_subB {X : Cx} : OpR X (binaryOp .Sub) rSubB := by
  intro pins s σ H x y v u Q I rx ry h
  obtain ⟨i, j, hx | ⟨b, rfl, rfl⟩, rfl, q⟩ := h
  · subst hx
    exact op_sub pins s σ H _ _ v u Q I rx ry ⟨i, j, rfl, rfl, q⟩
  · obtain ⟨t, rfl⟩ := ry
    cases (show v = Value.bool b from rx)
    exact PySem.IntBool.sub_bool_int ⟨.int (bI b - j), H, I.tok _, ⟨_, rfl⟩, q⟩
end Rd

set_option Elab.async false
set_option linter.all false
set_option maxRecDepth 100000
set_option maxHeartbeats 4000000
/-! xs == [] of any list -/
namespace Rd
open PySem PySem.Spec PyProof.Rows L2 Dt
def rEqE (K : PySem.W.Frag) : R2 := fun x y H Q => ∃ (a b : Addr) (xs : List V), x = .ref a ∧ y = .ref b ∧ SqL K H a xs ∧ SqL K H b [] ∧ Q (.bl xs.isEmpty) H
theorem op_eqE {X : Cx} (hu : X.A.units + 64 < cLine) : OpR X (compareOp .Eq) (rEqE X.K) := by
  intro pins s σ H x y v u Q I rx ry h
  obtain ⟨a, b, xs, rfl, rfl, ha, hb, q⟩ := h
  cases rx
  cases ry
  obtain ⟨its, rv, hl, _⟩ := I.list ha
  obtain ⟨its2, rv2, hl2, _⟩ := I.list hb
  have l1 := rv.length
  have l2 := rv2.length
  cases xs with
  | nil =>
    have z1 : its = [] := List.length_eq_zero_iff.mp l1.symm
    have z2 : its2 = [] := List.length_eq_zero_iff.mp l2.symm
    subst z1 z2
    refine PySem.SeqAt.RcAt.lists (e := fun _ => true) hl.isList hl2.isList rfl (by omega) (fun j j1 => absurd j1 (Nat.not_lt_zero j)) _ _ _ _ ⟨.bl _, H, I, rfl, q⟩
  | cons z r =>
    refine PySem.SeqAt.RcAt.lists_lengths hl.isList hl2.isList ?_ (by omega) _ _ _ _ ⟨.bl _, H, I, rfl, q⟩
    rw [List.size_toArray, List.size_toArray, ← l1, ← l2]
    rfl
end Rd

set_option Elab.async false
set_option linter.all false
set_option maxRecDepth 100000
set_option maxHeartbeats 4000000
/-! xs != [] of any list -/
namespace Rd
open PySem PySem.Spec PyProof.Rows L2 Dt
def rNeE (K : PySem.W.Frag) : R2 := fun x y H Q => ∃ (a b : Addr) (xs : List V), x = .ref a ∧ y = .ref b ∧ SqL K H a xs ∧ SqL K H b [] ∧ Q (.bl (!xs.isEmpty)) H
theorem op_neE {X : Cx} (hu : X.A.units + 64 < cLine) : OpR X (compareOp .NotEq) (rNeE X.K) := by
  intro pins s σ H x y v u Q I rx ry h
  obtain ⟨a, b, xs, rfl, rfl, ha, hb, q⟩ := h
  cases rx
  cases ry
  obtain ⟨its, rv, hl, _⟩ := I.list ha
  obtain ⟨its2, rv2, hl2, _⟩ := I.list hb
  have l1 := rv.length
  have l2 := rv2.length
  cases xs with
  | nil =>
    have z1 : its = [] := List.length_eq_zero_iff.mp l1.symm
    have z2 : its2 = [] := List.length_eq_zero_iff.mp l2.symm
    subst z1 z2
    refine PySem.SeqAt.RcNeAt.lists (e := fun _ => true) hl.isList hl2.isList rfl (by omega) (fun j j1 => absurd j1 (Nat.not_lt_zero j)) _ _ _ _ ⟨.bl _, H, I, rfl, q⟩
  | cons z r =>
    refine PySem.SeqAt.RcNeAt.lists_lengths hl.isList hl2.isList ?_ (by omega) _ _ _ _ ⟨.bl _, H, I, rfl, q⟩
    rw [List.size_toArray, List.size_toArray, ← l1, ← l2]
    rfl
end Rd

set_option Elab.async false
set_option linter.all false
set_option maxRecDepth 100000
set_option maxHeartbeats 4000000
/-! the refusals' classes, from one reckoning of the frozen part -/
namespace Rd
open PySem PySem.Spec PyProof.Rows L2 Dt
def okCX (K : PySem.W.Frag) (D T : Addr) : Bool :=
  PySem.W.excIn K D [.type "ValueError", .type "Exception", .type "BaseException", .type "object"] "ValueError.__new__" && PySem.W.keepIn K (.ref D) &&
  (PySem.W.findIn K (.ref D) "__getattribute__" == some (some (.builtin "BaseException.__getattribute__"))) && (PySem.W.findIn K (.ref D) "__getattr__" == some none) &&
  (PySem.W.subIn K (.ref D) (.type "BaseException") == some true) && PySem.W.hasDictIn K D && (PySem.W.findIn K (.ref D) "__class__" == some (some (.builtin "object.__class__"))) &&
  (PySem.W.mroIn K D (.type "object") == some true) && (PySem.W.typeIn K (.ref D) == some (.type "type")) && (PySem.W.exmOne K (.ref D) (.ref T) == some true)
def allOkX (K : PySem.W.Frag) (cs : List Addr) : Bool :=
  (List.range 12).all (fun i => okCX K (cs.getD i 0) (cs.getD 11 0)) && (PySem.W.specialIn K (.builtin "object.__class__") "__get__" == some (some (.builtin "getset_descriptor.__get__"))) && (PySem.W.takesIn K (.builtin "object.__class__") == some true) &&
  (List.range 12).all (fun i => (List.range 11).all fun j => PySem.W.kitOne K (.ref (cs.getD i 0)) (.ref (cs.getD j 0)) == some (decide (i = j))) &&
  (List.range 12).all (fun i => PySem.W.kitOne K (.ref (cs.getD i 0)) (.type "ValueError") == some true)
theorem clsX_of {K : PySem.W.Frag} {h : Heap} {mg : Str → Option Value} {q0 q1 q2 q3 q4 q5 q6 q7 q8 q9 q10 q11 : Addr} (X : K.In h) (G : h.Ns mainGlobals mg)
    (cl0 : PySem.W.nsIn K mainGlobals "NoEnd" = some (some (.ref q0)))
    (cl1 : PySem.W.nsIn K mainGlobals "NoLog" = some (some (.ref q1)))
    (cl2 : PySem.W.nsIn K mainGlobals "NoName" = some (some (.ref q2)))
    (cl3 : PySem.W.nsIn K mainGlobals "NoRow" = some (some (.ref q3)))
    (cl4 : PySem.W.nsIn K mainGlobals "NoStep" = some (some (.ref q4)))
    (cl5 : PySem.W.nsIn K mainGlobals "NoTable" = some (some (.ref q5)))
    (cl6 : PySem.W.nsIn K mainGlobals "NoText" = some (some (.ref q6)))
    (cl7 : PySem.W.nsIn K mainGlobals "NoWish" = some (some (.ref q7)))
    (cl8 : PySem.W.nsIn K mainGlobals "Spent" = some (some (.ref q8)))
    (cl9 : PySem.W.nsIn K mainGlobals "Told" = some (some (.ref q9)))
    (cl10 : PySem.W.nsIn K mainGlobals "TooMany" = some (some (.ref q10)))
    (cl11 : PySem.W.nsIn K mainGlobals "DrawError" = some (some (.ref q11)))
    (zi : mg "isinstance" = none) (zv : mg "ValueError" = none) (hA : allOkX K [q0, q1, q2, q3, q4, q5, q6, q7, q8, q9, q10, q11] = true) : ClsX K mg (fun i => [q0, q1, q2, q3, q4, q5, q6, q7, q8, q9, q10, q11].getD i 0) := by
  unfold allOkX at hA
  simp only [Bool.and_eq_true, List.all_eq_true, List.mem_range, beq_iff_eq] at hA
  obtain ⟨⟨⟨⟨h1, h2⟩, h3⟩, h4⟩, h5⟩ := hA
  have ho : ∀ i, i < 12 → _ := fun i hi => by
    have z := h1 i hi
    unfold okCX at z
    simp only [Bool.and_eq_true, beq_iff_eq] at z
    exact z
  exact { g_NoEnd := PySem.W.mg_of X G cl0, g_NoLog := PySem.W.mg_of X G cl1, g_NoName := PySem.W.mg_of X G cl2, g_NoRow := PySem.W.mg_of X G cl3, g_NoStep := PySem.W.mg_of X G cl4, g_NoTable := PySem.W.mg_of X G cl5, g_NoText := PySem.W.mg_of X G cl6, g_NoWish := PySem.W.mg_of X G cl7, g_Spent := PySem.W.mg_of X G cl8, g_Told := PySem.W.mg_of X G cl9, g_TooMany := PySem.W.mg_of X G cl10, g_DrawError := PySem.W.mg_of X G cl11, m_isinstance := zi, m_ValueError := zv, x := fun i hi => (ho i hi).1.1.1.1.1.1.1.1.1, k := fun i hi => (ho i hi).1.1.1.1.1.1.1.1.2, e := fun i hi => ⟨(ho i hi).1.1.1.1.1.1.1.2, (ho i hi).1.1.1.1.1.1.2, (ho i hi).1.1.1.1.1.2, (ho i hi).1.1.1.1.2, (ho i hi).1.1.1.2, h2, h3, (ho i hi).1.1.2⟩, kit := fun i hi j hj => h4 i hi j hj, kitV := fun i hi => h5 i hi, ty := fun i hi => (ho i hi).1.2, exm := fun i hi => (ho i hi).2 }
end Rd

set_option Elab.async false
set_option linter.all false
set_option maxRecDepth 100000
set_option maxHeartbeats 4000000
/-! the law beside a keeper -/
namespace Rd
open PySem PySem.Spec PyProof.Rows L2 Dt TL
/-- d != {} -/
def rNeD0 : R2 := fun x y H Q => ∃ a b ks, x = .ref a ∧ y = .ref b ∧ H a = some (.dK ks) ∧ H b = some (.dK []) ∧ Q (.bl (!ks.isEmpty)) H
theorem op_neD0 {X : Cx} (hu : X.A.units < cLine) : OpR X (compareOp .NotEq) rNeD0 := by
  intro pins s σ H x y v u Q I rx ry h
  obtain ⟨a, b, ks, rfl, rfl, ea, eb, q⟩ := h
  obtain rfl : v = Value.ref a := rx
  obtain rfl : u = Value.ref b := ry
  obtain ⟨_, ya, va, ra, da⟩ := (show ObjOk X.prog X.w H s.heap a (.dK ks) from I.hok a _ ea)
  obtain ⟨_, yb, vb, rb, db⟩ := (show ObjOk X.prog X.w H s.heap b (.dK []) from I.hok b _ eb)
  have hl : va.length = ks.length := ra.length.symm
  have hl2 : vb.length = 0 := rb.length.symm
  refine PySem.W.keq_ne (knd := mixKind X.prog X.w) (r := true) ya yb da db hu (fun e => hits_all rb ra fun p hp => ?_) (fin_bl I q ?_)
  · have : ks = [] := List.length_eq_zero_iff.mp (by omega)
    rw [this] at hp
    cases hp
  · rw [hl, hl2]
    cases ks <;> simp
/-! ### lists of texts -/
theorem dpStrs {K : PySem.W.Frag} {H : Hp} : ∀ ns : List Str, DpAll K H (ns.map V.str) (ns.map .str)
  | [] => .nil
  | n :: r => .cons (.str n) (dpStrs r)
theorem nm_strOk {n : Str} (h : NmOk n) : PyData.strOk n = true := by
  unfold PyData.strOk
  rw [Array.all_eq_true']
  intro c hc
  have := h.2.2 c (by simpa using hc)
  exact decide_eq_true (by omega)
theorem layStr : ∀ {ns : List Str}, (∀ n ∈ ns, NmOk n) → PyData.canLayAll0 (ns.map PyData.str) = true
  | [], _ => rfl
  | n :: r, h => by
    rw [List.map_cons]
    show (PyData.canLay0 (.str n) && PyData.canLayAll0 (r.map PyData.str)) = true
    rw [layStr fun m hm => h m (List.mem_cons_of_mem _ hm), Bool.and_true]
    exact nm_strOk (h n List.mem_cons_self)
theorem depStr : ∀ ns : List Str, PyData.depthAll (ns.map PyData.str) ≤ 1
  | [] => by simp [PyData.depthAll]
  | _ :: r => by
    have := depStr r
    rw [List.map_cons]
    simp only [PyData.depthAll, PyData.depth]
    omega
theorem shpStr {ns : List Str} (h : ∀ n ∈ ns, NmOk n) : SeqAt.shaped (.list (ns.map PyData.str)) = true := by
  have a := depStr ns
  have d : PyData.depth (.list (ns.map PyData.str)) ≤ 64 := by
    simp only [PyData.depth]
    omega
  have l : PyData.canLay0 (.list (ns.map PyData.str)) = true := by
    simp only [PyData.canLay0]
    exact layStr h
  show (PyData.canLay0 (.list (ns.map PyData.str)) && decide (PyData.depth (.list (ns.map PyData.str)) ≤ 64)) = true
  rw [l, decide_eq_true d]
  rfl
theorem eqvStr {ns : List Str} (h : ∀ n ∈ ns, NmOk n) : PyData.eqv (.list (ns.map PyData.str)) (.list (ns.map PyData.str)) = true := PySem.SeqAt.eqv_refl _ (by
  simp only [PyData.canLay0]
  exact layStr h)
/-- two lists of the same names -/
theorem ne_names {K : PySem.W.Frag} {H : Hp} {a b : Addr} {ns : List Str} {Q : VK} (h : ∀ n ∈ ns, NmOk n) (ha : H a = some (.lst (ns.map V.str))) (hb : H b = some (.lst (ns.map V.str))) (q : Q (.bl false) H) : rNeD K (.ref a) (.ref b) H Q :=
  ⟨_, _, .lst (.inl (.inl ha)) (dpStrs ns), .lst (.inl (.inl hb)) (dpStrs ns), shpStr h, shpStr h, by rw [eqvStr h]; exact q⟩
theorem eq_names {K : PySem.W.Frag} {H : Hp} {a b : Addr} {ns : List Str} {Q : VK} (h : ∀ n ∈ ns, NmOk n) (ha : H a = some (.lst (ns.map V.str))) (hb : H b = some (.lst (ns.map V.str))) (q : Q (.bl true) H) : rEqD K (.ref a) (.ref b) H Q :=
  ⟨_, _, .lst (.inl (.inl ha)) (dpStrs ns), .lst (.inl (.inl hb)) (dpStrs ns), shpStr h, shpStr h, by rw [eqvStr h]; exact q⟩
/-- two tuples of the same ints -/
theorem ne_rows {K : PySem.W.Frag} {H : Hp} {a b : Addr} {r : List Int} {Q : VK} (ha : H a = some (.tup (r.map V.int))) (hb : H b = some (.tup (r.map V.int))) (q : Q (.bl false) H) (sh : SeqAt.shaped (rowD r) = true) (eq : PyData.eqv (rowD r) (rowD r) = true) : rNeD K (.ref a) (.ref b) H Q :=
  ⟨_, _, dpRow ha, dpRow hb, sh, sh, by rw [eq]; exact q⟩
/-! ### the law's side -/
structure LW (C : Addr) (Ps : List Addr) (wl cl sz ta kp ba nm : Addr) (many hues : Int) (tb : List (List Int)) (ns : List Str) (wa hd : Addr) (bd : List Int) (ws : Ws) (H : Hp) : Prop where
  well : Well H wl cl
  tabs : Tabs Ps H
  hsz : H sz = some (.tup [.int many, .int hues])
  tab : IsTab (fun b => b = wl ∨ b = cl ∨ b = ba) H ta tb
  kpr : KpAt C (fun b => b = wl ∨ b = cl) H kp ba wa many hues tb bd ws
  hnm : H nm = some (.lst (ns.map V.str))
  nnm : nm ≠ wl ∧ nm ≠ cl ∧ nm ≠ ba
  ten : TenN ns
  held : IsWs H hd ws
  hne : hd ≠ wa
  sub : ∀ n ∈ nmsOf ws, n ∈ ns
section
variable {C : Addr} {Ps : List Addr} {wl cl sz ta kp ba nm : Addr} {many hues : Int} {tb : List (List Int)} {ns : List Str} {wa hd : Addr} {bd : List Int} {ws : Ws} {H H' : Hp}
theorem well_lst {o : HO} {b : Addr} (h : Well H wl cl) (e : H b = some o) (n : ¬ ∃ xs, o = .lst xs ∧ (b = wl ∨ b = cl)) : b ≠ wl ∧ b ≠ cl := by
  obtain ⟨cs, x, c, h1, h2, hc⟩ := h
  exact ⟨fun z => n (by rw [z, h1] at e; cases e; exact ⟨_, rfl, .inl z⟩), fun z => n (by rw [z, h2] at e; cases e; exact ⟨_, rfl, .inr z⟩)⟩
theorem LW.drawn (h : LW C Ps wl cl sz ta kp ba nm many hues tb ns wa hd bd ws H) (d : Drawn wl cl H H') : LW C Ps wl cl sz ta kp ba nm many hues tb ns wa hd bd ws H' := by
  have k : ∀ b o, ¬ (∃ xs, o = .lst xs ∧ (b = wl ∨ b = cl)) → H b = some o → H' b = some o := fun b o n e => d.1 b o (well_lst h.well e n).1 (well_lst h.well e n).2 e
  refine { h with well := d.2, tabs := d.tabs h.well h.tabs, hsz := d.tups h.well _ _ h.hsz, tab := h.tab.mono fun b xs n e => k b _ (fun ⟨_, _, z⟩ => n (z.elim .inl fun y => .inr (.inl y))) e, kpr := h.kpr.keep fun b o n e => k b o n e, hnm := k nm _ (fun ⟨_, _, z⟩ => z.elim h.nnm.1 h.nnm.2.1) h.hnm, held := h.held.mono (d.tups h.well) fun es e => k hd _ (fun ⟨_, z, _⟩ => nomatch z) e }
theorem LW.frs (h : LW C Ps wl cl sz ta kp ba nm many hues tb ns wa hd bd ws H) (f : FrS Ps H H') : LW C Ps wl cl sz ta kp ba nm many hues tb ns wa hd bd ws H' := by
  have np : ∀ {b : Addr} {o : HO}, H b = some o → (∀ ps, o ≠ .tbl ps) → H' b = some o := fun {b o} e n => f.1 b o (fun z => by
    obtain ⟨ps, q, _⟩ := h.tabs b z
    rw [e] at q
    exact n ps (Option.some.inj q)) e
  exact { h with well := FrS.well h.tabs f h.well, tabs := f.2, hsz := np h.hsz (fun _ z => nomatch z), tab := h.tab.seqs (f.seqs h.tabs), kpr := h.kpr.frs h.tabs f, hnm := np h.hnm (fun _ z => nomatch z), held := h.held.mono (f.tups h.tabs) fun es e => np e (fun _ z => nomatch z) }
theorem LW.same (h : LW C Ps wl cl sz ta kp ba nm many hues tb ns wa hd bd ws H) (s : Same H H') : LW C Ps wl cl sz ta kp ba nm many hues tb ns wa hd bd ws H' := h.frs (FrS.of h.tabs s)
/-- behind a deed of the keeper's -/
theorem LW.kept {wa' hd' : Addr} {bd' : List Int} {ws' : Ws} (h : LW C Ps wl cl sz ta kp ba nm many hues tb ns wa hd bd ws H) (f : FrK Ps kp ba wa H H') (k : KpAt C (fun b => b = wl ∨ b = cl) H' kp ba wa' many hues tb bd' ws') (hh : IsWs H' hd' ws') (ne : hd' ≠ wa') (sub : ∀ n ∈ nmsOf ws', n ∈ ns) : LW C Ps wl cl sz ta kp ba nm many hues tb ns wa' hd' bd' ws' H' := by
  obtain ⟨dx, ta', i1, i2⟩ := h.kpr.ins
  obtain ⟨es, hd1, _⟩ := h.kpr.wss
  have hb := h.kpr.bds
  have l : ∀ {b : Addr} {xs : List V}, b ≠ ba → H b = some (.lst xs) → H' b = some (.lst xs) := fun {b xs} n e => f.keep b _ (h.tabs.lst e) (ne_of e i1 (fun z => nomatch z)) n (ne_of e hd1 (fun z => nomatch z)) e
  have bw : ba ≠ wl ∧ ba ≠ cl := ⟨fun z => h.kpr.nba (.inl z), fun z => h.kpr.nba (.inr z)⟩
  obtain ⟨cs, x, c, h1, h2, hc⟩ := h.well
  exact { h with well := ⟨cs, x, c, l (Ne.symm bw.1) h1, l (Ne.symm bw.2) h2, hc⟩, tabs := f.tabs, hsz := f.tups h.kpr h.tabs _ _ h.hsz, tab := h.tab.mono fun b xs n e => l (fun z => n (.inr (.inr z))) e, kpr := k, hnm := l h.nnm.2.2 h.hnm, held := hh, hne := ne, sub := sub }
theorem LW.okN (h : LW C Ps wl cl sz ta kp ba nm many hues tb ns wa hd bd ws H) : ∀ n ∈ nmsOf ws, NmOk n := fun n hn => h.ten.ok n (h.sub n hn)
end
/-- names that are free -/
def freeN (ns : List Str) (ws : Ws) : List Str := ns.filter fun n => !decide (n ∈ nmsOf ws)
theorem free_some {ns : List Str} {ws : Ws} (t : TenN ns) (h : ws.length < 8) : 1 ≤ (freeN ns ws).length := by
  cases e : freeN ns ws with
  | cons _ _ => simp
  | nil =>
    have sub : ns ⊆ nmsOf ws := fun n hn => by
      by_cases c : n ∈ nmsOf ws
      · exact c
      · have : n ∈ freeN ns ws := List.mem_filter.mpr ⟨hn, by rw [decide_eq_false c]; rfl⟩
        rw [e] at this
        cases this
    have l := List.Nodup.length_le_of_subset t.nd sub
    have l2 : (nmsOf ws).length = ws.length := by unfold nmsOf; rw [List.length_map]
    have := t.ten
    omega
end Rd

set_option Elab.async false
set_option linter.all false
set_option maxRecDepth 100000
set_option maxHeartbeats 4000000
/-! more of the law's side -/
namespace Rd
open PySem PySem.Spec PyProof.Rows L2 Dt TL
section
variable {C : Addr} {Ps : List Addr} {wl cl sz ta kp ba nm : Addr} {many hues : Int} {tb : List (List Int)} {ns : List Str} {wa hd : Addr} {bd : List Int} {ws : Ws} {H H' : Hp}
/-- behind a deed that also puts the held ones anew -/
theorem LW.kept2 {wa' hd' : Addr} {bd' : List Int} {ws' : Ws} (h : LW C Ps wl cl sz ta kp ba nm many hues tb ns wa hd bd ws H) (f : ∀ b o, (∀ ks, o ≠ .dK ks) → b ∉ Ps → b ≠ kp → b ≠ ba → H b = some o → H' b = some o) (t : Tabs Ps H') (k : KpAt C (fun b => b = wl ∨ b = cl) H' kp ba wa' many hues tb bd' ws') (hh : IsWs H' hd' ws') (ne : hd' ≠ wa') (sub : ∀ n ∈ nmsOf ws', n ∈ ns) : LW C Ps wl cl sz ta kp ba nm many hues tb ns wa' hd' bd' ws' H' := by
  obtain ⟨dx, ta', i1, i2⟩ := h.kpr.ins
  obtain ⟨es, hd1, _⟩ := h.kpr.wss
  have hb := h.kpr.bds
  have l : ∀ {b : Addr} {xs : List V}, b ≠ ba → H b = some (.lst xs) → H' b = some (.lst xs) := fun {b xs} n e => f b _ (fun _ z => nomatch z) (h.tabs.lst e) (ne_of e i1 (fun z => nomatch z)) n e
  have tp : Tups H H' := fun b xs e => f b _ (fun _ z => nomatch z) (h.tabs.tup e) (ne_of e i1 (fun z => nomatch z)) (ne_of e hb (fun z => nomatch z)) e
  have bw : ba ≠ wl ∧ ba ≠ cl := ⟨fun z => h.kpr.nba (.inl z), fun z => h.kpr.nba (.inr z)⟩
  obtain ⟨cs, x, c, h1, h2, hc⟩ := h.well
  exact { h with well := ⟨cs, x, c, l (Ne.symm bw.1) h1, l (Ne.symm bw.2) h2, hc⟩, tabs := t, hsz := tp _ _ h.hsz, tab := h.tab.mono fun b xs n e => l (fun z => n (.inr (.inr z))) e, kpr := k, hnm := l h.nnm.2.2 h.hnm, held := hh, hne := ne, sub := sub }
/-- a dict that is not the keeper's is put anew -/
theorem KpAt.dput {Av : Addr → Prop} (h : KpAt C Av H kp ba wa many hues tb bd ws) {b : Addr} {ks ks' : List (Key × V)} (e : H b = some (.dK ks)) (n : b ≠ wa) : KpAt C Av (upd H b (.dK ks')) kp ba wa many hues tb bd ws := by
  obtain ⟨dx, ta, i1, i2⟩ := h.ins
  have k : ∀ {c : Addr} {o : HO}, (∀ ks, o ≠ .dK ks) → H c = some o → upd H b (.dK ks') c = some o := fun {c o} nk ec => by
    rw [upd_ne (fun z => nk ks (by rw [z, e] at ec; exact (Option.some.inj ec).symm))]
    exact ec
  have w2 : IsWs (upd H b (.dK ks')) wa ws := by
    obtain ⟨es, h1, h2⟩ := h.wss
    exact ⟨es, by rw [upd_ne (Ne.symm n)]; exact h1, pairedMap (fun _ _ ew => ew.mono fun c xs ec => k (fun _ z => nomatch z) ec) h2⟩
  exact { h with ins := ⟨dx, ta, k (fun _ z => nomatch z) i1, i2.mono fun c xs _ ec => k (fun _ z => nomatch z) ec⟩, bds := k (fun _ z => nomatch z) h.bds, wss := w2 }
theorem Tabs.dput {b : Addr} {ks ks' : List (Key × V)} (t : Tabs Ps H) (e : H b = some (.dK ks)) : Tabs Ps (upd H b (.dK ks')) := t.put fun z => by
  obtain ⟨ps, y, _⟩ := t b z
  rw [e] at y
  cases y
end
theorem nms_snoc (ws : Ws) (n : Str) (wd : WD) : nmsOf (ws ++ [(n, wd)]) = nmsOf ws ++ [n] := by
  unfold nmsOf
  rw [List.map_append]
  rfl
theorem ws_keys {H : Hp} {es : List (Str × Addr)} {ws : Ws} (p : Paired (IsNw H) es ws) : (kE es).map (·.1) = (nmsOf ws).map Sum.inr := by rw [kE_keys, nw_names p]
theorem nms_len (ws : Ws) : (nmsOf ws).length = ws.length := by unfold nmsOf; rw [List.length_map]
end Rd

set_option Elab.async false
set_option linter.all false
set_option maxRecDepth 100000
set_option maxHeartbeats 4000000
/-! wishes that stay whole -/
namespace Rd
open PySem PySem.Spec PyProof.Rows L2 Dt TL
theorem goR_true {wds : List WD} {tb : List (List Int)} {ord : List Int} {R : Res} : ∀ (n : Nat) (tk : List Int) (log : Log), goR wds tb ord n tk log = some R → R.1 = true → firstB R.2.1 wds ord = none
  | 0, _, _, h, _ => nomatch h
  | n + 1, tk, log, h, t => by
    rw [goR] at h
    cases e : firstB (stand tb tk) wds ord with
    | none =>
      rw [e] at h
      have h2 : (true, stand tb tk, log) = R := Option.some.inj h
      rw [← h2]
      exact e
    | some k =>
      rw [e] at h
      dsimp only at h
      cases c : canN tb tk (plc wds k) with
      | false =>
        rw [c, if_neg (by decide)] at h
        have h2 : (false, stand tb tk, log) = R := Option.some.inj h
        rw [← h2] at t
        cases t
      | true =>
        rw [c, if_pos rfl] at h
        exact goR_true n _ _ h t
theorem stand_drop0 {tb : List (List Int)} {bd : List Int} (g : GoodK tb bd) {many hues : Int} (gt : GoodT many hues tb) : stand (dropT tb bd) (zerosI (dropT tb bd).length) = stand tb bd := by
  have gd := dropT_good gt g
  have el : (dropT tb bd).length = bd.length := by rw [dropT_len g, g.len]
  rw [stand_drop g (zeros_good gd), el, addI_zeros]
theorem runOf_still {many hues : Int} {wds : List WD} {tb : List (List Int)} {bd ord : List Int} (gt : GoodT many hues tb) (g : GoodK tb bd) (h : firstB (stand tb bd) wds ord = none) : runOf wds (dropT tb bd) ord = some (true, stand tb bd, []) := by
  unfold runOf
  rw [goR, stand_drop0 g gt, h]
def Unb (tb : List (List Int)) (bd : List Int) (ws : Ws) : Prop := ∀ e ∈ ws, brk (stand tb bd) e.2 = false
theorem wOf_eq : ∀ {ws : Ws}, (nmsOf ws).Nodup → ∀ {e : Str × WD}, e ∈ ws → wOf ws e.1 = e.2
  | [], _, _, h => nomatch h
  | w :: r, nd, e, h => by
    have nd2 := List.nodup_cons.mp (show (w.1 :: nmsOf r).Nodup from nd)
    rcases List.mem_cons.mp h with z | z
    · unfold wOf
      rw [List.find?_cons, decide_eq_true (show w.1 = e.1 by rw [z]), z]
      rfl
    · have ih := wOf_eq nd2.2 z
      unfold wOf
      rw [List.find?_cons, decide_eq_false (fun q : w.1 = e.1 => nd2.1 (by rw [q]; exact List.mem_map_of_mem (f := (·.1)) z))]
      exact ih
theorem unb_first {tb : List (List Int)} {bd : List Int} {ws : Ws} {ord : List Str} (u : Unb tb bd ws) (p : ord.Perm (nmsOf ws)) : firstB (stand tb bd) (wsAt ws ord) (rngI (ord.length : Int)) = none := by
  refine List.find?_eq_none.mpr fun z hz c => ?_
  obtain ⟨z0, z1⟩ := rngI_mem hz
  have hz2 : z.toNat < ord.length := by omega
  have e : (wsAt ws ord)[z.toNat]? = some (wOf ws ord[z.toNat]) := by
    unfold wsAt
    rw [List.getElem?_map, List.getElem?_eq_getElem hz2]
    rfl
  have c2 : brkAt (stand tb bd) (wsAt ws ord) z.toNat = true := c
  rw [brkAt_of e] at c2
  have m := wOf_mem (p.mem_iff.mp (List.getElem_mem hz2))
  rw [u _ m] at c2
  cases c2
theorem unb_of {tb : List (List Int)} {bd : List Int} {ws : Ws} {ord : List Str} (nd : (nmsOf ws).Nodup) (p : ord.Perm (nmsOf ws)) (h : firstB (stand tb bd) (wsAt ws ord) (rngI (ord.length : Int)) = none) : Unb tb bd ws := fun e he => by
  have hn : e.1 ∈ ord := p.mem_iff.mpr (List.mem_map_of_mem (f := (·.1)) he)
  obtain ⟨i, hi⟩ := List.getElem?_of_mem hn
  have i1 := (List.getElem?_eq_some_iff.mp hi).1
  have c := List.find?_eq_none.mp h (i : Int) (rngI_all (by omega))
  have ew : (wsAt ws ord)[i]? = some e.2 := by
    unfold wsAt
    rw [List.getElem?_map, hi]
    show some (wOf ws e.1) = _
    rw [wOf_eq nd he]
  have c2 : ¬ brkAt (stand tb bd) (wsAt ws ord) i = true := by simpa using c
  rw [brkAt_of ew] at c2
  simpa using c2
theorem Unb.sub {tb : List (List Int)} {bd : List Int} {ws ws' : Ws} (u : Unb tb bd ws) (h : ∀ e ∈ ws', e ∈ ws) : Unb tb bd ws' := fun e he => u e (h e he)
theorem drop_mem {ws : Ws} {n : Str} : ∀ e ∈ dropW ws n, e ∈ ws := fun e h => (List.mem_filter.mp h).1
theorem drop_snoc (ws : Ws) (n : Str) (wd : WD) : dropW (dropW ws n ++ [(n, wd)]) n = dropW ws n := by
  unfold dropW
  rw [List.filter_append, List.filter_filter]
  have e : ([(n, wd)] : Ws).filter (fun e => decide (e.1 ≠ n)) = [] := by
    rw [List.filter_cons, if_neg (by simp)]
    rfl
  rw [e, List.append_nil]
  congr 1
  funext e
  simp
theorem drop_not (ws : Ws) (n : Str) : n ∉ nmsOf (dropW ws n) := fun h => ((drop_names ws n n).mp h).2 rfl
end Rd

set_option Elab.async false
set_option linter.all false
set_option maxRecDepth 100000
set_option maxHeartbeats 4000000
/-! lists of numbers told alike; where a keeper stands, told -/
namespace Rd
open PySem PySem.Spec PyProof.Rows L2 Dt TL
theorem dpI {K : PySem.W.Frag} {H : Hp} : ∀ l : List Int, DpAll K H (l.map V.int) (l.map .int)
  | [] => .nil
  | n :: r => .cons (.int n) (dpI r)
theorem depInt : ∀ l : List Int, PyData.depthAll (l.map PyData.int) ≤ 1
  | [] => by simp [PyData.depthAll]
  | _ :: r => by
    have := depInt r
    rw [List.map_cons]
    simp only [PyData.depthAll, PyData.depth]
    omega
theorem layInt (l : List Int) : PyData.canLay0 (.list (l.map PyData.int)) = true := by
  simp only [PyData.canLay0]
  exact Gv.canAll_ints l
theorem layTup (l : List Int) : PyData.canLay0 (.tuple (l.map PyData.int)) = true := by
  simp only [PyData.canLay0]
  exact Gv.canAll_ints l
theorem shpInts (l : List Int) : SeqAt.shaped (.list (l.map PyData.int)) = true := by
  have a := depInt l
  have d : PyData.depth (.list (l.map PyData.int)) ≤ 64 := by
    simp only [PyData.depth]
    omega
  show (PyData.canLay0 (.list (l.map PyData.int)) && decide (PyData.depth (.list (l.map PyData.int)) ≤ 64)) = true
  rw [layInt l, decide_eq_true d]
  rfl
theorem eqvInts (l : List Int) : PyData.eqv (.list (l.map PyData.int)) (.list (l.map PyData.int)) = true := PySem.SeqAt.eqv_refl _ (layInt l)
section
variable {K : PySem.W.Frag} {H : Hp} {a b : Addr} {Q : VK}
theorem ne_ints {l : List Int} (ha : H a = some (.lst (l.map V.int))) (hb : H b = some (.lst (l.map V.int))) (q : Q (.bl false) H) : rNeD K (.ref a) (.ref b) H Q :=
  ⟨_, _, .lst (.inl (.inl ha)) (dpI l), .lst (.inl (.inl hb)) (dpI l), shpInts l, shpInts l, by rw [eqvInts]; exact q⟩
theorem eq_ints {l : List Int} (ha : H a = some (.lst (l.map V.int))) (hb : H b = some (.lst (l.map V.int))) (q : Q (.bl true) H) : rEqD K (.ref a) (.ref b) H Q :=
  ⟨_, _, .lst (.inl (.inl ha)) (dpI l), .lst (.inl (.inl hb)) (dpI l), shpInts l, shpInts l, by rw [eqvInts]; exact q⟩
theorem eq_rows {r : List Int} (ha : H a = some (.tup (r.map V.int))) (hb : H b = some (.tup (r.map V.int))) (q : Q (.bl true) H) : rEqD K (.ref a) (.ref b) H Q :=
  ⟨_, _, dpRow ha, dpRow hb, shaped_row _, shaped_row _, by rw [eqv_row, decide_eq_true rfl]; exact q⟩
theorem eq_none_l (ha : H a = some (.lst [])) (hb : H b = some (.lst [])) (q : Q (.bl true) H) : rEqD K (.ref a) (.ref b) H Q := eq_ints (l := []) ha hb q
/-- (filling, taken) -/
def stD (f t : List Int) : PyData := .tuple [.tuple (f.map .int), .list (t.map .int)]
def IsSt (H : Hp) (a : Addr) (f t : List Int) : Prop := ∃ x y, H a = some (.tup [.ref x, .ref y]) ∧ H x = some (.tup (f.map V.int)) ∧ H y = some (.lst (t.map V.int))
theorem dpSt {f t : List Int} (h : IsSt H a f t) : Dp K H (.ref a) (stD f t) := let ⟨_, _, h1, h2, h3⟩ := h; .tup (.inl (.inl h1)) (.cons (.tup (.inl (.inl h2)) (dpI f)) (.cons (.lst (.inl (.inl h3)) (dpI t)) .nil))
theorem laySt (f t : List Int) : PyData.canLay0 (stD f t) = true := by
  unfold stD
  have a := layTup f
  have b := layInt t
  simp only [PyData.canLay0, PyData.canLayAll0] at a b ⊢
  rw [a, b]
  rfl
theorem shpSt (f t : List Int) : SeqAt.shaped (stD f t) = true := by
  have a := depInt f
  have b := depInt t
  have d : PyData.depth (stD f t) ≤ 64 := by
    unfold stD
    simp only [PyData.depth, PyData.depthAll]
    omega
  show (PyData.canLay0 (stD f t) && decide (PyData.depth (stD f t) ≤ 64)) = true
  rw [laySt, decide_eq_true d]
  rfl
theorem eqvSt (f t : List Int) : PyData.eqv (stD f t) (stD f t) = true := PySem.SeqAt.eqv_refl _ (laySt f t)
theorem ne_st {f t : List Int} (ha : IsSt H a f t) (hb : IsSt H b f t) (q : Q (.bl false) H) : rNeD K (.ref a) (.ref b) H Q := ⟨_, _, dpSt ha, dpSt hb, shpSt f t, shpSt f t, by rw [eqvSt]; exact q⟩
theorem eq_st {f t : List Int} (ha : IsSt H a f t) (hb : IsSt H b f t) (q : Q (.bl true) H) : rEqD K (.ref a) (.ref b) H Q := ⟨_, _, dpSt ha, dpSt hb, shpSt f t, shpSt f t, by rw [eqvSt]; exact q⟩
end
end Rd

set_option Elab.async false
set_option linter.all false
set_option maxRecDepth 100000
set_option maxHeartbeats 4000000
/-! the law's own call where a method's generator expression has a table too -/
namespace Lg
open PySem PySem.Spec PyProof.Rows L2
theorem walk_ofM {l : PySem.W.OpenLaw} {n k : Nat} {q : Program} {loose : List Str} {XP : (Str → Option Value) → Heap → Prop} {YP : World → Heap → Prop} {d : DefRec} {K : Params → PySem.W.Frag} {x qual par : Str} {st : Stmt} {N : List Str} (cM PM : Addr) (names : List Str)
    (hn : l.most = some n) (hn2 : n ≤ sizeLine) (hdf : d.params.defaults = []) (hr : Room (k + 1) callerA) (hrec : (names.all fun y => (recsOf q).any fun e => e.name == y) = true) (hK : ∀ w : World, PySem.W.noTabs (K w.params) = true) (hC : ∀ w : World, PySem.W.codeHdIn (K w.params) cM PM = true)
    (hY : ∀ (w : World) (h : Heap), YP w h → (K w.params).In h) (hM : ∀ (w : World) (h : Heap), YP w h → h.get? PM = some { cls := .none, data := .fields #[] }) (S : FnScope N [par] (defScope st))
    (F : ∀ (w : World) (mg : Str → Option Value) (fa : Addr) (h : Heap) (tb : Str → Addr × Addr), (K w.params).In h → h.Ns mainGlobals mg → mg d.name = some (.ref fa) → (∀ y ∈ names, TabOf mg h y (tb y)) →
      ∃ fd : FuncData, Fun (K w.params) x qual st fa fd ∧ (∀ (s : Shared) (u : Value), BindsTo s fd ⟨[u], []⟩ [(par, u)]) ∧ ∀ (base : Heap) (H : Hp) (cdv : Value) (a : Addr) (ns : List Int) (s : Shared), (K w.params).In base → base.Ns mainGlobals mg → (∀ y ∈ names, GxR.TabB base mg (tb y).1 (tb y).2) → GxR.TabB base mg cM PM → (∀ y ∈ names, H (tb y).2 = some (.tbl #[])) → H PM = some (.tbl #[]) → ns.length ≤ n → (∀ z ∈ ns, Builtin.Int.intBits z ≤ 1048576) → SqL (K w.params) H a (ns.map V.int) → Room k (callerA.deeper (envOfC qual (defScope st) s.heap.objs.size fa cdv)) →
        ∃ t, PSs (cxOf CX0 l.prog w (K w.params) mg base N qual (defScope st) fa cdv callerA [] s H (fun _ _ _ => False)).nox (defBody st) t ∧ t { nx := fun _ _ => False, rt := fun v _ => v = .bl true } (start N [.ref a]) H) :
    PySem.W.WalkO q loose XP YP l.row.toRowW d [] (fun f vs => PySem.call f vs) := by
  refine Att.attach_callB hn hdf fun w s₀ s₁ mg mb fa o pm cd doc a vs ns G Y ho hd hcd hmg hobj hints hlen hbits hg => ?_
  have KX := hY w _ Y
  have ex : ∀ y : Str, ∃ p : Addr × Addr, y ∈ names → TabOf mg s₁.heap y p := fun y => by
    by_cases hy : y ∈ names
    · obtain ⟨dL, hm, hn1⟩ := List.any_eq_true.mp (List.all_eq_true.mp hrec y hy)
      have hn2 : dL.name = y := beq_iff_eq.mp hn1
      obtain ⟨a', o', fd', c', P', h1, h2, h3, h4, h5, h6⟩ := G.T.tab dL hm
      rw [hn2] at h1
      exact ⟨(c', P'), fun _ => ⟨a', o', fd', h1, h2, h3, h4, PySem.W.CodeHd.of h5 h6, h6.2⟩⟩
    · exact ⟨(0, 0), fun z => absurd z hy⟩
  have tbx : ∃ tb : Str → Addr × Addr, ∀ y ∈ names, TabOf mg s₁.heap y (tb y) := ⟨fun y => Classical.choose (ex y), fun y => Classical.choose_spec (ex y)⟩
  obtain ⟨tb, ht⟩ := tbx
  obtain ⟨fd, hF, hb, body⟩ := F w mg fa _ tb KX G.T.g hmg ht
  have cm : ∀ p ∈ (cM, PM) :: names.map tb, p = (cM, PM) ∨ ∃ y ∈ names, tb y = p := fun p hp => (List.mem_cons.mp hp).imp id List.mem_map.mp
  have e0 := hM w _ Y
  refine law_at (cs := (cM, PM) :: names.map tb) KX G.T.g G.T.b G.T.builtins G.T.nolimit hg (fun p hp => ?_) (fun p hp => ?_) (fun p hp => ?_) G.T.bmain hobj hints (Nat.le_trans hlen hn2) hr hF S hb fun base H cdv kb gn tB tH hS hrm => body base H cdv a ns s₁ kb gn (fun y hy => tB _ (List.mem_cons_of_mem _ (List.mem_map_of_mem hy))) (tB _ List.mem_cons_self) (fun y hy => tH _ (List.mem_cons_of_mem _ (List.mem_map_of_mem hy))) (tH _ List.mem_cons_self) hlen hbits hS hrm
  · rcases cm p hp with rfl | ⟨y, hy, rfl⟩
    · exact e0
    · obtain ⟨_, _, _, _, _, _, _, _, z⟩ := ht y hy
      exact z
  · rcases cm p hp with rfl | ⟨y, hy, rfl⟩
    · exact no_tab KX (hK w) e0
    · obtain ⟨_, _, _, _, _, _, _, _, z⟩ := ht y hy
      exact no_tab KX (hK w) z
  · rcases cm p hp with rfl | ⟨y, hy, rfl⟩
    · exact PySem.W.codeHd_of_K KX (hC w)
    · obtain ⟨_, _, _, _, _, _, _, z, _⟩ := ht y hy
      exact z
end Lg

set_option Elab.async false
set_option linter.all false
set_option maxRecDepth 100000
set_option maxHeartbeats 4000000
namespace Rd
open PySem PySem.Spec PyProof.Rows L2 Dt
def topS (i : Nat) : Stmt := PySem.Challenge.pw_redraw_k62_keepers_begun.main.body.getD i (.Pass ⟨0, 0, 0, 0⟩)
abbrev sWell : Stmt := topS 44
abbrev nWell : List Str := ["script", "seed", "cell"]
theorem scWell : FnScope nWell ["script"] (defScope sWell) := ⟨rfl, rfl, rfl, by decide +kernel, rfl, by decide +kernel, by decide +kernel⟩
abbrev sDraw : Stmt := topS 45
abbrev nDraw : List Str := ["well", "many", "cell", "found"]
theorem scDraw : FnScope nDraw ["well", "many"] (defScope sDraw) := ⟨rfl, rfl, rfl, by decide +kernel, rfl, by decide +kernel, by decide +kernel⟩
def spWell (K : PySem.W.Frag) : Sp := fun vs H Q _ => ∃ (a : Addr) (ns : List Int), vs = [.ref a] ∧ SqL K H a (ns.map V.int) ∧ ns.length ≤ 63 ∧ (∀ z ∈ ns, Builtin.Int.intBits z ≤ 1048576) ∧
  ∀ H' wl cl, Same H H' → H wl = none → H cl = none → Well H' wl cl → Q (.ref wl) H'
def spDraw : Sp := fun vs H Q _ => ∃ (wl cl : Addr) (m : Int), vs = [.ref wl, .int m] ∧ Well H wl cl ∧ 1 ≤ m ∧ m.natAbs.log2 < 9000 ∧
  ∀ H' d, Drawn wl cl H H' → 0 ≤ d → d < m → Q (.int d) H'
def spLfi : Sp := fun vs H Q _ => ∃ (ri : Addr) (zs : List V) (many hues : Int), vs = [.ref ri] ∧ H ri = some (.tup (.int many :: .int hues :: zs)) ∧ 0 ≤ many ∧ many ≤ 6 ∧ 0 ≤ hues ∧ hues ≤ 4 ∧
  ∀ H' l, Same H H' → H l = none → IsFills H' l (fillL hues.toNat many.toNat) → Q (.ref l) H'
structure TxtFi (P : Program) (w : World) (K : PySem.W.Frag) (mg : Str → Option Value) (base : Heap) : Prop where
  m_range : mg "range" = none
  m_len : mg "len" = none
section
variable {P : Program} {w : World} {K : PySem.W.Frag} {mg : Str → Option Value} {base : Heap}
theorem ok_well {f : Addr} {fd : FuncData} {k : Nat} (F : Fun K "_law_well" "_law_well" sWell f fd) (mabs : mg "abs" = none) : FnOk P w K mg base CX0 (k + 1) f fd ["script"] (spWell K) := by
  refine F.ok scWell (fun vs H Q E h => ?_) (fun cdv A outer s H vs Q E hr h => ?_)
  · obtain ⟨a, ns, rfl, _⟩ := h
    rfl
  · obtain ⟨a, ns, rfl, hS, hlen, hbits, q⟩ := h
    refine ⟨_, pss_cons (ps_set (i := 1) scWell.nd rfl (.inl rfl) pe_int)
      (pss_cons (ps_for PassesOwn.never rfl (pi_list (pv 0)) (pg_name (i := 2) scWell.nd rfl (.inl rfl))
        (pss_one (ps_set (i := 1) scWell.nd rfl (.inl rfl) (pe_op op_add (pe_op op_mod (pe_op op_powW (pe_op op_add (pe_op op_mul (pv 1) pe_int) (pv 2)) pe_int) pe_int) pe_int))))
      (pss_one (ps_ret (pe_lst (pa_cons (pe_lc (own := [("cell", 2)]) (g := gName 2) (tt := tYes) rfl scWell.nd (pi_list (pv 0)) (blkOk_by (own := [("cell", 2)]) (N := nWell) (sc := defScope sWell) (by decide +kernel))
          (fun _ _ _ _ _ => pg_name (i := 2) scWell.nd rfl (Or.inl rfl)) (fun _ _ _ _ _ => pts_nil) (fun _ _ _ _ _ => pe_callB call_abs (by rfl) mabs (by decide +kernel) (pa_cons (pv 2) pa_nil)))
        (pa_cons pe_int (pa_cons (pv 1) pa_nil))))))), ?_⟩
    refine ⟨.ref a, rfl, a, rfl, ⟨_, hS⟩, for_list (xs := ns.map V.int) (fun i σ H' => ∃ y2 sd, σ = [some (.ref a), some (.int sd), y2] ∧ 0 ≤ sd ∧ sd ≤ 2147483629 ∧ H' = H) ⟨none, 1, rfl, by decide, by decide, rfl⟩ (fun i σ H' _ p => ?_) (fun i x σ H' hx p => ?_) (fun σ H' p => ?_)⟩
    · obtain ⟨_, _, _, _, _, rfl⟩ := p
      exact hS
    · obtain ⟨y2, sd, rfl, h0, h1, rfl⟩ := p
      rw [List.getElem?_map] at hx
      obtain ⟨z, hz, rfl⟩ : ∃ z, ns[i]? = some z ∧ V.int z = x := by
        cases e : ns[i]? with
        | none => rw [e] at hx; cases hx
        | some z => rw [e] at hx; exact ⟨z, rfl, Option.some.inj hx⟩
      have hb := hbits z (List.mem_of_getElem? hz)
      have hm := mix_bits h0 h1 hb (by decide)
      refine ⟨_, rfl, sd, 50021, rfl, rfl, .inl ⟨by omega, by omega⟩, _, rfl, _, _, rfl, rfl, _, _, rfl, rfl, ⟨by decide, by omega⟩, _, _, rfl, rfl, (by show (0 : Int) < 2147483629; decide), _, _, rfl, rfl, ?_⟩
      have g1 := Int.emod_nonneg ((sd * 50021 + z) ^ (3 : Int).toNat) (by decide : (2147483629 : Int) ≠ 0)
      have g2 := Int.emod_lt_of_pos ((sd * 50021 + z) ^ (3 : Int).toNat) (by decide : (0 : Int) < 2147483629)
      exact ⟨_, _, rfl, by omega, by omega, rfl⟩
    · obtain ⟨y2, sd, rfl, h0, h1, rfl⟩ := p
      refine ⟨.ref a, rfl, a, rfl, ⟨_, hS⟩, fun D hD => lc_list (K := K) (a := a) (xs := ns.map V.int) (fun i H1 => H1 D = some (.lst (((ns.take i).map fun z => if z < 0 then -z else z).map V.int)) ∧ Same H' H1 ∧ ∀ b, b ≠ D → H1 b = H' b) ⟨upd_same, same_upd hD, fun b hb => upd_ne hb⟩ (fun i H1 _ p => p.2.1.seq hS) (fun i x H1 hx p => ?_) (fun H1 p => ?_)⟩
      · rw [List.getElem?_map] at hx
        obtain ⟨z, hz, rfl⟩ : ∃ z, ns[i]? = some z ∧ V.int z = x := by
          cases e : ns[i]? with
          | none => rw [e] at hx; cases hx
          | some z => rw [e] at hx; exact ⟨z, rfl, Option.some.inj hx⟩
        refine ⟨rfl, ?_⟩
        dsimp only [tYes]
        rw [if_pos rfl]
        refine ⟨.int z, rfl, z, rfl, _, p.1, ?_, ?_, ?_, ?_⟩
        · rw [List.length_map, List.length_map, List.length_take]
          exact small1000 (by omega)
        · rw [upd_same, List.take_add_one, hz, List.map_append, List.map_append]
          rfl
        · intro b o e
          rw [upd_ne (ne_of_none e hD)]
          exact p.2.1 b o e
        · intro b hb
          rw [upd_ne hb]
          exact p.2.2 b hb
      · obtain ⟨p1, p2, p3⟩ := p
        rw [List.length_map, List.take_length] at p1
        refine ⟨.int sd, rfl, (by show 3 ≤ sizeLine; decide), fun l hl => ?_⟩
        have ne : D ≠ l := ne_of_none p1 hl
        refine q _ l D (p2.trans (same_upd hl)) ?_ hD ⟨_, 0, sd, upd_same, by rw [upd_ne ne]; exact p1, by decide, h0, by omega, ?_⟩
        · exact p2.free hl
        · intro x hx
          obtain ⟨z, _, rfl⟩ := List.mem_map.mp hx
          split <;> omega
theorem Well.mk {H : Hp} {wl cl : Addr} {cs : List Int} {b c : Int} (h1 : H wl = some (.lst [.ref cl, .int b, .int c])) (h2 : H cl = some (.lst (cs.map V.int))) (h : WellC cs b c) : Well H wl cl := ⟨cs, b, c, h1, h2, h⟩
theorem ok_draw {f : Addr} {fd : FuncData} {k : Nat} (F : Fun K "_law_draw" "_law_draw" sDraw f fd) : FnOk P w K mg base CX0 (k + 1) f fd ["well", "many"] spDraw := by
  refine F.ok scDraw (fun vs H Q E h => ?_) (fun cdv A outer s H vs Q E hr h => ?_)
  · obtain ⟨wl, cl, m, rfl, _⟩ := h
    rfl
  · obtain ⟨wl, cl, m, rfl, hW, hm, hlog, q⟩ := h
    have hwc := hW.ne
    have pix : ∀ {X : Cx} {a b : Expr} {pos : Pos} {ta tb : TE}, PE X a ta → PE X b tb → PlainIx b → PE X (.Subscript a b pos) (tOp (rIxL X.K) ta tb) := fun ha hb hs => pe_ix ix_list ha hb hs
    refine ⟨_, C8.pss_cut (ps_if (PW.pt (pw_and (pt_cmpR op_eq (pe_ix ix_list (pv 0) pe_int (fun _ _ => rfl)) pe_int (nomark _)) (pw_and1 (pt_cmpR (op_neD hr.units) (pe_ix ix_list (pv 0) pe_int (fun _ _ => rfl)) (pe_lst pa_nil) (nomark _)))))
        (pss_cons (ps_set (i := 2) scDraw.nd rfl (.inl rfl) (pe_bm PySem.F.plainAttrs_list PySem.F.slot_list_pop PySem.F.type_list_pop mt_popAt (pe_ix ix_list (pv 0) pe_int (fun _ _ => rfl)) (pa_cons pe_int pa_nil)))
        (pss_cons (ps_if (pt_cmpR op_lt (pv 2) (pe_op op_pow pe_int pe_int) (nomark _)) (pss_one (ps_ret (pe_op op_mod (pv 2) (pv 1)))) pss_nil)
        (pss_one (ps_asg (pv 2) (pg_sub (pv 0) pe_int set_list))))) pss_nil)
      (pss_cons (ps_if (pt_cmpR op_gt (pe_ix ix_list (pv 0) pe_int (fun _ _ => rfl)) pe_int (nomark _))
        (pss_cons (ps_set (i := 3) scDraw.nd rfl (.inl rfl) (pe_op op_mod (pe_ix ix_list (pv 0) pe_int (fun _ _ => rfl)) (pv 1)))
        (pss_cons (ps_asg (pe_op op_fdivW (pe_ix ix_list (pv 0) pe_int (fun _ _ => rfl)) (pv 1)) (pg_sub (pv 0) pe_int set_list))
        (pss_one (ps_ret (pv 3))))) pss_nil)
      (pss_cons (ps_asg (pe_op op_mod (pe_op op_add (pe_op op_mul (pe_ix ix_list (pv 0) pe_int (fun _ _ => rfl)) pe_int) pe_int) pe_int) (pg_sub (pv 0) pe_int set_list))
      (pss_one (ps_ret (pe_op op_mod (pe_op op_fdiv (pe_op op_mod (pe_op op_pow (pe_op op_mod (pe_op op_pow (pe_ix ix_list (pv 0) pe_int (fun _ _ => rfl)) pe_int) pe_int) pe_int) pe_int) pe_int) (pv 1)))))), ?_⟩
    refine ⟨fun σ H' => Drawn wl cl H H' ∧ ∃ y2 y3, σ = [some (.ref wl), some (.int m), y2, y3], ?_, ?_⟩
    · obtain ⟨cs, b, c, h1, h2, hc⟩ := hW
      refine ⟨.ref wl, rfl, wl, _, 1, _, rfl, rfl, .inl (.inl h1), rfl, rfl, _, rfl, ?_⟩
      refine ite2 (fun e => ?_) (fun e => ?_)
      · refine ⟨.ref wl, rfl, wl, _, 0, _, rfl, rfl, .inl (.inl h1), rfl, (by show 0 ≤ sizeLine; decide), fun p hp => ?_⟩
        have np1 : wl ≠ p := ne_of_none h1 hp
        have np2 : cl ≠ p := ne_of_none h2 hp
        have g1 : upd H p (.lst []) wl = some (.lst [.ref cl, .int b, .int c]) := by rw [upd_ne np1]; exact h1
        have g2 : upd H p (.lst []) cl = some (.lst (cs.map V.int)) := by rw [upd_ne np2]; exact h2
        refine ⟨.list (cs.map .int), .list [], .lst (.inl (.inl g2)) (dpInts cs), .lst (.inl (.inl upd_same)) .nil, PySem.W.shaped_ints cs, PySem.W.shaped_ints [], _, rfl, ?_⟩
        cases cs with
        | nil =>
          rw [eqv_nil_nil]
          refine iteF ?_
          exact ⟨⟨fun b' o n1 n2 e => same_upd hp _ _ e, [], b, c, g1, g2, hc⟩, none, none, rfl⟩
        | cons z r =>
          rw [eqv_nil_cons]
          refine iteT ?_
          have hz : 0 ≤ z := hc.nn z List.mem_cons_self
          refine ⟨.ref wl, rfl, wl, _, 0, _, rfl, rfl, .inl (.inl g1), rfl, .inl ⟨rfl, _, .inl (.inl g2)⟩, cl, _, 0, 0, .int z, rfl, rfl, g2, by decide, by decide, seqIndex_of (by decide) (by simp <;> omega), rfl, ?_⟩
          refine ⟨.int z, rfl, 10, 18, rfl, rfl, ⟨by decide, by decide, by decide⟩, _, _, rfl, rfl, _, rfl, ?_⟩
          have k1 : ∀ o, upd (upd H p (.lst [])) cl o wl = some (.lst [.ref cl, .int b, .int c]) := fun o => by rw [upd_ne hwc]; exact g1
          have kd : ∀ o b' o', b' ≠ wl → b' ≠ cl → H b' = some o' → upd (upd H p (.lst [])) cl o b' = some o' := fun o b' o' n1 n2 e => by rw [upd_ne n2]; exact same_upd hp _ _ e
          refine ite2 (fun e2 => ?_) (fun e2 => ?_)
          · refine ⟨.int z, rfl, .int m, rfl, z, m, rfl, rfl, (by show 0 < m; omega), q _ _ ⟨kd _, r, b, c, k1 _, upd_same, hc.b0, hc.c0, hc.c1, fun x hx => hc.nn x (List.mem_cons_of_mem _ hx)⟩ (Int.emod_nonneg _ (by omega)) (Int.emod_lt_of_pos _ (by omega))⟩
          · refine ⟨.int z, rfl, .ref wl, rfl, wl, _, 1, 1, rfl, rfl, k1 _, rfl, ?_⟩
            refine ⟨⟨fun b' o n1 n2 e => ?_, r, z, c, upd_same, ?_, hz, hc.c0, hc.c1, fun x hx => hc.nn x (List.mem_cons_of_mem _ hx)⟩, some (.int z), none, rfl⟩
            · rw [upd_ne n1]; exact kd _ b' o n1 n2 e
            · rw [upd_ne hwc.symm]; exact upd_same
      · exact ⟨⟨fun _ _ _ _ e => e, cs, b, c, h1, h2, hc⟩, none, none, rfl⟩
    · intro σ H1 hM
      obtain ⟨⟨hD, hW1⟩, y2, y3, rfl⟩ := hM
      obtain ⟨cs, b, c, h1, h2, hc⟩ := hW1
      have q2 : ∀ (o : List V) (b' c' d : Int), o = [.ref cl, .int b', .int c'] → 0 ≤ b' → 0 ≤ c' → c' ≤ 2147483647 → 0 ≤ d → d < m → Q (.int d) (upd H1 wl (.lst o)) := fun o b' c' d eo x1 x2 x3 x4 x5 =>
        q _ _ ⟨fun a o' n1 n2 e => by rw [upd_ne n1]; exact hD a o' n1 n2 e, cs, b', c', by rw [eo]; exact upd_same, by rw [upd_ne hwc.symm]; exact h2, x1, x2, x3, hc.nn⟩ x4 x5
      refine ⟨.ref wl, rfl, wl, _, 1, _, rfl, rfl, .inl (.inl h1), rfl, b, 0, rfl, rfl, _, rfl, ?_⟩
      refine ite2 (fun e => ?_) (fun e => ?_)
      · have hb0 := hc.b0
        refine ⟨.ref wl, rfl, wl, _, 1, _, rfl, rfl, .inl (.inl h1), rfl, .int m, rfl, b, m, rfl, rfl, (by show 0 < m; omega), ?_⟩
        refine ⟨.ref wl, rfl, wl, _, 1, _, rfl, rfl, .inl (.inl h1), rfl, .int m, rfl, b, m, rfl, rfl, ⟨by omega, hlog⟩, .ref wl, rfl, wl, _, 1, 1, rfl, rfl, h1, rfl, ?_⟩
        exact ⟨.int (b % m), rfl, q2 _ (b / m) c _ rfl (Int.ediv_nonneg hb0 (by omega)) hc.c0 hc.c1 (Int.emod_nonneg _ (by omega)) (Int.emod_lt_of_pos _ (by omega))⟩
      · have hc0 := hc.c0
        have hc1 := hc.c1
        refine ⟨.ref wl, rfl, wl, _, 2, _, rfl, rfl, .inl (.inl h1), rfl, c, 48271, rfl, rfl, .inl ⟨by omega, by omega⟩, _, _, rfl, rfl, _, _, rfl, rfl, (by show (0 : Int) < 2147483647; decide), .ref wl, rfl, wl, _, 2, 2, rfl, rfl, h1, rfl, ?_⟩
        have n1 := Int.emod_nonneg (c * 48271 + 12345) (by decide : (2147483647 : Int) ≠ 0)
        have n2 := Int.emod_lt_of_pos (c * 48271 + 12345) (by decide : (0 : Int) < 2147483647)
        generalize ec : (c * 48271 + 12345) % 2147483647 = c' at n1 n2
        have n3 := Int.emod_nonneg (c' ^ (3 : Int).toNat) (by decide : (2147483629 : Int) ≠ 0)
        have n4 := Int.emod_lt_of_pos (c' ^ (3 : Int).toNat) (by decide : (0 : Int) < 2147483629)
        refine ⟨.ref wl, rfl, wl, _, 2, _, rfl, rfl, .inl (.inl upd_same), rfl, c', 3, by rw [← ec], rfl, ⟨by decide, by decide, by omega⟩, _, _, rfl, rfl, (by show (0 : Int) < 2147483629; decide), _, 5, rfl, rfl, ⟨by decide, by decide, by omega⟩, _, _, rfl, rfl, (by show (0 : Int) < 1000000007; decide), _, 7, rfl, rfl, ⟨by decide, by decide⟩, .int m, rfl, _, m, rfl, rfl, (by show 0 < m; omega), ?_⟩
        exact q2 _ b c' _ (by rw [← ec]; rfl) hc.b0 n1 (by omega) (Int.emod_nonneg _ (by omega)) (Int.emod_lt_of_pos _ (by omega))
end
end Rd

set_option Elab.async false
set_option linter.all false
set_option maxRecDepth 100000
set_option maxHeartbeats 4000000
namespace Rd
open PySem PySem.Spec PyProof.Rows L2 Dt
abbrev sHue : Stmt := topS 29
abbrev nHue : List Str := ["filling", "places", "place"]
theorem scHue : FnScope nHue ["filling", "places"] (defScope sHue) := ⟨rfl, rfl, rfl, by decide +kernel, rfl, by decide +kernel, by decide +kernel⟩
abbrev sIsB : Stmt := topS 30
abbrev nIsB : List Str := ["wish", "filling", "places", "rows"]
theorem scIsB : FnScope nIsB ["wish", "filling"] (defScope sIsB) := ⟨rfl, rfl, rfl, by decide +kernel, rfl, by decide +kernel, by decide +kernel⟩
abbrev sSta : Stmt := topS 32
abbrev nSta : List Str := ["table", "taken", "draws", "beyond"]
theorem scSta : FnScope nSta ["table", "taken"] (defScope sSta) := ⟨rfl, rfl, rfl, by decide +kernel, rfl, by decide +kernel, by decide +kernel⟩
abbrev sFib : Stmt := topS 33
abbrev nFib : List Str := ["wishes", "order", "filling", "number"]
theorem scFib : FnScope nFib ["wishes", "order", "filling"] (defScope sFib) := ⟨rfl, rfl, rfl, by decide +kernel, rfl, by decide +kernel, by decide +kernel⟩
abbrev sHnx : Stmt := topS 34
abbrev nHnx : List Str := ["table", "taken", "places", "place"]
theorem scHnx : FnScope nHnx ["table", "taken", "places"] (defScope sHnx) := ⟨rfl, rfl, rfl, by decide +kernel, rfl, by decide +kernel, by decide +kernel⟩
def spHues (Ps : List Addr) : Sp := fun vs H Q _ => ∃ (fa pa : Addr) (fs ps : List Int) (many hues : Int), vs = [.ref fa, .ref pa] ∧ H fa = some (.tup (fs.map V.int)) ∧ H pa = some (.tup (ps.map V.int)) ∧ GoodF many hues fs ∧ (∀ p ∈ ps, 0 ≤ p ∧ p < many) ∧ ps.length ≤ 1000 ∧ Tabs Ps H ∧
  ∀ H' t, FrS Ps H H' → H t = none → H' t = some (.tup ((huesA fs ps).map V.int)) → Q (.ref t) H'
def spIsB (Ps : List Addr) : Sp := fun vs H Q _ => ∃ (wa fa : Addr) (fs : List Int) (wd : WD) (many hues : Int), vs = [.ref wa, .ref fa] ∧ IsWish H wa wd ∧ H fa = some (.tup (fs.map V.int)) ∧ GoodF many hues fs ∧ Good many hues wd ∧ many ≤ 6 ∧ hues ≤ 4 ∧ Tabs Ps H ∧
  ∀ H', FrS Ps H H' → Q (.bl (brk fs wd)) H'
def spSta (Ps : List Addr) : Sp := fun vs H Q _ => ∃ (ta ka : Addr) (tb : List (List Int)) (tk : List Int), vs = [.ref ta, .ref ka] ∧ IsTab (fun _ => False) H ta tb ∧ H ka = some (.lst (tk.map V.int)) ∧ GoodK tb tk ∧ tb.length ≤ 1000 ∧ Tabs Ps H ∧
  ∀ H' t, FrS Ps H H' → H t = none → H' t = some (.tup ((stand tb tk).map V.int)) → Q (.ref t) H'
def vOpt : Option Int → V
  | some k => .int k
  | none => .non
def spFib (Ps : List Addr) : Sp := fun vs H Q _ => ∃ (wt oa fa : Addr) (was : List Addr) (wds : List WD) (ord fs : List Int) (many hues : Int), vs = [.ref wt, .ref oa, .ref fa] ∧ H wt = some (.tup (was.map V.ref)) ∧ Paired (IsWish H) was wds ∧ GoodR many hues wds ∧ H oa = some (.tup (ord.map V.int)) ∧ (∀ z ∈ ord, 0 ≤ z ∧ z < (wds.length : Int)) ∧ H fa = some (.tup (fs.map V.int)) ∧ GoodF many hues fs ∧ Tabs Ps H ∧
  ∀ H', FrS Ps H H' → Q (vOpt (firstB fs wds ord)) H'
def spHnx (Ps : List Addr) : Sp := fun vs H Q _ => ∃ (ta ka pa : Addr) (tb : List (List Int)) (tk ps : List Int), vs = [.ref ta, .ref ka, .ref pa] ∧ IsTab (fun _ => False) H ta tb ∧ H ka = some (.lst (tk.map V.int)) ∧ tk.length = tb.length ∧ H pa = some (.tup (ps.map V.int)) ∧ (∀ p ∈ ps, 0 ≤ p ∧ p < (tb.length : Int)) ∧ Tabs Ps H ∧
  ∀ H', FrS Ps H H' → Q (.bl (canN tb tk ps)) H'
structure TxtN (mg : Str → Option Value) : Prop where
  m_tuple : mg "tuple" = none
  m_zip : mg "zip" = none
  m_all : mg "all" = none
  m_len : mg "len" = none
structure TxtB (P : Program) (w : World) (K : PySem.W.Frag) (mg : Str → Option Value) (base : Heap) (Ps : List Addr) : Prop where
  c_hues_at : Cal P w K mg base 3 "hues_at" ["filling", "places"] (spHues Ps)
structure TxtC (P : Program) (w : World) (K : PySem.W.Frag) (mg : Str → Option Value) (base : Heap) (Ps : List Addr) : Prop extends TxtB P w K mg base Ps where
  c_is_broken : Cal P w K mg base 4 "is_broken" ["wish", "filling"] (spIsB Ps)
theorem atT {tk : List Int} {p : Int} (h0 : 0 ≤ p) (h1 : p < (tk.length : Int)) : tk[p.toNat]? = some (atF tk p) := by
  have h : p.toNat < tk.length := by omega
  rw [atF, getD_get h]
  exact List.getElem?_eq_getElem h
section
variable {P : Program} {w : World} {K : PySem.W.Frag} {mg : Str → Option Value} {base : Heap}
theorem ok_hues {f c Pt : Addr} {Ps : List Addr} {fd : FuncData} {k : Nat} (F : FunC K "hues_at" "hues_at" sHue f fd (.ref c)) (TB : GxR.TabB base mg c Pt) (hP : Pt ∈ Ps) (T : TxtN mg) : FnOk P w K mg base CX0 (k + 3) f fd ["filling", "places"] (spHues Ps) := by
  refine F.ok scHue (fun vs H Q E h => ?_) (fun A outer s H vs Q E hr h => ?_)
  · obtain ⟨fa, pa, fs, ps, many, hues, rfl, _⟩ := h
    rfl
  · obtain ⟨fa, pa, fs, ps, many, hues, rfl, hf, hp, gf, hpl, hl, hT, q⟩ := h
    refine ⟨_, (pss_one (ps_ret (Gx.pe_tupX (own := [("place", 2)]) (te := tOp (rIxT K) (tVar 0) (tVar 2)) hr (by rfl) T.m_tuple rfl scHue.nd TB rfl (blkOk_by (own := [("place", 2)]) (N := nHue) (sc := defScope sHue) (by decide +kernel)) ⟨rfl, by decide +kernel, rfl⟩ (pi_tup (pv 1))
   (fun _ _ _ _ _ _ hA => (pg_name (i := 2) scHue.nd rfl (Or.inl rfl))) (fun _ _ _ _ _ _ hA => pts_nil) (fun _ _ _ _ _ _ hA => (pe_ix ix_tup (pv 0) (pv 2) (fun _ _ => rfl)))))), ?_⟩
    refine ⟨.ref pa, rfl, pa, rfl, ⟨_, .inl (.inl hp)⟩, hT _ hP, fun H2 tb => ?_⟩
    have f2 := FrS.one hT hP tb
    refine Gx.tup_tup (K := K) (a := pa) (xs := ps.map V.int) (by rw [List.length_map]; exact Nat.le_of_lt (small1000 hl)) (fun i ys H3 => FrS Ps H H3 ∧ ys = (huesA fs (ps.take i)).map V.int) ⟨f2, rfl⟩ (fun i ys H3 _ f3 => .inl (.inl (f3.1.tups hT _ _ hp))) (fun i ys H3 f3 => ?_) (fun i x ys H3 hx f3 => ?_) (fun ys H3 f3 => ?_)
    · rw [f3.2, List.length_map, huesA, List.length_map, List.length_take]
      omega
    · obtain ⟨p, ep, rfl⟩ := map_get hx
      obtain ⟨f3, rfl⟩ := f3
      have hpp := hpl p (List.mem_of_getElem? ep)
      refine ⟨rfl, yes_if ?_⟩
      refine ⟨.ref fa, rfl, .int p, rfl, fa, _, p, _, rfl, rfl, .inl (.inl (f3.tups hT _ _ hf)), atI_fs gf hpp.1 hpp.2, f3, ?_⟩
      rw [take_snoc ep]
      simp [huesA]
    · obtain ⟨f3, rfl⟩ := f3
      rw [List.length_map, List.take_length]
      exact fun t nt => q _ t (f3.same (same_upd nt)) (f3.free nt) upd_same
theorem ok_isB {f : Addr} {Ps : List Addr} {fd : FuncData} {k : Nat} (F : Fun K "is_broken" "is_broken" sIsB f fd) (T : TxtB P w K mg base Ps) : FnOk P w K mg base CX0 (k + 4) f fd ["wish", "filling"] (spIsB Ps) := by
  refine F.ok scIsB (fun vs H Q E h => ?_) (fun cdv A outer s H vs Q E hr h => ?_)
  · obtain ⟨wa, fa, fs, wd, many, hues, rfl, _⟩ := h
    rfl
  · obtain ⟨wa, fa, fs, wd, many, hues, rfl, hw, hf, gf, gw, hm, hh, hT, q⟩ := h
    refine ⟨_, (pss_cons (ps_asg (pv 0) (pg_tup rfl (pgs_cons (pg_name (i := 2) scIsB.nd rfl (Or.inl rfl)) (pgs_cons (pg_name (i := 3) scIsB.nd rfl (Or.inl rfl)) pgs_nil))))
  (pss_one (ps_ret (pe_cmpR (Dt.op_inT (units65 hr)) (pe_cal T.c_hues_at (hr.mono (by omega)) (by rfl) (pa_cons (pv 1) (pa_cons (pv 2) pa_nil))) (pv 3) (by rfl))))), ?_⟩
    obtain ⟨pa, ra, rs, h1, h2, h3, h4⟩ := id hw
    refine ⟨.ref wa, rfl, wa, _, rfl, .inl (.inl h1), rfl, .ref pa, [.ref ra], rfl, .ref ra, [], rfl, rfl, ?_⟩
    have g3 := gw.three
    refine ⟨.ref fa, rfl, .ref pa, rfl, fa, pa, fs, wd.1, many, hues, rfl, hf, h2, gf, gw.pl, by omega, hT, fun H' t fr nt ht => ?_⟩
    have tp := fr.tups hT
    refine ⟨.ref ra, rfl, rowD (huesA fs wd.1), wd.2.map rowD, .tup (.inl (.inl ht)) (dpInts _), .tup (.inl (.inl (tp _ _ h3))) (dpRows (pairedMap (fun _ _ e => tp _ _ e) h4)), ?_, ?_, ?_⟩
    · refine (fine_row (fun z hz => ?_) ?_).shaped (by decide)
      · obtain ⟨p, hp, rfl⟩ := List.mem_map.mp hz
        have hpp := gw.pl p hp
        have e := List.mem_of_getElem? (at_some gf hpp.1 hpp.2)
        have := gf.hue _ e
        omega
      · simp [huesA]
        omega
    · refine (Fine.tuple (fineAll_map wd.2 (n := 2) (w := 64) fun r hr => fine_row (fun z hz => ?_) ?_)).shaped (by decide)
      · have := (gw.row r hr).2 z hz
        omega
      · have := (gw.row r hr).1
        omega
    · rw [anyRows]
      exact q H' fr
theorem ok_sta {f c Pt : Addr} {Ps : List Addr} {fd : FuncData} {k : Nat} (F : FunC K "standing" "standing" sSta f fd (.ref c)) (TB : GxR.TabB base mg c Pt) (hP : Pt ∈ Ps) (T : TxtN mg) : FnOk P w K mg base CX0 (k + 3) f fd ["table", "taken"] (spSta Ps) := by
  refine F.ok scSta (fun vs H Q E h => ?_) (fun A outer s H vs Q E hr h => ?_)
  · obtain ⟨ta, ka, tb, tk, rfl, _⟩ := h
    rfl
  · obtain ⟨ta, ka, tb, tk, rfl, ht, hk, gk, hl, hT, q⟩ := h
    refine ⟨_, (pss_one (ps_ret (Gx.pe_tupX (own := [("draws", 2), ("beyond", 3)]) (g := gTup K 2 (gCons (gName 2) (gCons (gName 3) gNil))) (te := tOp (rIxL K) (tVar 2) (tVar 3)) hr (by rfl) T.m_tuple rfl scSta.nd TB rfl (blkOk_by (own := [("draws", 2), ("beyond", 3)]) (N := nSta) (sc := defScope sSta) (by decide +kernel)) ⟨rfl, by decide +kernel, rfl⟩ (RZ.pi_zipA (by rfl) T.m_zip (pa_cons (pv 0) (pa_cons (pv 1) pa_nil)))
   (fun _ _ _ _ _ _ hA => (pg_tup rfl (pgs_cons (pg_name (i := 2) scSta.nd rfl (Or.inl rfl)) (pgs_cons (pg_name (i := 3) scSta.nd rfl (Or.inl rfl)) pgs_nil)))) (fun _ _ _ _ _ _ hA => pts_nil) (fun _ _ _ _ _ _ hA => (pe_ix ix_list (pv 2) (pv 3) (fun _ _ => rfl)))))), ?_⟩
    obtain ⟨das, h1, _, _, pr⟩ := id ht
    have dl := pairedLen pr
    have kl := gk.len
    refine ⟨.ref ta, rfl, .ref ka, rfl, ta, ka, das.map V.ref, tk.map V.int, rfl, .inl ⟨.inl (.inl h1), .inl (.inl hk), hT _ hP, fun H2 tb2 => ?_⟩⟩
    have f2 := FrS.one hT hP tb2
    refine Gx.tup_zipL (K := K) (a := ta) (b := ka) (xs := das.map V.ref) (ys := tk.map V.int) (by rw [List.length_map, List.length_map]; omega) (by rw [List.length_map]; exact Nat.le_of_lt (small1000 (by omega))) (fun i ys H3 => FrS Ps H H3 ∧ ys = ((stand tb tk).take i).map V.int) ⟨f2, rfl⟩ (fun i ys H3 f3 => ⟨.inl (.inl ((f3.1.seqs hT).2 _ _ h1)), .inl (.inl ((f3.1.seqs hT).2 _ _ hk))⟩) (fun i ys H3 f3 => ?_) (fun i x y T ys H3 hx hy f3 nT => ?_) (fun ys H3 f3 => ?_)
    · rw [f3.2, List.length_map, List.length_take]
      omega
    · obtain ⟨d, ed, rfl⟩ := map_get hx
      obtain ⟨n, en, rfl⟩ := map_get hy
      obtain ⟨f3, rfl⟩ := f3
      obtain ⟨ds, eds, hd⟩ := pairedGetL pr ed
      have hi : i < tb.length := (List.getElem?_eq_some_iff.mp eds).1
      have a := gk.at_ i hi
      have e1 : tb.getD i [] = ds := by rw [List.getD_eq_getElem?_getD, eds]; rfl
      have e2 : tk.getD i 0 = n := by rw [List.getD_eq_getElem?_getD, en]; rfl
      rw [e1, e2] at a
      have sT := same_upd (o := .tup [.ref d, .int n]) nT
      have f4 := f3.same sT
      refine ⟨T, _, rfl, .inl (.inl upd_same), rfl, .ref d, [.int n], rfl, .int n, [], rfl, rfl, rfl, yes_if ?_⟩
      refine ⟨.ref d, rfl, .int n, rfl, d, _, n, _, rfl, rfl, .inl (.inl ((f4.seqs hT).2 _ _ hd)), atI_of a.1 (atT a.1 a.2), f4, ?_⟩
      rw [take_snoc (stand_get gk hi), e1, e2, List.map_append]
      rfl
    · obtain ⟨f3, rfl⟩ := f3
      rw [List.length_map, List.take_of_length_le (by rw [stand_len gk]; omega)]
      exact fun t nt => q _ t (f3.same (same_upd nt)) (f3.free nt) upd_same
theorem ok_fib {f : Addr} {Ps : List Addr} {fd : FuncData} {k : Nat} (F : Fun K "first_broken" "first_broken" sFib f fd) (T : TxtC P w K mg base Ps) : FnOk P w K mg base CX0 (k + 5) f fd ["wishes", "order", "filling"] (spFib Ps) := by
  refine F.ok scFib (fun vs H Q E h => ?_) (fun cdv A outer s H vs Q E hr h => ?_)
  · obtain ⟨wt, oa, fa, was, wds, ord, fs, many, hues, rfl, _⟩ := h
    rfl
  · obtain ⟨wt, oa, fa, was, wds, ord, fs, many, hues, rfl, hw, pw, gr, ho, go, hf, gf, hT, q⟩ := h
    refine ⟨_, (pss_cons (ps_for PassesOwn.never rfl (pi_tup (pv 1)) (pg_name (i := 3) scFib.nd rfl (Or.inl rfl))
  (pss_one (ps_if (pt_val (pe_cal T.c_is_broken (hr.mono (by omega)) (by rfl) (pa_cons (pe_ix ix_tup (pv 0) (pv 3) (fun _ _ => rfl)) (pa_cons (pv 2) pa_nil))))
  (pss_one (ps_ret (pv 3))) pss_nil)))
  (pss_one (ps_ret pe_non))), ?_⟩
    have wl := pairedLen pw
    refine ⟨.ref oa, rfl, oa, rfl, ⟨_, .inl (.inl ho)⟩, ?_⟩
    refine for_tup (K := K) (a := oa) (xs := ord.map V.int) (fun i σ H3 => FrS Ps H H3 ∧ firstB fs wds ord = firstB fs wds (ord.drop i) ∧ ∃ y3, σ = [some (.ref wt), some (.ref oa), some (.ref fa), y3]) ⟨FrS.refl hT, by rw [List.drop_zero], none, rfl⟩ (fun i σ H3 _ p => .inl (.inl (p.1.tups hT _ _ ho))) (fun i x σ H3 hx p => ?_) (fun σ H3 p => ?_)
    · obtain ⟨z, ez, rfl⟩ := map_get hx
      obtain ⟨f3, e3, y3, rfl⟩ := p
      have hz := go z (List.mem_of_getElem? ez)
      have hzn : z.toNat < was.length := by omega
      obtain ⟨wd, hwd, isw⟩ := pairedGetL pw (List.getElem?_eq_getElem hzn)
      have gw := gr.each wd (List.mem_of_getElem? hwd)
      have hdr : ord.drop i = z :: ord.drop (i + 1) := by
        have hi := (List.getElem?_eq_some_iff.mp ez)
        rw [List.drop_eq_getElem_cons hi.1, hi.2]
      refine ⟨.ref wt, rfl, .int z, rfl, wt, _, z, _, rfl, rfl, .inl (.inl (f3.tups hT _ _ hw)), atI_of hz.1 (List.getElem?_eq_getElem hzn), .ref fa, rfl, _, fa, fs, wd, many, hues, rfl, isw.mono (f3.tups hT), f3.tups hT _ _ hf, gf, gw, gr.m6, gr.h4, f3.2, fun H4 f4 => ⟨_, rfl, ite2 (fun e => ?_) (fun e => ?_)⟩⟩
      · refine ⟨.int z, rfl, ?_⟩
        have e5 : firstB fs wds ord = some z := by
          rw [e3, hdr, firstB, List.find?_cons, brkAt_of hwd, e]
        have := q H4 (f3.trans f4)
        rw [e5] at this
        exact this
      · refine ⟨f3.trans f4, ?_, _, rfl⟩
        rw [e3, hdr, firstB, List.find?_cons, brkAt_of hwd]
        have e6 : brk fs wd = false := by
          cases c : brk fs wd with
          | true => exact absurd c e
          | false => rfl
        rw [e6]
        rfl
    · obtain ⟨f3, e3, y3, rfl⟩ := p
      have := q H3 f3
      rw [List.length_map, List.drop_length] at e3
      rw [e3] at this
      exact this
theorem ok_hnx {f c Pt : Addr} {Ps : List Addr} {fd : FuncData} {k : Nat} (F : FunC K "have_next" "have_next" sHnx f fd (.ref c)) (TB : GxR.TabB base mg c Pt) (hP : Pt ∈ Ps) (T : TxtN mg) : FnOk P w K mg base CX0 (k + 2) f fd ["table", "taken", "places"] (spHnx Ps) := by
  refine F.ok scHnx (fun vs H Q E h => ?_) (fun A outer s H vs Q E hr h => ?_)
  · obtain ⟨ta, ka, pa, tb, tk, ps, rfl, _⟩ := h
    rfl
  · obtain ⟨ta, ka, pa, tb, tk, ps, rfl, ht, hk, kl, hp, hpl, hT, q⟩ := h
    refine ⟨_, (pss_one (ps_ret (Gx.pe_allX (own := [("place", 3)]) (te := tOp (rI0 fun i j => .bl (decide (i < j))) (tOp (rI0 fun i j => .int (i + j)) (tOp (rIxL K) (tVar 1) (tVar 3)) (tC (.int 1))) (tCB (rLen K) (tCons (tOp (rIxL K) (tVar 0) (tVar 3)) tNil))) hr (by rfl) T.m_all rfl scHnx.nd TB rfl (blkOk_by (own := [("place", 3)]) (N := nHnx) (sc := defScope sHnx) (by decide +kernel)) ⟨rfl, by decide +kernel, rfl⟩ (pi_tup (pv 2))
   (fun _ _ _ _ _ _ hA => (pg_name (i := 3) scHnx.nd rfl (Or.inl rfl))) (fun _ _ _ _ _ _ hA => pts_nil) (fun _ _ _ _ _ _ hA => (pe_cmpR op_lt (pe_op op_add (pe_ix ix_list (pv 1) (pv 3) (fun _ _ => rfl)) pe_int) (pe_callB call_len_seq (by rfl) T.m_len (by decide +kernel) (pa_cons (pe_ix ix_list (pv 0) (pv 3) (fun _ _ => rfl)) pa_nil)) (nomark _)))))), ?_⟩
    obtain ⟨das, h1, _, _, pr⟩ := id ht
    have dl := pairedLen pr
    refine ⟨.ref pa, rfl, pa, rfl, ⟨_, .inl (.inl hp)⟩, hT _ hP, fun H2 tb2 => ?_⟩
    have f2 := FrS.one hT hP tb2
    refine Gx.all_tup (K := K) (a := pa) (xs := ps.map V.int) (fun i H3 => FrS Ps H H3 ∧ canN tb tk (ps.take i) = true) ⟨f2, rfl⟩ (fun i H3 _ f3 => .inl (.inl (f3.1.tups hT _ _ hp))) (fun i x H3 hx f3 => ?_) (fun H3 f3 => ?_)
    · obtain ⟨p, ep, rfl⟩ := map_get hx
      obtain ⟨f3, e3⟩ := f3
      have hpp := hpl p (List.mem_of_getElem? ep)
      have hpn : p.toNat < das.length := by omega
      obtain ⟨ds, eds, hd⟩ := pairedGetL pr (List.getElem?_eq_getElem hpn)
      have sq := f3.seqs hT
      have e1 : lenAt tb p = (ds.length : Int) := by rw [lenAt, List.getD_eq_getElem?_getD, eds]; rfl
      refine ⟨rfl, yes_if ?_⟩
      refine ⟨.ref ka, rfl, .int p, rfl, ka, _, p, _, rfl, rfl, .inl (.inl (sq.2 _ _ hk)), atI_of hpp.1 (atT hpp.1 (by omega)), _, _, rfl, rfl, .ref ta, rfl, .int p, rfl, ta, _, p, _, rfl, rfl, .inl (.inl (sq.2 _ _ h1)), atI_of hpp.1 (List.getElem?_eq_getElem hpn), _, _, rfl, .inl (.inl (.inl (sq.2 _ _ hd))), _, _, rfl, rfl, _, rfl, ?_⟩
      have e4 : canN tb tk (ps.take (i + 1)) = (canN tb tk (ps.take i) && decide (atF tk p + 1 < lenAt tb p)) := by
        rw [take_snoc ep, canN, canN, List.all_append]
        simp
      rw [List.length_map, ← e1]
      cases c : decide (atF tk p + 1 < lenAt tb p) with
      | true =>
        rw [if_pos rfl]
        exact ⟨f3, by rw [e4, e3, c]; rfl⟩
      | false =>
        rw [if_neg (by decide)]
        have e5 : canN tb tk ps = false := by
          rw [canN, List.all_eq_false]
          exact ⟨p, List.mem_of_getElem? ep, by rw [c]; decide⟩
        have := q H3 f3
        rw [e5] at this
        exact this
    · obtain ⟨f3, e3⟩ := f3
      rw [List.length_map, List.take_length] at e3
      have := q H3 f3
      rw [e3] at this
      exact this
end
end Rd

set_option Elab.async false
set_option linter.all false
set_option maxRecDepth 100000
set_option maxHeartbeats 4000000
namespace Rd
open PySem PySem.Spec PyProof.Rows L2 Dt
abbrev sRun : Stmt := topS 35
abbrev nRun : List Str := ["riddle", "table", "order", "wishes", "taken", "filling", "log", "number", "places", "place"]
theorem scRun : FnScope nRun ["riddle", "table", "order"] (defScope sRun) := ⟨rfl, rfl, rfl, by decide +kernel, rfl, by decide +kernel, by decide +kernel⟩
structure RunIn (H : Hp) (ri ta oa : Addr) (many hues : Int) (wds : List WD) (tb : List (List Int)) (ord : List Int) : Prop where
  rid : IsRid H ri many hues wds
  gr : GoodR many hues wds
  nd : ∀ wd ∈ wds, wd.1.Nodup
  tab : IsTab (fun _ => False) H ta tb
  gt : GoodT many hues tb
  ho : H oa = some (.tup (ord.map V.int))
  go : GoodO wds.length ord
theorem RunIn.seqs {H H' : Hp} {ri ta oa : Addr} {many hues : Int} {wds : List WD} {tb : List (List Int)} {ord : List Int} (h : RunIn H ri ta oa many hues wds tb ord) (s : Seqs H H') : RunIn H' ri ta oa many hues wds tb ord := ⟨h.rid.mono s.1, h.gr, h.nd, h.tab.seqs s, h.gt, s.1 _ _ h.ho, h.go⟩
def spRun (Ps : List Addr) : Sp := fun vs H Q _ => ∃ (ri ta oa : Addr) (many hues : Int) (wds : List WD) (tb : List (List Int)) (ord : List Int), vs = [.ref ri, .ref ta, .ref oa] ∧ RunIn H ri ta oa many hues wds tb ord ∧ Tabs Ps H ∧
  ∀ H' t R, FrS Ps H H' → H t = none → runOf wds tb ord = some R → IsRes H H' t R → Q (.ref t) H'
structure TxtD (P : Program) (w : World) (K : PySem.W.Frag) (mg : Str → Option Value) (base : Heap) (Ps : List Addr) : Prop where
  m_len : mg "len" = none
  c_hues_at : Cal P w K mg base 3 "hues_at" ["filling", "places"] (spHues Ps)
  c_standing : Cal P w K mg base 3 "standing" ["table", "taken"] (spSta Ps)
  c_first_broken : Cal P w K mg base 5 "first_broken" ["wishes", "order", "filling"] (spFib Ps)
  c_have_next : Cal P w K mg base 2 "have_next" ["table", "taken", "places"] (spHnx Ps)
theorem rep0 (n : Nat) : (List.replicate n [V.int 0]).flatten = (zerosI n).map V.int := by
  unfold zerosI
  rw [List.map_replicate]
  induction n with
  | zero => rfl
  | succ n ih => rw [List.replicate_succ, List.flatten_cons, ih, List.replicate_succ]; rfl
theorem bumpA_snoc (tk ps : List Int) (p : Int) : bumpA tk (ps ++ [p]) = bump (bumpA tk ps) p.toNat := by
  unfold bumpA
  rw [List.foldl_append]
  rfl
theorem bumpA_len (tk : List Int) : ∀ ps : List Int, (bumpA tk ps).length = tk.length := fun ps => by
  unfold bumpA
  induction ps generalizing tk with
  | nil => rfl
  | cons p r ih => rw [List.foldl_cons, ih, bump_len]
section
variable {P : Program} {w : World} {K : PySem.W.Frag} {mg : Str → Option Value} {base : Heap}
set_option maxHeartbeats 16000000 in
theorem ok_run {f : Addr} {Ps : List Addr} {fd : FuncData} {k : Nat} (F : Fun K "run" "run" sRun f fd) (T : TxtD P w K mg base Ps) : FnOk P w K mg base CX0 (k + 6) f fd ["riddle", "table", "order"] (spRun Ps) := by
  refine F.ok scRun (fun vs H Q E h => ?_) (fun cdv A outer s H vs Q E hr h => ?_)
  · obtain ⟨ri, ta, oa, many, hues, wds, tb, ord, rfl, _⟩ := h
    rfl
  · obtain ⟨ri, ta, oa, many, hues, wds, tb, ord, rfl, hin, hT, q⟩ := h
    obtain ⟨rid, gr, nd, tab, gt, ho, go⟩ := id hin
    refine ⟨_, (pss_cons (ps_set (i := 3) scRun.nd rfl (Or.inl rfl) (pe_ix ix_tup (pv 0) pe_int (fun _ _ => rfl)))
  (pss_cons (ps_set (i := 4) scRun.nd rfl (Or.inl rfl) (pe_op op_rep (pe_lst (pa_cons pe_int pa_nil)) (pe_callB call_len_seq (by rfl) T.m_len (by decide +kernel) (pa_cons (pv 1) pa_nil))))
  (pss_cons (ps_set (i := 5) scRun.nd rfl (Or.inl rfl) (pe_cal T.c_standing (hr.mono (by omega)) (by rfl) (pa_cons (pv 1) (pa_cons (pv 4) pa_nil))))
  (pss_cons (ps_set (i := 6) scRun.nd rfl (Or.inl rfl) (pe_lst pa_nil))
  (pss_cons (ps_set (i := 7) scRun.nd rfl (Or.inl rfl) (pe_cal T.c_first_broken (hr.mono (by omega)) (by rfl) (pa_cons (pv 3) (pa_cons (pv 2) (pa_cons (pv 5) pa_nil)))))
  (pss_cons (ps_while PassesOwn.never (pt_cmpR op_notN (pv 7) pe_non (nomark _))
  (pss_cons (ps_set (i := 8) scRun.nd rfl (Or.inl rfl) (pe_ix ix_tup (pe_ix ix_tup (pv 3) (pv 7) (fun _ _ => rfl)) pe_int (fun _ _ => rfl)))
  (pss_cons (ps_if (pt_not (pt_val (pe_cal T.c_have_next (hr.mono (by omega)) (by rfl) (pa_cons (pv 1) (pa_cons (pv 4) (pa_cons (pv 8) pa_nil))))))
  (pss_one (ps_ret (pe_tup (pa_cons pe_str (pa_cons (pv 5) (pa_cons (pv 6) pa_nil)))))) pss_nil)
  (pss_cons (ps_expr (pe_bm PySem.F.plainAttrs_list PySem.F.slot_list_append PySem.F.type_list_append mt_append (pv 6) (pa_cons (pe_tup (pa_cons (pv 7) (pa_cons (pe_cal T.c_hues_at (hr.mono (by omega)) (by rfl) (pa_cons (pv 5) (pa_cons (pv 8) pa_nil))) pa_nil))) pa_nil)))
  (pss_cons (ps_for PassesOwn.never rfl (pi_tup (pv 8)) (pg_name (i := 9) scRun.nd rfl (Or.inl rfl))
  (pss_one (ps_augS (pv 4) (pv 9) Cp.pget_list pe_int ip_add set_list)))
  (pss_cons (ps_set (i := 5) scRun.nd rfl (Or.inl rfl) (pe_cal T.c_standing (hr.mono (by omega)) (by rfl) (pa_cons (pv 1) (pa_cons (pv 4) pa_nil))))
  (pss_one (ps_set (i := 7) scRun.nd rfl (Or.inl rfl) (pe_cal T.c_first_broken (hr.mono (by omega)) (by rfl) (pa_cons (pv 3) (pa_cons (pv 2) (pa_cons (pv 5) pa_nil))))))))))))
  (pss_one (ps_ret (pe_tup (pa_cons pe_str (pa_cons (pv 5) (pa_cons (pv 6) pa_nil)))))))))))), ?_⟩
    obtain ⟨wt, was, h1, h2, h3⟩ := id rid
    obtain ⟨das, ht1, _, _, pr⟩ := id tab
    have wl := pairedLen h3
    have dl := pairedLen pr
    have tl := gt.len
    have m6 := gr.m6
    obtain ⟨R, hR, gfR, okR, lR⟩ := runOf_some gr nd gt go
    -- wishes, taken
    refine ⟨.ref ri, rfl, ri, _, 2, _, rfl, rfl, .inl (.inl h1), atI_nat (j := 2) rfl, (by show 1 ≤ sizeLine; decide), fun l0 nl0 => ?_⟩
    have s0 := same_upd (o := .lst [V.int 0]) nl0
    refine ⟨.ref ta, rfl, ta, _, rfl, .inl (.inl (.inl (s0 _ _ ht1))), l0, _, _, rfl, rfl, upd_same, by rw [List.length_map]; omega, by rw [List.length_map]; omega, ?_, fun ka nka => ?_⟩
    · rw [List.length_map]
      show 1 * _ ≤ sizeLine
      exact Nat.le_of_lt (small1000 (by omega))
    have ez : (List.replicate ((das.map V.ref).length : Int).toNat [V.int 0]).flatten = (zerosI tb.length).map V.int := by rw [rep0, List.length_map, dl]; rfl
    rw [ez]
    have nka0 : H ka = none := s0.free nka
    have s1 := s0.trans (same_upd (o := .lst ((zerosI tb.length).map V.int)) nka)
    have hk1 : upd (upd H l0 (.lst [V.int 0])) ka (.lst ((zerosI tb.length).map V.int)) ka = some (.lst ((zerosI tb.length).map V.int)) := upd_same
    generalize upd (upd H l0 (.lst [V.int 0])) ka (.lst ((zerosI tb.length).map V.int)) = H1 at s1 hk1
    have F1 := FrS.of hT s1
    have nkP : ka ∉ Ps := hT.new nka0
    have in1 := hin.seqs (seqs_same s1)
    -- filling
    refine ⟨.ref ta, rfl, .ref ka, rfl, ta, ka, tb, zerosI tb.length, rfl, in1.tab, hk1, zeros_good gt, by omega, F1.2, fun H2 fa f2 nfa hfa => ?_⟩
    have F2 := F1.trans f2
    have hk2 := f2.1 ka _ nkP hk1
    -- log
    refine ⟨(by show 0 ≤ sizeLine; decide), fun la nla => ?_⟩
    have s3 := same_upd (o := .lst []) nla
    have nla0 : H la = none := F2.free nla
    have nlP : la ∉ Ps := hT.new nla0
    have nlk : la ≠ ka := (ne_of_none hk2 nla).symm
    have F3 := F2.same s3
    have hl3 : upd H2 la (.lst []) la = some (.lst []) := upd_same
    have hk3 := s3 _ _ hk2
    have hfa3 := s3 _ _ hfa
    generalize upd H2 la (.lst []) = H3 at s3 F3 hl3 hk3 hfa3
    have in3 := hin.seqs (F3.seqs hT)
    have w3 : ∀ {H'}, FrS Ps H H' → H' wt = some (.tup (was.map V.ref)) ∧ Paired (IsWish H') was wds := fun fr => ⟨fr.tups hT _ _ h2, pairedMap (fun _ _ e => IsWish.mono (fr.tups hT) e) h3⟩
    -- number
    refine ⟨.ref wt, rfl, .ref oa, rfl, .ref fa, rfl, wt, oa, fa, was, wds, ord, _, many, hues, rfl, (w3 F3).1, (w3 F3).2, gr, in3.ho, go.mem, hfa3, stand_good gt (zeros_good gt), F3.2, fun H4 f4 => ?_⟩
    have F4 := F3.trans f4
    -- the loop
    refine ⟨fun m σ Hm => FrS Ps H Hm ∧ ∃ (tk : List Int) (log : Log) (fa : Addr), Hm ka = some (.lst (tk.map V.int)) ∧ GoodK tb tk ∧ Hm fa = some (.tup ((stand tb tk).map V.int)) ∧ IsLog Hm la log ∧ LogOk wds log ∧ log.length + rem tb tk ≤ 6000 ∧ goR wds tb ord m tk log = some R ∧
      ∃ y8 y9, σ = [some (.ref ri), some (.ref ta), some (.ref oa), some (.ref wt), some (.ref ka), some (.ref fa), some (.ref la), some (vOpt (firstB (stand tb tk) wds ord)), y8, y9], ⟨rem tb (zerosI tb.length) + 1, F4, zerosI tb.length, [], fa, f4.1 ka _ nkP hk3, zeros_good gt, f4.tups F3.2 _ _ hfa3, ⟨[], f4.1 la _ nlP hl3, .nil⟩, LogOk.nil _, ?_, hR, none, none, rfl⟩, ?_⟩
    · have a := rem_le tb (zerosI tb.length) 1000 gt.few
      have : tb.length ≤ 6 := by omega
      rw [List.length_nil]
      omega
    · rintro m σ Hm ⟨Fm, tk, log, fa, hk, gk, hfa, hlog, okl, bl, hgo, y8, y9, rfl⟩
      have inm := hin.seqs (Fm.seqs hT)
      have hTm := Fm.2
      cases m with
      | zero => exact nomatch hgo
      | succ m =>
      rw [goR] at hgo
      cases ef : firstB (stand tb tk) wds ord with
      | none =>
        rw [ef] at hgo
        have eR : (true, stand tb tk, log) = R := Option.some.inj hgo
        refine ⟨.non, rfl, rfl, _, rfl, iteF ?_⟩
        refine ⟨.ref fa, rfl, .ref la, rfl, (by show 3 ≤ sizeLine; decide), fun t nt => ?_⟩
        have st := same_upd (o := .tup [.str "kept", .ref fa, .ref la]) nt
        refine q _ t R (Fm.same st) (Fm.free nt) hR ?_
        rw [← eR]
        exact ⟨fa, la, upd_same, st _ _ hfa, hlog.seqs (seqs_same st), nla0⟩
      | some k =>
        rw [ef] at hgo
        dsimp only at hgo
        obtain ⟨hk1', hbk⟩ := first_some ef
        obtain ⟨k0, k1⟩ := go.mem k hk1'
        obtain ⟨wd, hw, he⟩ := wd_of k0 k1
        have gw := gr.each wd (List.mem_of_getElem? hw)
        have kn : k.toNat < was.length := by omega
        obtain ⟨wd', hw', isw⟩ := pairedGetL (w3 Fm).2 (List.getElem?_eq_getElem kn)
        rw [hw] at hw'
        cases hw'
        obtain ⟨pa, ra, rs, i1, i2, i3, i4⟩ := id isw
        have g3 := gw.three
        refine ⟨.int k, rfl, rfl, _, rfl, iteT ?_⟩
        refine ⟨fun σ' Hn => FrS Ps H Hn ∧ ∃ (tk : List Int) (log : Log) (fa : Addr), Hn ka = some (.lst (tk.map V.int)) ∧ GoodK tb tk ∧ Hn fa = some (.tup ((stand tb tk).map V.int)) ∧ IsLog Hn la log ∧ LogOk wds log ∧ log.length + rem tb tk ≤ 6000 ∧ goR wds tb ord m tk log = some R ∧
          ∃ y8 y9, σ' = [some (.ref ri), some (.ref ta), some (.ref oa), some (.ref wt), some (.ref ka), some (.ref fa), some (.ref la), some (vOpt (firstB (stand tb tk) wds ord)), y8, y9], fun σ' H' n => ⟨m, Nat.lt_succ_self _, n⟩, ?_⟩
        -- places
        refine ⟨.ref wt, rfl, .int k, rfl, wt, _, k, _, rfl, rfl, .inl (.inl (w3 Fm).1), atI_of k0 (List.getElem?_eq_getElem kn), _, _, 0, _, rfl, rfl, .inl (.inl i1), atI_nat (j := 0) rfl, ?_⟩
        have hpr : ∀ p ∈ wd.1, 0 ≤ p ∧ p < (tb.length : Int) := fun p hp => by
          have := gw.pl p hp
          omega
        refine ⟨.ref ta, rfl, .ref ka, rfl, .ref pa, rfl, ta, ka, pa, tb, tk, wd.1, rfl, inm.tab, hk, gk.len, i2, hpr, hTm, fun H5 f5 => ⟨_, rfl, ite2 (fun e => ?_) (fun e => ?_)⟩⟩
        · have ec : canN tb tk wd.1 = false := by
            cases c : canN tb tk wd.1 with
            | true => rw [c] at e; exact absurd e (by decide)
            | false => rfl
          rw [← he] at ec
          rw [ec, if_neg (by decide)] at hgo
          have eR : (false, stand tb tk, log) = R := Option.some.inj hgo
          have F5 := Fm.trans f5
          refine ⟨.ref fa, rfl, .ref la, rfl, (by show 3 ≤ sizeLine; decide), fun t nt => ?_⟩
          have st := same_upd (o := .tup [.str "spent", .ref fa, .ref la]) nt
          refine q _ t R (F5.same st) (F5.free nt) hR ?_
          rw [← eR]
          exact ⟨fa, la, upd_same, st _ _ (f5.tups hTm _ _ hfa), (hlog.seqs (f5.seqs hTm)).seqs (seqs_same st), nla0⟩
        · have ec : canN tb tk wd.1 = true := by
            cases c : canN tb tk wd.1 with
            | true => rfl
            | false => rw [c] at e; exact absurd rfl e
          rw [← he] at ec
          rw [ec, if_pos rfl] at hgo
          have hgo2 : goR wds tb ord m (bumpA tk (plc wds k)) (log ++ [(k, huesA (stand tb tk) (plc wds k))]) = some R := hgo
          have cn := can_of gr nd gt hw he ec
          obtain ⟨g2, r2⟩ := bumpA_good gk cn
          have one := gw.one
          have F5 := Fm.trans f5
          have sq5 := f5.seqs hTm
          have hlog5 := hlog.seqs sq5
          obtain ⟨es, hl5, pe⟩ := hlog5
          have el := pairedLen pe
          -- log
          refine ⟨.ref la, rfl, .inl ⟨rfl, _, .inl (.inl hl5)⟩, .int k, rfl, .ref fa, rfl, .ref pa, rfl, fa, pa, _, wd.1, many, hues, rfl, sq5.1 _ _ hfa, sq5.1 _ _ i2, stand_good gt gk, gw.pl, by omega, f5.2, fun H6 r f6 nr hr6 => ?_⟩
          have F6 := F5.trans f6
          refine ⟨(by show 2 ≤ sizeLine; decide), fun e6 ne6 => ?_⟩
          have s7 := same_upd (o := .tup [.int k, .ref r]) ne6
          have hl6 := f6.1 la _ nlP hl5
          refine ⟨la, _, .ref e6, rfl, rfl, s7 _ _ hl6, ?_, ?_⟩
          · rw [List.length_map, el]
            exact Nat.lt_of_le_of_lt (show log.length ≤ 6000 by omega) (by decide)
          have hl7 : upd H6 e6 (.tup [.int k, .ref r]) la = some (.lst (es.map V.ref)) := s7 _ _ hl6
          have F7 : FrS Ps H (upd (upd H6 e6 (.tup [.int k, .ref r])) la (.lst (es.map V.ref ++ [.ref e6]))) := (F6.same s7).put nla0 nlP
          have tu7 : Tups H6 (upd (upd H6 e6 (.tup [.int k, .ref r])) la (.lst (es.map V.ref ++ [.ref e6]))) := (tups_same s7).trans (tups_upd fun xs z => by rw [hl7] at z; cases z)
          have hlog7 : IsLog (upd (upd H6 e6 (.tup [.int k, .ref r])) la (.lst (es.map V.ref ++ [.ref e6]))) la (log ++ [(k, huesA (stand tb tk) (plc wds k))]) := by
            refine ⟨es ++ [e6], by rw [upd_same, List.map_append]; rfl, pairedSnoc (pairedMap (fun _ _ e => e.mono ((f6.tups f5.2).trans tu7)) pe) ⟨r, ?_, ?_⟩⟩
            · rw [upd_ne (fun z => by rw [z, hl6] at ne6; cases ne6)]
              exact upd_same
            · rw [he]
              exact tu7 _ _ hr6
          have hk7 : upd (upd H6 e6 (.tup [.int k, .ref r])) la (.lst (es.map V.ref ++ [.ref e6])) ka = some (.lst (tk.map V.int)) := by
            rw [upd_ne (Ne.symm nlk)]
            exact s7 _ _ (f6.1 ka _ nkP (f5.1 ka _ nkP hk))
          have hpa7 := tu7 _ _ (f6.tups f5.2 _ _ (sq5.1 _ _ i2))
          generalize upd (upd H6 e6 (.tup [.int k, .ref r])) la (.lst (es.map V.ref ++ [.ref e6])) = H7 at F7 hlog7 hk7 hpa7
          -- taken
          refine ⟨.ref pa, rfl, pa, rfl, ⟨_, .inl (.inl hpa7)⟩, ?_⟩
          refine for_tup (K := K) (a := pa) (xs := wd.1.map V.int) (fun i σ H8 => FrS Ps H H8 ∧ (∀ b o, b ≠ ka → H7 b = some o → H8 b = some o) ∧ H8 ka = some (.lst ((bumpA tk (wd.1.take i)).map V.int)) ∧ ∃ y9, σ = [some (.ref ri), some (.ref ta), some (.ref oa), some (.ref wt), some (.ref ka), some (.ref fa), some (.ref la), some (.int k), some (.ref pa), y9]) ⟨F7, fun _ _ _ e => e, hk7, _, rfl⟩ (fun i σ H8 _ p => .inl (.inl (p.2.1 _ _ (fun z => by rw [z, hk7] at hpa7; cases hpa7) hpa7))) (fun i x σ H8 hx pp => ?_) (fun σ H8 pp => ?_)
          · obtain ⟨F8, kp8, hk8, y9', rfl⟩ := pp
            obtain ⟨p, ep, rfl⟩ := map_get hx
            have hpp := hpr p (List.mem_of_getElem? ep)
            have hpl : p < ((bumpA tk (wd.1.take i)).length : Int) := by rw [bumpA_len, gk.len]; exact hpp.2
            have hat := atT hpp.1 hpl
            refine ⟨.ref ka, rfl, .int p, rfl, ka, _, p.toNat, _, rfl, congrArg V.int (by omega), .inl (.inl hk8), map_at hat, _, 1, rfl, rfl, ka, _, p, p.toNat, rfl, rfl, hk8, ?_, ?_⟩
            · rw [List.length_map]
              exact ixN_of hpp.1 hpl
            · refine ⟨F8.put nka0 nkP, fun b o n e => by rw [upd_ne n]; exact kp8 b o n e, ?_, _, rfl⟩
              rw [upd_same, take_snoc ep, bumpA_snoc, bump_eq hat, List.map_set]
          · obtain ⟨F8, kp8, hk8, y9', rfl⟩ := pp
            rw [List.length_map, List.take_length, ← he] at hk8
            have in8 := hin.seqs (F8.seqs hT)
            -- filling
            refine ⟨.ref ta, rfl, .ref ka, rfl, ta, ka, tb, _, rfl, in8.tab, hk8, g2, by omega, F8.2, fun H9 fa9 f9 nfa9 hfa9 => ?_⟩
            have F9 := F8.trans f9
            have in9 := hin.seqs (F9.seqs hT)
            -- number
            refine ⟨.ref wt, rfl, .ref oa, rfl, .ref fa9, rfl, wt, oa, fa9, was, wds, ord, _, many, hues, rfl, (w3 F9).1, (w3 F9).2, gr, in9.ho, go.mem, hfa9, stand_good gt g2, F9.2, fun H10 f10 => ?_⟩
            have F10 := F9.trans f10
            have sq : Seqs H8 H10 := (f9.seqs F8.2).trans (f10.seqs F9.2)
            have hlog8 : IsLog H8 la (log ++ [(k, huesA (stand tb tk) (plc wds k))]) := hlog7.keep (fun b xs e => kp8 b _ (fun z => by rw [z, hk7] at e; cases e) e) fun xs e => kp8 _ _ nlk e
            refine ⟨F10, bumpA tk (plc wds k), _, fa9, sq.2 _ _ hk8, g2, f10.tups F9.2 _ _ hfa9, hlog8.seqs sq, okl.snoc k0 k1 hw he hbk, ?_, hgo2, _, _, rfl⟩
            rw [List.length_append, List.length_singleton]
            rw [he] at r2
            rw [he]
            omega
end
end Rd

set_option Elab.async false
set_option linter.all false
set_option maxRecDepth 100000
set_option maxHeartbeats 4000000
namespace Rd
open PySem PySem.Spec PyProof.Rows L2 Dt
abbrev sPow : Stmt := topS 46
abbrev nPow : List Str := ["number", "many", "found", "turn"]
theorem scPow : FnScope nPow ["number", "many"] (defScope sPow) := ⟨rfl, rfl, rfl, by decide +kernel, rfl, by decide +kernel, by decide +kernel⟩
theorem pow_small : ∀ n : Fin 5, ∀ i : Fin 7, ((n : Nat) : Int) ^ (i : Nat) ≤ 4096 ∧ 0 ≤ ((n : Nat) : Int) ^ (i : Nat) := by decide
theorem pow_bd {n : Int} {i : Nat} (h0 : 0 ≤ n) (h4 : n ≤ 4) (hi : i ≤ 6) : n ^ i ≤ 4096 ∧ 0 ≤ n ^ i := by
  obtain ⟨m, rfl⟩ : ∃ m : Nat, n = m := ⟨n.toNat, by omega⟩
  exact pow_small ⟨m, by omega⟩ ⟨i, by omega⟩
theorem pow_wishF : ∀ n : Fin 3, ∀ m : Fin 3, 2 ≤ (((n : Nat) : Int) + 2) ^ ((m : Nat) + 1) ∧ (((n : Nat) : Int) + 2) ^ ((m : Nat) + 1) ≤ 64 := by decide
theorem pow_wish {h s : Int} (h2 : 2 ≤ h) (h4 : h ≤ 4) (s1 : 1 ≤ s) (s3 : s ≤ 3) : 2 ≤ h ^ s.toNat ∧ h ^ s.toNat ≤ 64 := by
  obtain ⟨n, rfl⟩ : ∃ n : Nat, h = (n : Int) + 2 := ⟨(h - 2).toNat, by omega⟩
  obtain ⟨m, rfl⟩ : ∃ m : Nat, s = (m : Int) + 1 := ⟨(s - 1).toNat, by omega⟩
  have e : ((m : Int) + 1).toNat = m + 1 := by omega
  rw [e]
  exact pow_wishF ⟨n, by omega⟩ ⟨m, by omega⟩
/-- its rows rise -/
def Up (wd : WD) : Prop := wd.2.Pairwise fun f g => HT.lexLt f g = true
theorem code_lexU {B : Int} : ∀ (a b : List Int), a.length = b.length → TS.Bd B a → TS.Bd B b → TS.code B a ≤ TS.code B b → a ≠ b → HT.lexLt a b = true
  | [], [], _, _, _, _, n => absurd rfl n
  | [], _ :: _, l, _, _, _, _ => by simp at l
  | _ :: _, [], l, _, _, _, _ => by simp at l
  | x :: a, y :: b, l, ha, hb, h, n => by
    have l' : a.length = b.length := by simpa using l
    have ha' : TS.Bd B a := fun m hm => ha m (List.mem_cons_of_mem _ hm)
    have hb' : TS.Bd B b := fun m hm => hb m (List.mem_cons_of_mem _ hm)
    rw [HT.lexLt]
    by_cases e : x = y
    · subst e
      rw [if_pos rfl]
      refine code_lexU a b l' ha' hb' ?_ (fun z => n (by rw [z]))
      have z := (TS.code_same (B := B) (d := x) l'.symm).mpr
      by_cases c : TS.code B b < TS.code B a
      · have := z c
        omega
      · omega
    · rw [if_neg e]
      refine decide_eq_true ?_
      have z := TS.code_lt (B := B) (d := y) (e := x) l'.symm hb' ha'
      by_cases c : y < x
      · have := z c
        omega
      · omega
def spPow : Sp := fun vs H Q _ => ∃ n m : Int, vs = [.int n, .int m] ∧ 0 ≤ n ∧ n ≤ 4 ∧ 0 ≤ m ∧ m ≤ 6 ∧ Q (.int (n ^ m.toNat)) H
def spWis : Sp := fun vs H Q _ => ∃ (wl cl : Addr) (many hues : Int), vs = [.ref wl, .int many, .int hues] ∧ Well H wl cl ∧ 1 ≤ many ∧ many ≤ 6 ∧ 2 ≤ hues ∧ hues ≤ 4 ∧
  ∀ H' wa wd, Drawn wl cl H H' → IsWish H' wa wd → Good many hues wd → Neat wd ∧ Up wd → Q (.ref wa) H'
structure TxtW (P : Program) (w : World) (K : PySem.W.Frag) (mg : Str → Option Value) (base : Heap) : Prop where
  m_range : mg "range" = none
  m_list : mg "list" = none
  m_min : mg "min" = none
  m_max : mg "max" = none
  m_len : mg "len" = none
  m_sorted : mg "sorted" = none
  m_tuple : mg "tuple" = none
  c__law_draw : Cal P w K mg base 1 "_law_draw" ["well", "many"] spDraw
  c__law_power : Cal P w K mg base 1 "_law_power" ["number", "many"] spPow
section
variable {P : Program} {w : World} {K : PySem.W.Frag} {mg : Str → Option Value} {base : Heap}
theorem ok_pow {f : Addr} {fd : FuncData} {k : Nat} (F : Fun K "_law_power" "_law_power" sPow f fd) (mr : mg "range" = none) : FnOk P w K mg base CX0 (k + 1) f fd ["number", "many"] spPow := by
  refine F.ok scPow (fun vs H Q E h => ?_) (fun cdv A outer s H vs Q E hr h => ?_)
  · obtain ⟨n, m, rfl, _⟩ := h
    rfl
  · obtain ⟨n, m, rfl, h0, h4, m0, m6, q⟩ := h
    refine ⟨_, (pss_cons (ps_set (i := 2) scPow.nd rfl (Or.inl rfl) pe_int)
      (pss_cons (ps_for PassesOwn.never rfl (pi_range1 (by rfl) mr (pa_cons (pv 1) pa_nil)) (pg_name (i := 3) scPow.nd rfl (Or.inl rfl))
      (pss_one (ps_set (i := 2) scPow.nd rfl (Or.inl rfl) (pe_op op_mul (pv 2) (pv 0)))))
      (pss_one (ps_ret (pv 2))))), ?_⟩
    refine ⟨.int m, rfl, m, rfl, by omega, by omega, for_range (lo := 0) (n := m.toNat) (fun i σ H3 => H3 = H ∧ ∃ y3, σ = [some (.int n), some (.int m), some (.int (n ^ i)), y3]) ⟨rfl, none, by rw [Int.pow_zero]; rfl⟩ (fun i σ H3 hi p => ?_) (fun σ H3 p => ?_)⟩
    · obtain ⟨rfl, y3, rfl⟩ := p
      have b := pow_bd h0 h4 (i := i) (by omega)
      exact ⟨_, rfl, _, rfl, n ^ i, n, rfl, rfl, .inl ⟨by omega, by omega⟩, rfl, _, by rw [Int.pow_succ]; rfl⟩
    · obtain ⟨rfl, y3, rfl⟩ := p
      exact ⟨_, rfl, q⟩
end
end Rd

set_option Elab.async false
set_option linter.all false
set_option maxRecDepth 100000
set_option maxHeartbeats 4000000
namespace Rd
open PySem PySem.Spec PyProof.Rows L2 Dt
abbrev sNum : Stmt := topS 21
abbrev nNum : List Str := ["thing", "low", "high"]
theorem scNum : FnScope nNum ["thing", "low", "high"] (defScope sNum) := ⟨rfl, rfl, rfl, by decide +kernel, rfl, by decide +kernel, by decide +kernel⟩
abbrev sRis : Stmt := topS 22
abbrev nRis : List Str := ["parts", "k"]
theorem scRis : FnScope nRis ["parts"] (defScope sRis) := ⟨rfl, rfl, rfl, by decide +kernel, rfl, by decide +kernel, by decide +kernel⟩
abbrev sFnu : Stmt := topS 23
abbrev nFnu : List Str := ["many", "hues", "number", "place"]
theorem scFnu : FnScope nFnu ["many", "hues"] (defScope sFnu) := ⟨rfl, rfl, rfl, by decide +kernel, rfl, by decide +kernel, by decide +kernel⟩
abbrev sSiz : Stmt := topS 24
abbrev nSiz : List Str := ["many", "hues"]
theorem scSiz : FnScope nSiz ["many", "hues"] (defScope sSiz) := ⟨rfl, rfl, rfl, by decide +kernel, rfl, by decide +kernel, by decide +kernel⟩
abbrev sPls : Stmt := topS 25
abbrev nPls : List Str := ["thing", "many", "place"]
theorem scPls : FnScope nPls ["thing", "many"] (defScope sPls) := ⟨rfl, rfl, rfl, by decide +kernel, rfl, by decide +kernel, by decide +kernel⟩
abbrev sHus : Stmt := topS 26
abbrev nHus : List Str := ["thing", "length", "hues", "hue"]
theorem scHus : FnScope nHus ["thing", "length", "hues"] (defScope sHus) := ⟨rfl, rfl, rfl, by decide +kernel, rfl, by decide +kernel, by decide +kernel⟩
abbrev sRws : Stmt := topS 27
abbrev nRws : List Str := ["thing", "length", "hues", "row"]
theorem scRws : FnScope nRws ["thing", "length", "hues"] (defScope sRws) := ⟨rfl, rfl, rfl, by decide +kernel, rfl, by decide +kernel, by decide +kernel⟩
abbrev sWsh : Stmt := topS 28
abbrev nWsh : List Str := ["thing", "many", "hues", "places", "rows"]
theorem scWsh : FnScope nWsh ["thing", "many", "hues"] (defScope sWsh) := ⟨rfl, rfl, rfl, by decide +kernel, rfl, by decide +kernel, by decide +kernel⟩
theorem ip_mul {X : Cx} : PIp X .Mult (fun x y H Q => ∃ i j, x = .int i ∧ y = .int j ∧ CMul i j ∧ Q (.int (i * j)) H) := by
  intro pins s σ H x y v u Q I r1 r2 h
  obtain ⟨i, j, e1, e2, hm, q⟩ := h
  subst e1; subst e2
  obtain ⟨t, rfl⟩ := r1
  obtain ⟨t', rfl⟩ := r2
  exact imul_int ⟨.int _, H, I.tok _, ⟨_, rfl⟩, q⟩ hm.ok
/-! ### what is rising -/
def risI (ns : List Int) : Bool := (List.range (ns.length - 1)).all fun k => decide (ns.getD k 0 < ns.getD (k + 1) 0)
def risR (rs : List Dt.Row) : Bool := (List.range (rs.length - 1)).all fun k => HT.lexLt (rs.getD k []) (rs.getD (k + 1) [])
structure Rise (wd : WD) : Prop where
  pl : risI wd.1 = true
  rows : risR wd.2 = true
def rLtU (K : PySem.W.Frag) : R2 := fun x y H Q => rI0 (fun i j => .bl (decide (i < j))) x y H Q ∨ rLtT K x y H Q
def sizeOk (many hues : Int) : Bool := decide (1 ≤ many ∧ many ≤ 6) && decide (2 ≤ hues ∧ hues ≤ 4) && decide (hues ^ many.toNat ≤ 256)
def spNum : Sp := fun vs H Q _ => ∃ t lo hi : Int, vs = [.int t, .int lo, .int hi] ∧ Q (.bl (decide (lo ≤ t ∧ t ≤ hi))) H
def spRis (Ps : List Addr) : Sp := fun vs H Q _ => ∃ pa : Addr, vs = [.ref pa] ∧ Tabs Ps H ∧ ((∃ ns : List Int, H pa = some (.tup (ns.map V.int)) ∧ risI ns = true ∧ ns.length ≤ 1000) ∨ (∃ (rs : List Addr) (rows : List Dt.Row), H pa = some (.tup (rs.map V.ref)) ∧ Paired (IsRow H) rs rows ∧ risR rows = true ∧ rows.length ≤ 1000)) ∧
  ∀ H', FrS Ps H H' → Q (.bl true) H'
def spFno : Sp := fun vs H Q _ => ∃ many hues : Int, vs = [.int many, .int hues] ∧ 0 ≤ many ∧ many ≤ 6 ∧ 0 ≤ hues ∧ hues ≤ 4 ∧ Q (.int (hues ^ many.toNat)) H
def spSiz : Sp := fun vs H Q _ => ∃ many hues : Int, vs = [.int many, .int hues] ∧ Q (.bl (sizeOk many hues)) H
def spPls (Ps : List Addr) : Sp := fun vs H Q _ => ∃ (pa : Addr) (ns : List Int) (many : Int), vs = [.ref pa, .int many] ∧ Tabs Ps H ∧ H pa = some (.tup (ns.map V.int)) ∧ 1 ≤ ns.length ∧ ns.length ≤ 3 ∧ (∀ p ∈ ns, 0 ≤ p ∧ p < many) ∧ risI ns = true ∧ ∀ H', FrS Ps H H' → Q (.bl true) H'
def spHus (Ps : List Addr) : Sp := fun vs H Q _ => ∃ (ra : Addr) (row : Dt.Row) (hues : Int), vs = [.ref ra, .int row.length, .int hues] ∧ Tabs Ps H ∧ IsRow H ra row ∧ (∀ h ∈ row, 0 ≤ h ∧ h < hues) ∧ ∀ H', FrS Ps H H' → Q (.bl true) H'
def spRws (Ps : List Addr) : Sp := fun vs H Q _ => ∃ (ra : Addr) (rs : List Addr) (rows : List Dt.Row) (n : Nat) (hues : Int), vs = [.ref ra, .int n, .int hues] ∧ Tabs Ps H ∧ H ra = some (.tup (rs.map V.ref)) ∧ Paired (IsRow H) rs rows ∧ 1 ≤ rows.length ∧ rows.length ≤ 1000 ∧ (∀ r ∈ rows, r.length = n ∧ ∀ h ∈ r, 0 ≤ h ∧ h < hues) ∧ risR rows = true ∧ ∀ H', FrS Ps H H' → Q (.bl true) H'
def spWsh (Ps : List Addr) : Sp := fun vs H Q _ => ∃ (wa : Addr) (wd : WD) (many hues : Int), vs = [.ref wa, .int many, .int hues] ∧ Tabs Ps H ∧ IsWish H wa wd ∧ Good many hues wd ∧ Rise wd ∧ ∀ H', FrS Ps H H' → Q (.bl true) H'
def spIrd (Ps : List Addr) : Sp := fun vs H Q _ => ∃ (ri : Addr) (z : V) (many hues : Int), vs = [.ref ri] ∧ Tabs Ps H ∧ H ri = some (.tup [.int many, .int hues, z]) ∧ ((sizeOk many hues = false ∧ Q (.bl false) H) ∨
  (sizeOk many hues = true ∧ ∃ wds, IsRid H ri many hues wds ∧ GoodR many hues wds ∧ (∀ wd ∈ wds, Rise wd) ∧ ∀ H', FrS Ps H H' → Q (.bl true) H'))
theorem ris_at {ns : List Int} (h : risI ns = true) {k : Nat} (hk : k < ns.length - 1) : ∃ a b, ns[k]? = some a ∧ ns[k + 1]? = some b ∧ a < b := by
  have z := List.all_eq_true.mp h k (List.mem_range.mpr hk)
  have h1 : k < ns.length := by omega
  have h2 : k + 1 < ns.length := by omega
  rw [List.getD_eq_getElem?_getD, List.getD_eq_getElem?_getD, List.getElem?_eq_getElem h1, List.getElem?_eq_getElem h2] at z
  exact ⟨_, _, List.getElem?_eq_getElem h1, List.getElem?_eq_getElem h2, by simpa using z⟩
theorem risR_at {rs : List Dt.Row} (h : risR rs = true) {k : Nat} (hk : k < rs.length - 1) : ∃ a b, rs[k]? = some a ∧ rs[k + 1]? = some b ∧ HT.lexLt a b = true := by
  have z := List.all_eq_true.mp h k (List.mem_range.mpr hk)
  have h1 : k < rs.length := by omega
  have h2 : k + 1 < rs.length := by omega
  rw [List.getD_eq_getElem?_getD, List.getD_eq_getElem?_getD, List.getElem?_eq_getElem h1, List.getElem?_eq_getElem h2] at z
  exact ⟨_, _, List.getElem?_eq_getElem h1, List.getElem?_eq_getElem h2, z⟩
structure TxtI (mg : Str → Option Value) : Prop where
  m_isinstance : mg "isinstance" = none
  m_int : mg "int" = none
  m_bool : mg "bool" = none
  m_tuple : mg "tuple" = none
  m_len : mg "len" = none
  m_all : mg "all" = none
  m_range : mg "range" = none
  g_MOST_PLACES : ∃ u, mg "MOST_PLACES" = some u ∧ RelV (.int 6) u
  g_LEAST_HUES : ∃ u, mg "LEAST_HUES" = some u ∧ RelV (.int 2) u
  g_MOST_HUES : ∃ u, mg "MOST_HUES" = some u ∧ RelV (.int 4) u
  g_MOST_FILLINGS : ∃ u, mg "MOST_FILLINGS" = some u ∧ RelV (.int 256) u
  g_MOST_WISHES : ∃ u, mg "MOST_WISHES" = some u ∧ RelV (.int 8) u
  g_MOST_PLACES_OF_A_WISH : ∃ u, mg "MOST_PLACES_OF_A_WISH" = some u ∧ RelV (.int 3) u
structure TxtI1 (P : Program) (w : World) (K : PySem.W.Frag) (mg : Str → Option Value) (base : Heap) : Prop extends TxtI mg where
  c_is_number : Cal P w K mg base 1 "is_number" ["thing", "low", "high"] spNum
  c_fillings_number : Cal P w K mg base 1 "fillings_number" ["many", "hues"] spFno
structure TxtI2 (P : Program) (w : World) (K : PySem.W.Frag) (mg : Str → Option Value) (base : Heap) (Ps : List Addr) : Prop extends TxtI1 P w K mg base where
  c_is_rising : Cal P w K mg base 2 "is_rising" ["parts"] (spRis Ps)
structure TxtI3 (P : Program) (w : World) (K : PySem.W.Frag) (mg : Str → Option Value) (base : Heap) (Ps : List Addr) : Prop extends TxtI2 P w K mg base Ps where
  c_are_hues : Cal P w K mg base 3 "are_hues" ["thing", "length", "hues"] (spHus Ps)
structure TxtI4 (P : Program) (w : World) (K : PySem.W.Frag) (mg : Str → Option Value) (base : Heap) (Ps : List Addr) : Prop extends TxtI mg where
  c_are_places : Cal P w K mg base 3 "are_places" ["thing", "many"] (spPls Ps)
  c_are_rows : Cal P w K mg base 5 "are_rows" ["thing", "length", "hues"] (spRws Ps)
structure TxtI5 (P : Program) (w : World) (K : PySem.W.Frag) (mg : Str → Option Value) (base : Heap) (Ps : List Addr) : Prop extends TxtI mg where
  c_is_size : Cal P w K mg base 2 "is_size" ["many", "hues"] spSiz
  c_is_wish : Cal P w K mg base 6 "is_wish" ["thing", "many", "hues"] (spWsh Ps)
section
variable {P : Program} {w : World} {K : PySem.W.Frag} {mg : Str → Option Value} {base : Heap}
theorem ok_num {f : Addr} {fd : FuncData} {k : Nat} (F : Fun K "is_number" "is_number" sNum f fd) (T : TxtI mg) : FnOk P w K mg base CX0 (k + 1) f fd ["thing", "low", "high"] spNum := by
  refine F.ok scNum (fun vs H Q E h => ?_) (fun cdv A outer s H vs Q E hr h => ?_)
  · obtain ⟨t, lo, hi, rfl, _⟩ := h
    rfl
  · obtain ⟨t, lo, hi, rfl, q⟩ := h
    refine ⟨_, (pss_one (ps_ret (pe_and (pe_callB call_isi (by rfl) T.m_isinstance (by decide +kernel) (pa_cons (pv 0) (pa_cons (pe_bltn (v := .ty "int") (by rfl) T.m_int (by decide +kernel) rfl) pa_nil))) (pe_and (pe_not (pe_callB call_isi (by rfl) T.m_isinstance (by decide +kernel) (pa_cons (pv 0) (pa_cons (pe_bltn (v := .ty "bool") (by rfl) T.m_bool (by decide +kernel) rfl) pa_nil)))) (pe_one (pe_chain op_le op_le (pv 1) (pv 0) (pv 2))))))), ?_⟩
    refine ⟨.int t, rfl, .int t, .ty "int", .type "int", .type "int", true, rfl, .ty _, .base (.int t), kit_ty (by decide +kernel), true, rfl, iteT ?_⟩
    refine ⟨.int t, rfl, .int t, .ty "bool", .type "int", .type "bool", false, rfl, .ty _, .base (.int t), kit_ty (by decide +kernel), false, rfl, true, rfl, iteT ?_⟩
    refine ⟨.int lo, rfl, .int t, rfl, lo, t, rfl, rfl, _, rfl, ite2 (fun e => ?_) (fun e => ?_)⟩
    · refine ⟨.int hi, rfl, t, hi, rfl, rfl, ?_⟩
      have e : lo ≤ t := by simpa using e
      have e2 : decide (lo ≤ t ∧ t ≤ hi) = decide (t ≤ hi) := by simp [e]
      rw [e2] at q
      exact q
    · have e : ¬ lo ≤ t := by simpa using e
      have e2 : decide (lo ≤ t ∧ t ≤ hi) = false := by simp [e]
      rw [e2] at q
      exact q
theorem ok_fno {f : Addr} {fd : FuncData} {k : Nat} (F : Fun K "fillings_number" "fillings_number" sFnu f fd) (T : TxtI mg) : FnOk P w K mg base CX0 (k + 1) f fd ["many", "hues"] spFno := by
  refine F.ok scFnu (fun vs H Q E h => ?_) (fun cdv A outer s H vs Q E hr h => ?_)
  · obtain ⟨many, hues, rfl, _⟩ := h
    rfl
  · obtain ⟨m, n, rfl, m0, m6, h0, h4, q⟩ := h
    refine ⟨_, (pss_cons (ps_set (i := 2) scFnu.nd rfl (Or.inl rfl) pe_int)
  (pss_cons (ps_for PassesOwn.never rfl (pi_range1 (by rfl) T.m_range (pa_cons (pv 0) pa_nil)) (pg_name (i := 3) scFnu.nd rfl (Or.inl rfl))
  (pss_one (ps_aug (i := 2) scFnu.nd rfl (Or.inl rfl) (pv 1) ip_mul)))
  (pss_one (ps_ret (pv 2))))), ?_⟩
    refine ⟨.int m, rfl, m, rfl, by omega, by omega, for_range (lo := 0) (n := m.toNat) (fun i σ H3 => H3 = H ∧ ∃ y3, σ = [some (.int m), some (.int n), some (.int (n ^ i)), y3]) ⟨rfl, none, by rw [Int.pow_zero]; rfl⟩ (fun i σ H3 hi p => ?_) (fun σ H3 p => ?_)⟩
    · obtain ⟨rfl, y3, rfl⟩ := p
      have b := pow_bd h0 h4 (i := i) (by omega)
      exact ⟨_, rfl, _, rfl, n ^ i, n, rfl, rfl, .inl ⟨by omega, by omega⟩, rfl, _, by rw [Int.pow_succ]; rfl⟩
    · obtain ⟨rfl, y3, rfl⟩ := p
      exact ⟨_, rfl, q⟩
theorem ok_siz {f : Addr} {fd : FuncData} {k : Nat} (F : Fun K "is_size" "is_size" sSiz f fd) (T : TxtI1 P w K mg base) : FnOk P w K mg base CX0 (k + 2) f fd ["many", "hues"] spSiz := by
  refine F.ok scSiz (fun vs H Q E h => ?_) (fun cdv A outer s H vs Q E hr h => ?_)
  · obtain ⟨many, hues, rfl, _⟩ := h
    rfl
  · obtain ⟨m, n, rfl, q⟩ := h
    have hr1 : Room 1 (A.deeper (envOfC (Str.ofString "is_size") (defScope sSiz) s.heap.objs.size f cdv)) := hr.mono (by omega)
    refine ⟨_, (pss_cons (ps_if (PW.pt (pw_or (pt_not (pt_val (pe_cal T.c_is_number (hr.mono (by omega)) (by rfl) (pa_cons (pv 0) (pa_cons pe_int (pa_cons (C8.pe_gc (by rfl) T.g_MOST_PLACES) pa_nil)))))) (pw_or1 (pt_not (pt_val (pe_cal T.c_is_number (hr.mono (by omega)) (by rfl) (pa_cons (pv 1) (pa_cons (C8.pe_gc (by rfl) T.g_LEAST_HUES) (pa_cons (C8.pe_gc (by rfl) T.g_MOST_HUES) pa_nil)))))))))
  (pss_one (ps_ret pe_bl)) pss_nil)
  (pss_one (ps_ret (pe_cmpR op_le (pe_cal T.c_fillings_number (hr.mono (by omega)) (by rfl) (pa_cons (pv 0) (pa_cons (pv 1) pa_nil))) (C8.pe_gc (by rfl) T.g_MOST_FILLINGS) (nomark _))))), ?_⟩
    refine ⟨.int m, rfl, m, 1, 6, rfl, _, rfl, ?_⟩
    by_cases h1 : 1 ≤ m ∧ m ≤ 6
    · rw [decide_eq_true h1]
      refine iteF ⟨.int n, rfl, n, 2, 4, rfl, _, rfl, ?_⟩
      by_cases h2 : 2 ≤ n ∧ n ≤ 4
      · rw [decide_eq_true h2]
        refine iteF ⟨.int m, rfl, .int n, rfl, m, n, rfl, by omega, by omega, by omega, by omega, _, _, rfl, rfl, ?_⟩
        have e : sizeOk m n = decide (n ^ m.toNat ≤ 256) := by
          unfold sizeOk
          rw [decide_eq_true h1, decide_eq_true h2, Bool.true_and, Bool.true_and]
        rw [e] at q
        exact q
      · rw [decide_eq_false h2]
        have e : sizeOk m n = false := by
          unfold sizeOk
          rw [decide_eq_false h2, Bool.and_false, Bool.false_and]
        rw [e] at q
        exact iteT q
    · rw [decide_eq_false h1]
      have e : sizeOk m n = false := by
        unfold sizeOk
        rw [decide_eq_false h1, Bool.false_and, Bool.false_and]
      rw [e] at q
      exact iteT (iteT q)
theorem ok_ris {f c Pr : Addr} {fd : FuncData} {Ps : List Addr} {k : Nat} (F : FunC K "is_rising" "is_rising" sRis f fd (.ref c)) (TB : GxR.TabB base mg c Pr) (hP : Pr ∈ Ps) (T : TxtI mg) : FnOk P w K mg base CX0 (k + 2) f fd ["parts"] (spRis Ps) := by
  refine F.ok scRis (fun vs H Q E h => ?_) (fun A outer s H vs Q E hr h => ?_)
  · obtain ⟨pa, rfl, _⟩ := h
    rfl
  · obtain ⟨pa, rfl, hT, hcase, q⟩ := h
    refine ⟨_, (pss_one (ps_ret (Gx.pe_allX (own := [("k", 1)]) (te := tOp (rLtU K) (tOp (rIxT K) (tVar 0) (tVar 1)) (tOp (rIxT K) (tVar 0) (tOp (rI0 fun i j => .int (i + j)) (tVar 1) (tC (.int 1))))) hr (by rfl) T.m_all rfl scRis.nd TB rfl (blkOk_by (own := [("k", 1)]) (N := nRis) (sc := defScope sRis) (by decide +kernel)) ⟨rfl, by decide +kernel, rfl⟩ (pi_range1 (by rfl) T.m_range (pa_cons (pe_op op_sub (pe_callB call_len_seq (by rfl) T.m_len (by decide +kernel) (pa_cons (pv 0) pa_nil)) pe_int) pa_nil))
   (fun _ _ _ _ _ _ hA => (pg_name (i := 1) scRis.nd rfl (Or.inl rfl))) (fun _ _ _ _ _ _ hA => pts_nil) (fun _ _ _ _ _ _ hA => (pe_cmpR (OpR.or op_lt (op_ltT (Nat.lt_of_le_of_lt (Nat.le_add_right _ 64) hA.units))) (pe_ix ix_tup (pv 0) (pv 1) (fun _ _ => rfl)) (pe_ix ix_tup (pv 0) (pe_op op_add (pv 1) pe_int) (fun _ _ => rfl)) (nomark _)))))), ?_⟩
    rcases hcase with ⟨ns, hpa, hri, hlen⟩ | ⟨rs, rows, hpa, prs, hri, hlen⟩
    · refine ⟨.ref pa, rfl, pa, _, rfl, .inr (.inl (.inl hpa)), _, 1, rfl, rfl, _, rfl, ?_, ?_, hT _ hP, fun H2 tb => ?_⟩
      · rw [List.length_map]; omega
      · rw [List.length_map]; omega
      have f2 := FrS.one hT hP tb
      have en : (((ns.map V.int).length : Int) - 1).toNat = ns.length - 1 := by rw [List.length_map]; omega
      rw [en]
      refine Gx.all_range (lo := 0) (n := ns.length - 1) (fun _ H3 => FrS Ps H H3) f2 (fun i H3 hi f3 => ?_) (fun H3 f3 => q H3 f3)
      obtain ⟨a, b, ha, hb, hab⟩ := ris_at hri hi
      have e0 : (0 : Int) + (i : Int) = i := Int.zero_add _
      have e1 : (0 : Int) + (i : Int) + 1 = ((i + 1 : Nat) : Int) := by omega
      refine ⟨rfl, ?_⟩
      dsimp only [tYes]
      rw [if_pos rfl]
      refine ⟨.ref pa, rfl, .int (0 + (i : Int)), rfl, pa, _, _, .int a, rfl, rfl, .inl (.inl (f3.tups hT _ _ hpa)), by rw [e0]; exact atI_nat (by rw [List.getElem?_map, ha]; rfl), ?_⟩
      refine ⟨.ref pa, rfl, .int (0 + (i : Int)), rfl, _, _, rfl, rfl, pa, _, _, .int b, rfl, rfl, .inl (.inl (f3.tups hT _ _ hpa)), by rw [e1]; exact atI_nat (by rw [List.getElem?_map, hb]; rfl), .inl ⟨a, b, rfl, rfl, _, rfl, ?_⟩⟩
      rw [if_pos (by simpa using hab)]
      exact f3
    · have rl := pairedLen prs
      refine ⟨.ref pa, rfl, pa, _, rfl, .inr (.inl (.inl hpa)), _, 1, rfl, rfl, _, rfl, ?_, ?_, hT _ hP, fun H2 tb => ?_⟩
      · rw [List.length_map]; omega
      · rw [List.length_map]; omega
      have f2 := FrS.one hT hP tb
      have en : (((rs.map V.ref).length : Int) - 1).toNat = rows.length - 1 := by rw [List.length_map]; omega
      rw [en]
      refine Gx.all_range (lo := 0) (n := rows.length - 1) (fun _ H3 => FrS Ps H H3) f2 (fun i H3 hi f3 => ?_) (fun H3 f3 => q H3 f3)
      obtain ⟨a, b, ha, hb, hab⟩ := risR_at hri hi
      obtain ⟨pa1, ea1, ra1⟩ := pairedGet prs ha
      obtain ⟨pb1, eb1, rb1⟩ := pairedGet prs hb
      have e0 : (0 : Int) + (i : Int) = i := Int.zero_add _
      have e1 : (0 : Int) + (i : Int) + 1 = ((i + 1 : Nat) : Int) := by omega
      refine ⟨rfl, ?_⟩
      dsimp only [tYes]
      rw [if_pos rfl]
      refine ⟨.ref pa, rfl, .int (0 + (i : Int)), rfl, pa, _, _, .ref pa1, rfl, rfl, .inl (.inl (f3.tups hT _ _ hpa)), by rw [e0]; exact atI_nat (by rw [List.getElem?_map, ea1]; rfl), ?_⟩
      refine ⟨.ref pa, rfl, .int (0 + (i : Int)), rfl, _, _, rfl, rfl, pa, _, _, .ref pb1, rfl, rfl, .inl (.inl (f3.tups hT _ _ hpa)), by rw [e1]; exact atI_nat (by rw [List.getElem?_map, eb1]; rfl), .inr ⟨pa1, pb1, a, b, rfl, rfl, .inl (.inl (f3.tups hT _ _ ra1)), .inl (.inl (f3.tups hT _ _ rb1)), _, rfl, ?_⟩⟩
      rw [if_pos hab]
      exact f3
theorem ok_pls {f c Pp : Addr} {fd : FuncData} {Ps : List Addr} {k : Nat} (F : FunC K "are_places" "are_places" sPls f fd (.ref c)) (TB : GxR.TabB base mg c Pp) (hP : Pp ∈ Ps) (T : TxtI2 P w K mg base Ps) : FnOk P w K mg base CX0 (k + 3) f fd ["thing", "many"] (spPls Ps) := by
  refine F.ok scPls (fun vs H Q E h => ?_) (fun A outer s H vs Q E hr h => ?_)
  · obtain ⟨pa, ns, many, rfl, _⟩ := h
    rfl
  · obtain ⟨pa, ns, many, rfl, hT, hpa, l1, l3, hpl, hri, q⟩ := h
    have hr2 : Room 2 (A.deeper (envOfC (Str.ofString "are_places") (defScope sPls) s.heap.objs.size f (.ref c))) := hr.mono (by omega)
    refine ⟨_, (pss_cons (ps_if (PW.pt (pw_or (pt_not (pt_val (pe_callB call_isi (by rfl) T.m_isinstance (by decide +kernel) (pa_cons (pv 0) (pa_cons (pe_bltn (v := .ty "tuple") (by rfl) T.m_tuple (by decide +kernel) rfl) pa_nil))))) (pw_or1 (pt_not (pt_chain op_le op_le pe_int (pe_callB call_len_seq (by rfl) T.m_len (by decide +kernel) (pa_cons (pv 0) pa_nil)) (C8.pe_gc (by rfl) T.g_MOST_PLACES_OF_A_WISH))))))
  (pss_one (ps_ret pe_bl)) pss_nil)
  (pss_one (ps_ret (pe_and (Gx.pe_allX (own := [("place", 2)]) hr (by rfl) T.m_all rfl scPls.nd TB rfl (blkOk_by (own := [("place", 2)]) (N := nPls) (sc := defScope sPls) (by decide +kernel)) ⟨rfl, by decide +kernel, rfl⟩ (pi_tup (pv 0))
   (fun _ _ _ _ _ _ hA => (pg_name (i := 2) scPls.nd rfl (Or.inl rfl))) (fun _ _ _ _ _ _ hA => pts_nil) (fun _ _ _ _ _ _ hA => (pe_cal T.c_is_number (hA.mono (by omega)) (by rfl) (pa_cons (pv 2) (pa_cons pe_int (pa_cons (pe_op op_sub (pv 1) pe_int) pa_nil)))))) (pe_one (pe_cal T.c_is_rising (hr.mono (by omega)) (by rfl) (pa_cons (pv 0) pa_nil))))))), ?_⟩
    refine ⟨.ref pa, rfl, .ref pa, .ty "tuple", .type "tuple", .type "tuple", true, rfl, .ty _, .base (.tup hpa), kit_ty (by decide +kernel), true, rfl, iteF ?_⟩
    have e1 : decide (1 ≤ ((ns.map V.int).length : Int)) = true := by rw [List.length_map]; exact decide_eq_true (by omega)
    have e3 : decide (((ns.map V.int).length : Int) ≤ 3) = true := by rw [List.length_map]; exact decide_eq_true (by omega)
    refine ⟨.ref pa, rfl, pa, _, rfl, .inr (.inl (.inl hpa)), _, _, rfl, rfl, _, rfl, ?_⟩
    rw [if_pos e1]
    refine ⟨_, _, rfl, rfl, _, rfl, ?_⟩
    rw [e3]
    refine iteF ?_
    refine ⟨.ref pa, rfl, pa, rfl, ⟨_, .inl (.inl hpa)⟩, hT _ hP, fun H2 tb => ?_⟩
    have f2 := FrS.one hT hP tb
    refine Gx.all_tup (K := K) (a := pa) (xs := ns.map V.int) (fun _ H3 => FrS Ps H H3) f2 (fun i H3 _ f3 => .inl (.inl (f3.tups hT _ _ hpa))) (fun i x H3 hx f3 => ?_) (fun H3 f3 => ?_)
    · rw [List.getElem?_map] at hx
      cases e : ns[i]? with
      | none => rw [e] at hx; cases hx
      | some n =>
        rw [e] at hx
        cases hx
        have hn := hpl n (List.mem_of_getElem? e)
        refine ⟨rfl, ?_⟩
        dsimp only [tYes]
        rw [if_pos rfl]
        refine ⟨.int n, rfl, .int many, rfl, _, _, rfl, rfl, n, 0, many - 1, rfl, _, rfl, ?_⟩
        rw [if_pos (decide_eq_true (show 0 ≤ n ∧ n ≤ many - 1 by omega))]
        exact f3
    · refine ⟨true, rfl, iteT ?_⟩
      exact ⟨.ref pa, rfl, pa, rfl, f3.2, .inl ⟨ns, f3.tups hT _ _ hpa, hri, by omega⟩, fun H4 f4 => q H4 (f3.trans f4)⟩
theorem ok_hus {f c Ph : Addr} {fd : FuncData} {Ps : List Addr} {k : Nat} (F : FunC K "are_hues" "are_hues" sHus f fd (.ref c)) (TB : GxR.TabB base mg c Ph) (hP : Ph ∈ Ps) (T : TxtI2 P w K mg base Ps) : FnOk P w K mg base CX0 (k + 3) f fd ["thing", "length", "hues"] (spHus Ps) := by
  refine F.ok scHus (fun vs H Q E h => ?_) (fun A outer s H vs Q E hr h => ?_)
  · obtain ⟨pa, ns, many, rfl, _⟩ := h
    rfl
  · obtain ⟨pa, ns, hues, rfl, hT, hpa, hpl, q⟩ := h
    have hpa : H pa = some (.tup (ns.map V.int)) := hpa
    refine ⟨_, (pss_cons (ps_if (PW.pt (pw_or (pt_not (pt_val (pe_callB call_isi (by rfl) T.m_isinstance (by decide +kernel) (pa_cons (pv 0) (pa_cons (pe_bltn (v := .ty "tuple") (by rfl) T.m_tuple (by decide +kernel) rfl) pa_nil))))) (pw_or1 (pt_cmpR op_ne (pe_callB call_len_seq (by rfl) T.m_len (by decide +kernel) (pa_cons (pv 0) pa_nil)) (pv 1) (nomark _)))))
  (pss_one (ps_ret pe_bl)) pss_nil)
  (pss_one (ps_ret (Gx.pe_allX (own := [("hue", 3)]) hr (by rfl) T.m_all rfl scHus.nd TB rfl (blkOk_by (own := [("hue", 3)]) (N := nHus) (sc := defScope sHus) (by decide +kernel)) ⟨rfl, by decide +kernel, rfl⟩ (pi_tup (pv 0))
   (fun _ _ _ _ _ _ hA => (pg_name (i := 3) scHus.nd rfl (Or.inl rfl))) (fun _ _ _ _ _ _ hA => pts_nil) (fun _ _ _ _ _ _ hA => (pe_cal T.c_is_number (hA.mono (by omega)) (by rfl) (pa_cons (pv 3) (pa_cons pe_int (pa_cons (pe_op op_sub (pv 2) pe_int) pa_nil))))))))), ?_⟩
    refine ⟨.ref pa, rfl, .ref pa, .ty "tuple", .type "tuple", .type "tuple", true, rfl, .ty _, .base (.tup hpa), kit_ty (by decide +kernel), true, rfl, iteF ?_⟩
    have el : V.int ((ns.map V.int).length : Int) = V.int (ns.length : Int) := by rw [List.length_map]
    refine ⟨.ref pa, rfl, pa, _, rfl, .inr (.inl (.inl hpa)), _, rfl, rfl, _, rfl, ?_⟩
    refine iteNS el ?_
    refine ⟨.ref pa, rfl, pa, rfl, ⟨_, .inl (.inl hpa)⟩, hT _ hP, fun H2 tb => ?_⟩
    have f2 := FrS.one hT hP tb
    refine Gx.all_tup (K := K) (a := pa) (xs := ns.map V.int) (fun _ H3 => FrS Ps H H3) f2 (fun i H3 _ f3 => .inl (.inl (f3.tups hT _ _ hpa))) (fun i x H3 hx f3 => ?_) (fun H3 f3 => q H3 f3)
    rw [List.getElem?_map] at hx
    cases e : ns[i]? with
    | none => rw [e] at hx; cases hx
    | some n =>
      rw [e] at hx
      cases hx
      have hn := hpl n (List.mem_of_getElem? e)
      refine ⟨rfl, ?_⟩
      dsimp only [tYes]
      rw [if_pos rfl]
      refine ⟨.int n, rfl, .int hues, rfl, _, _, rfl, rfl, n, 0, hues - 1, rfl, _, rfl, ?_⟩
      rw [if_pos (decide_eq_true (show 0 ≤ n ∧ n ≤ hues - 1 by omega))]
      exact f3
theorem ok_rws {f c Pw : Addr} {fd : FuncData} {Ps : List Addr} {k : Nat} (F : FunC K "are_rows" "are_rows" sRws f fd (.ref c)) (TB : GxR.TabB base mg c Pw) (hP : Pw ∈ Ps) (T : TxtI3 P w K mg base Ps) : FnOk P w K mg base CX0 (k + 5) f fd ["thing", "length", "hues"] (spRws Ps) := by
  refine F.ok scRws (fun vs H Q E h => ?_) (fun A outer s H vs Q E hr h => ?_)
  · obtain ⟨pa, rs, rows, n, hues, rfl, _⟩ := h
    rfl
  · obtain ⟨pa, rs, rows, n, hues, rfl, hT, hpa, prs, l1, l2, hrow, hri, q⟩ := h
    have hr2 : Room 2 (A.deeper (envOfC (Str.ofString "are_rows") (defScope sRws) s.heap.objs.size f (.ref c))) := hr.mono (by omega)
    have rl := pairedLen prs
    refine ⟨_, (pss_cons (ps_if (PW.pt (pw_or (pt_not (pt_val (pe_callB call_isi (by rfl) T.m_isinstance (by decide +kernel) (pa_cons (pv 0) (pa_cons (pe_bltn (v := .ty "tuple") (by rfl) T.m_tuple (by decide +kernel) rfl) pa_nil))))) (pw_or1 (pt_cmpR op_eq (pe_callB call_len_seq (by rfl) T.m_len (by decide +kernel) (pa_cons (pv 0) pa_nil)) pe_int (nomark _)))))
  (pss_one (ps_ret pe_bl)) pss_nil)
  (pss_one (ps_ret (pe_and (Gx.pe_allX (own := [("row", 3)]) hr (by rfl) T.m_all rfl scRws.nd TB rfl (blkOk_by (own := [("row", 3)]) (N := nRws) (sc := defScope sRws) (by decide +kernel)) ⟨rfl, by decide +kernel, rfl⟩ (pi_tup (pv 0))
   (fun _ _ _ _ _ _ hA => (pg_name (i := 3) scRws.nd rfl (Or.inl rfl))) (fun _ _ _ _ _ _ hA => pts_nil) (fun _ _ _ _ _ _ hA => (pe_cal T.c_are_hues (hA.mono (by omega)) (by rfl) (pa_cons (pv 3) (pa_cons (pv 1) (pa_cons (pv 2) pa_nil)))))) (pe_one (pe_cal T.c_is_rising (hr.mono (by omega)) (by rfl) (pa_cons (pv 0) pa_nil))))))), ?_⟩
    refine ⟨.ref pa, rfl, .ref pa, .ty "tuple", .type "tuple", .type "tuple", true, rfl, .ty _, .base (.tup hpa), kit_ty (by decide +kernel), true, rfl, iteF ?_⟩
    have el : decide (V.int ((rs.map V.ref).length : Int) = V.int 0) = false := by
      rw [List.length_map]
      refine decide_eq_false fun z => ?_
      have z2 : (rs.length : Int) = 0 := by injection z
      omega
    refine ⟨.ref pa, rfl, pa, _, rfl, .inr (.inl (.inl hpa)), rfl, _, rfl, ?_⟩
    rw [el]
    refine iteF ?_
    refine ⟨.ref pa, rfl, pa, rfl, ⟨_, .inl (.inl hpa)⟩, hT _ hP, fun H2 tb => ?_⟩
    have f2 := FrS.one hT hP tb
    refine Gx.all_tup (K := K) (a := pa) (xs := rs.map V.ref) (fun _ H3 => FrS Ps H H3) f2 (fun i H3 _ f3 => .inl (.inl (f3.tups hT _ _ hpa))) (fun i x H3 hx f3 => ?_) (fun H3 f3 => ?_)
    · rw [List.getElem?_map] at hx
      cases e : rs[i]? with
      | none => rw [e] at hx; cases hx
      | some ra =>
        rw [e] at hx
        cases hx
        obtain ⟨row, hrw, isr⟩ := pairedGetL prs e
        have hn := hrow row (List.mem_of_getElem? hrw)
        refine ⟨rfl, ?_⟩
        dsimp only [tYes]
        rw [if_pos rfl]
        refine ⟨.ref ra, rfl, .int n, rfl, .int hues, rfl, ra, row, hues, by rw [hn.1]; rfl, f3.2, f3.tups hT _ _ isr, hn.2, fun H4 f4 => ⟨true, rfl, ?_⟩⟩
        rw [if_pos rfl]
        exact f3.trans f4
    · refine ⟨true, rfl, iteT ?_⟩
      exact ⟨.ref pa, rfl, pa, rfl, f3.2, .inr ⟨rs, rows, f3.tups hT _ _ hpa, pairedMap (fun _ _ e => f3.tups hT _ _ e) prs, hri, l2⟩, fun H4 f4 => q H4 (f3.trans f4)⟩
theorem ok_wsh {f : Addr} {fd : FuncData} {Ps : List Addr} {k : Nat} (F : Fun K "is_wish" "is_wish" sWsh f fd) (T : TxtI4 P w K mg base Ps) : FnOk P w K mg base CX0 (k + 6) f fd ["thing", "many", "hues"] (spWsh Ps) := by
  refine F.ok scWsh (fun vs H Q E h => ?_) (fun cdv A outer s H vs Q E hr h => ?_)
  · obtain ⟨wa, wd, many, hues, rfl, _⟩ := h
    rfl
  · obtain ⟨wa, wd, many, hues, rfl, hT, hw, gw, rw_, q⟩ := h
    have hr3 : Room 3 (A.deeper (envOfC (Str.ofString "is_wish") (defScope sWsh) s.heap.objs.size f cdv)) := hr.mono (by omega)
    have hr5 : Room 5 (A.deeper (envOfC (Str.ofString "is_wish") (defScope sWsh) s.heap.objs.size f cdv)) := hr.mono (by omega)
    refine ⟨_, (pss_cons (ps_if (PW.pt (pw_or (pt_not (pt_val (pe_callB call_isi (by rfl) T.m_isinstance (by decide +kernel) (pa_cons (pv 0) (pa_cons (pe_bltn (v := .ty "tuple") (by rfl) T.m_tuple (by decide +kernel) rfl) pa_nil))))) (pw_or1 (pt_cmpR op_ne (pe_callB call_len_seq (by rfl) T.m_len (by decide +kernel) (pa_cons (pv 0) pa_nil)) pe_int (nomark _)))))
  (pss_one (ps_ret pe_bl)) pss_nil)
  (pss_cons (ps_asg (pv 0) (pg_tup rfl (pgs_cons (pg_name (i := 3) scWsh.nd rfl (Or.inl rfl)) (pgs_cons (pg_name (i := 4) scWsh.nd rfl (Or.inl rfl)) pgs_nil))))
  (pss_one (ps_ret (pe_and (pe_cal T.c_are_places (hr.mono (by omega)) (by rfl) (pa_cons (pv 3) (pa_cons (pv 1) pa_nil))) (pe_one (pe_cal T.c_are_rows (hr.mono (by omega)) (by rfl) (pa_cons (pv 4) (pa_cons (pe_callB call_len_seq (by rfl) T.m_len (by decide +kernel) (pa_cons (pv 3) pa_nil)) (pa_cons (pv 2) pa_nil)))))))))), ?_⟩
    obtain ⟨pa, ra, rs, h1, h2, h3, h4⟩ := id hw
    refine ⟨.ref wa, rfl, .ref wa, .ty "tuple", .type "tuple", .type "tuple", true, rfl, .ty _, .base (.tup h1), kit_ty (by decide +kernel), true, rfl, iteF ?_⟩
    refine ⟨.ref wa, rfl, wa, _, rfl, .inr (.inl (.inl h1)), rfl, _, rfl, iteNS rfl ?_⟩
    refine ⟨.ref wa, rfl, wa, _, rfl, .inl (.inl h1), rfl, .ref pa, [.ref ra], rfl, .ref ra, [], rfl, rfl, ?_⟩
    refine ⟨.ref pa, rfl, .int many, rfl, pa, wd.1, many, rfl, hT, h2, gw.one, gw.three, gw.pl, rw_.pl, fun H2 f2 => ⟨true, rfl, iteT ?_⟩⟩
    refine ⟨.ref ra, rfl, .ref pa, rfl, pa, _, rfl, .inr (.inl (.inl (f2.tups hT _ _ h2))), .int hues, rfl, ra, rs, wd.2, wd.1.length, hues, by rw [List.length_map]; rfl, f2.2, f2.tups hT _ _ h3, pairedMap (fun _ _ e => f2.tups hT _ _ e) h4, gw.some_, by have := gw.few; omega, gw.row, rw_.rows, fun H3 f3 => q H3 (f2.trans f3)⟩
end
end Rd

set_option Elab.async false
set_option linter.all false
set_option maxRecDepth 100000
set_option maxHeartbeats 4000000
/-! riddles and their parts, looked for in things of any kind -/
namespace Rd
open PySem PySem.Spec PyProof.Rows L2 Dt
def numD (lo hi : Int) : PyData → Bool
  | .int i => decide (lo ≤ i ∧ i ≤ hi)
  | _ => false
def intD : PyData → Int
  | .int i => i
  | _ => 0
def rowI : PyData → List Int
  | .tuple l => l.map intD
  | _ => []
def lenD : PyData → Nat
  | .tuple l => l.length
  | _ => 0
def plsD (many : Int) : PyData → Bool
  | .tuple l => decide (1 ≤ l.length ∧ l.length ≤ 3) && l.all (numD 0 (many - 1)) && risI (l.map intD)
  | _ => false
def husD (n : Nat) (hues : Int) : PyData → Bool
  | .tuple l => decide (l.length = n) && l.all (numD 0 (hues - 1))
  | _ => false
def rwsD (n : Nat) (hues : Int) : PyData → Bool
  | .tuple l => decide (l.length ≠ 0) && l.all (husD n hues) && risR (l.map rowI)
  | _ => false
def wshD (many hues : Int) : PyData → Bool
  | .tuple [p, r] => plsD many p && rwsD (lenD p) hues r
  | _ => false
def sizD : PyData → PyData → Bool
  | .int m, .int h => sizeOk m h
  | _, _ => false
def irdD : PyData → Bool
  | .tuple [m, h, .tuple l] => sizD m h && decide (l.length ≤ 8) && l.all (wshD (intD m) (intD h))
  | _ => false
theorem all_no {α : Type} {l : List α} {p : α → Bool} {x : α} (h : x ∈ l) (e : p x = false) : l.all p = false := by
  cases z : l.all p with
  | false => rfl
  | true =>
    have := List.all_eq_true.mp z x h
    rw [e] at this
    cases this
theorem num_all {lo hi : Int} : ∀ {l : List PyData}, l.all (numD lo hi) = true → l = (l.map intD).map PyData.int
  | [], _ => rfl
  | d :: r, h => by
    rw [List.all_cons, Bool.and_eq_true] at h
    cases d with
    | int i =>
      rw [List.map_cons, List.map_cons, ← num_all h.2]
      rfl
    | _ => exact nomatch h.1
theorem an_ints {H : Hp} : ∀ {xs : List V} {ns : List Int}, AnyAll H xs (ns.map PyData.int) → xs = ns.map V.int
  | _, [], h => by cases h; rfl
  | _, n :: r, h => by
    cases h with
    | cons a t =>
      cases a with
      | int => rw [an_ints t]; rfl
      | dct l => cases l
theorem hus_row {n : Nat} {hues : Int} {d : PyData} (h : husD n hues d = true) : d = .tuple ((rowI d).map PyData.int) ∧ (rowI d).length = n ∧ ∀ x ∈ rowI d, 0 ≤ x ∧ x < hues := by
  cases d with
  | tuple l =>
    simp only [husD, Bool.and_eq_true, decide_eq_true_eq] at h
    refine ⟨congrArg _ (num_all h.2), by show (l.map intD).length = n; rw [List.length_map]; exact h.1, fun x hx => ?_⟩
    obtain ⟨d, hd, rfl⟩ := List.mem_map.mp (show x ∈ l.map intD from hx)
    have z := List.all_eq_true.mp h.2 d hd
    cases d with
    | int i =>
      have z : decide (0 ≤ i ∧ i ≤ hues - 1) = true := z
      have := of_decide_eq_true z
      show 0 ≤ i ∧ i < hues
      omega
    | _ => exact nomatch z
  | _ => exact nomatch h
theorem an_rows {H : Hp} {n : Nat} {hues : Int} : ∀ {l : List PyData} {xs : List V}, AnyAll H xs l → l.all (husD n hues) = true → ∃ rs : List Addr, xs = rs.map V.ref ∧ Paired (IsRow H) rs (l.map rowI)
  | [], _, h, _ => by cases h; exact ⟨[], rfl, .nil⟩
  | d :: r, _, h, e => by
    rw [List.all_cons, Bool.and_eq_true] at e
    cases h with
    | cons a t =>
      obtain ⟨rs, q1, q2⟩ := an_rows t e.2
      have hd := (hus_row e.1).1
      generalize rowI d = row at hd
      subst hd
      cases a with
      | dct l => cases l
      | @tup b xs0 _ eb tb =>
        refine ⟨b :: rs, by rw [q1]; rfl, ?_⟩
        refine .cons ?_ q2
        have hx := an_ints tb
        subst hx
        show H b = some (.tup _)
        rw [eb]
        show some (HO.tup (row.map V.int)) = some (.tup ((rowI (.tuple (row.map PyData.int))).map V.int))
        have e9 : rowI (.tuple (row.map PyData.int)) = row := by
          show (row.map PyData.int).map intD = row
          rw [List.map_map]
          exact List.map_id' row
        rw [e9]
def spNumA : Sp := fun vs H Q _ => ∃ (v : V) (d : PyData) (lo hi : Int), vs = [v, .int lo, .int hi] ∧ Any H v d ∧ Q (.bl (numD lo hi d)) H
def spSizA : Sp := fun vs H Q _ => ∃ (v u : V) (d e : PyData), vs = [v, u] ∧ Any H v d ∧ Any H u e ∧ Q (.bl (sizD d e)) H
def spRisA (Ps : List Addr) : Sp := fun vs H Q _ => ∃ pa : Addr, vs = [.ref pa] ∧ Tabs Ps H ∧ ((∃ ns : List Int, H pa = some (.tup (ns.map V.int)) ∧ ns.length ≤ 10000 ∧ ∀ H', FrS Ps H H' → Q (.bl (risI ns)) H') ∨ (∃ (rs : List Addr) (rows : List Dt.Row), H pa = some (.tup (rs.map V.ref)) ∧ Paired (IsRow H) rs rows ∧ rows.length ≤ 10000 ∧ ∀ H', FrS Ps H H' → Q (.bl (risR rows)) H'))
def spPlsA (Ps : List Addr) : Sp := fun vs H Q _ => ∃ (v : V) (d : PyData) (many : Int), vs = [v, .int many] ∧ Tabs Ps H ∧ Any H v d ∧ lenD d ≤ 10000 ∧ ∀ H', FrS Ps H H' → Q (.bl (plsD many d)) H'
def spHusA (Ps : List Addr) : Sp := fun vs H Q _ => ∃ (v : V) (d : PyData) (n : Nat) (hues : Int), vs = [v, .int n, .int hues] ∧ Tabs Ps H ∧ Any H v d ∧ ∀ H', FrS Ps H H' → Q (.bl (husD n hues d)) H'
def spRwsA (Ps : List Addr) : Sp := fun vs H Q _ => ∃ (v : V) (d : PyData) (n : Nat) (hues : Int), vs = [v, .int n, .int hues] ∧ Tabs Ps H ∧ Any H v d ∧ lenD d ≤ 10000 ∧ ∀ H', FrS Ps H H' → Q (.bl (rwsD n hues d)) H'
/-- not too long -/
def ShortW : PyData → Prop
  | .tuple [p, r] => lenD p ≤ 10000 ∧ lenD r ≤ 10000
  | _ => True
def spWshA (Ps : List Addr) : Sp := fun vs H Q _ => ∃ (v : V) (d : PyData) (many hues : Int), vs = [v, .int many, .int hues] ∧ Tabs Ps H ∧ Any H v d ∧ ShortW d ∧ ∀ H', FrS Ps H H' → Q (.bl (wshD many hues d)) H'
structure TxtIA1 (P : Program) (w : World) (K : PySem.W.Frag) (mg : Str → Option Value) (base : Heap) : Prop extends TxtI mg where
  c_is_number : Cal P w K mg base 1 "is_number" ["thing", "low", "high"] spNumA
  c_fillings_number : Cal P w K mg base 1 "fillings_number" ["many", "hues"] spFno
structure TxtIA2 (P : Program) (w : World) (K : PySem.W.Frag) (mg : Str → Option Value) (base : Heap) (Ps : List Addr) : Prop extends TxtIA1 P w K mg base where
  c_is_rising : Cal P w K mg base 2 "is_rising" ["parts"] (spRisA Ps)
structure TxtIA3 (P : Program) (w : World) (K : PySem.W.Frag) (mg : Str → Option Value) (base : Heap) (Ps : List Addr) : Prop extends TxtIA2 P w K mg base Ps where
  c_are_hues : Cal P w K mg base 3 "are_hues" ["thing", "length", "hues"] (spHusA Ps)
structure TxtIA4 (P : Program) (w : World) (K : PySem.W.Frag) (mg : Str → Option Value) (base : Heap) (Ps : List Addr) : Prop extends TxtI mg where
  c_are_places : Cal P w K mg base 3 "are_places" ["thing", "many"] (spPlsA Ps)
  c_are_rows : Cal P w K mg base 5 "are_rows" ["thing", "length", "hues"] (spRwsA Ps)
section
variable {P : Program} {w : World} {K : PySem.W.Frag} {mg : Str → Option Value} {base : Heap}
/-- isinstance(thing, T), T one of Python's -/
theorem isi_an {H : Hp} {v : V} {d : PyData} {t : String} {b : Bool} {Q : VK} (h : Any H v d) (e : kitB (tyD d) t = some b) (q : Q (.bl b) H) : rIsi K [v, .ty t] H Q := ⟨v, .ty t, _, .type t, b, rfl, .ty _, h.ty, kit_ty e, q⟩
theorem kit_all : ∀ a ∈ ["NoneType", "bool", "int", "str", "list", "tuple", "dict"], ∀ t ∈ ["int", "bool", "tuple", "list", "str"], kitB a t = some (a == t || (a == "bool" && t == "int")) := by decide +kernel
theorem ty_in (d : PyData) : tyD d ∈ ["NoneType", "bool", "int", "str", "list", "tuple", "dict"] := by cases d <;> simp [tyD]
theorem kit_self {d : PyData} {t : String} (h1 : t = "int" ∨ t = "bool" ∨ t = "tuple" ∨ t = "list" ∨ t = "str") : kitB (tyD d) t = some (tyD d == t || (tyD d == "bool" && t == "int")) := kit_all _ (ty_in d) _ (by simpa using h1)
theorem ok_numA {f : Addr} {fd : FuncData} {k : Nat} (F : Fun K "is_number" "is_number" sNum f fd) (T : TxtI mg) : FnOk P w K mg base CX0 (k + 1) f fd ["thing", "low", "high"] spNumA := by
  refine F.ok scNum (fun vs H Q E h => ?_) (fun cdv A outer s H vs Q E hr h => ?_)
  · obtain ⟨v, d, lo, hi, rfl, _⟩ := h
    rfl
  · obtain ⟨v, d, lo, hi, rfl, an, q⟩ := h
    refine ⟨_, (pss_one (ps_ret (pe_and (pe_callB call_isi (by rfl) T.m_isinstance (by decide +kernel) (pa_cons (pv 0) (pa_cons (pe_bltn (v := .ty "int") (by rfl) T.m_int (by decide +kernel) rfl) pa_nil))) (pe_and (pe_not (pe_callB call_isi (by rfl) T.m_isinstance (by decide +kernel) (pa_cons (pv 0) (pa_cons (pe_bltn (v := .ty "bool") (by rfl) T.m_bool (by decide +kernel) rfl) pa_nil)))) (pe_one (pe_chain op_le op_le (pv 1) (pv 0) (pv 2))))))), ?_⟩
    refine ⟨v, rfl, v, .ty "int", _, .type "int", _, rfl, .ty _, an.ty, kit_ty (kit_self (.inl rfl)), _, rfl, ?_⟩
    cases d with
    | int t =>
      cases an with
      | dct l => cases l
      | int =>
        refine iteT ?_
        refine ⟨.int t, rfl, .int t, .ty "bool", _, .type "bool", _, rfl, .ty _, (show Any H (.int t) (.int t) from .int t).ty, kit_ty (kit_self (.inr (.inl rfl))), _, rfl, _, rfl, iteT ?_⟩
        refine ⟨.int lo, rfl, .int t, rfl, lo, t, rfl, rfl, _, rfl, ite2 (fun e => ?_) (fun e => ?_)⟩
        · refine ⟨.int hi, rfl, t, hi, rfl, rfl, ?_⟩
          have e : lo ≤ t := by simpa using e
          have e2 : numD lo hi (.int t) = decide (t ≤ hi) := by simp [numD, e]
          rw [e2] at q
          exact q
        · have e : ¬ lo ≤ t := by simpa using e
          have e2 : numD lo hi (.int t) = false := by simp [numD, e]
          rw [e2] at q
          exact q
    | bool b =>
      refine iteT ?_
      refine ⟨v, rfl, v, .ty "bool", _, .type "bool", _, rfl, .ty _, an.ty, kit_ty (kit_self (.inr (.inl rfl))), _, rfl, _, rfl, ?_⟩
      exact iteF q
    | none => exact iteF q
    | str x => exact iteF q
    | list l => exact iteF q
    | tuple l => exact iteF q
    | dict l => exact iteF q
theorem ok_sizA {f : Addr} {fd : FuncData} {k : Nat} (F : Fun K "is_size" "is_size" sSiz f fd) (T : TxtIA1 P w K mg base) : FnOk P w K mg base CX0 (k + 2) f fd ["many", "hues"] spSizA := by
  refine F.ok scSiz (fun vs H Q E h => ?_) (fun cdv A outer s H vs Q E hr h => ?_)
  · obtain ⟨v, u, d, e, rfl, _⟩ := h
    rfl
  · obtain ⟨v, u, d, e, rfl, an, bn, q⟩ := h
    have hr1 : Room 1 (A.deeper (envOfC (Str.ofString "is_size") (defScope sSiz) s.heap.objs.size f cdv)) := hr.mono (by omega)
    refine ⟨_, (pss_cons (ps_if (PW.pt (pw_or (pt_not (pt_val (pe_cal T.c_is_number (hr.mono (by omega)) (by rfl) (pa_cons (pv 0) (pa_cons pe_int (pa_cons (C8.pe_gc (by rfl) T.g_MOST_PLACES) pa_nil)))))) (pw_or1 (pt_not (pt_val (pe_cal T.c_is_number (hr.mono (by omega)) (by rfl) (pa_cons (pv 1) (pa_cons (C8.pe_gc (by rfl) T.g_LEAST_HUES) (pa_cons (C8.pe_gc (by rfl) T.g_MOST_HUES) pa_nil)))))))))
  (pss_one (ps_ret pe_bl)) pss_nil)
  (pss_one (ps_ret (pe_cmpR op_le (pe_cal T.c_fillings_number (hr.mono (by omega)) (by rfl) (pa_cons (pv 0) (pa_cons (pv 1) pa_nil))) (C8.pe_gc (by rfl) T.g_MOST_FILLINGS) (nomark _))))), ?_⟩
    have no : ∀ {d e : PyData}, (numD 1 6 d = false ∨ numD 2 4 e = false) → sizD d e = false := fun {d e} h => by
      cases d with
      | int m =>
        cases e with
        | int n =>
          show sizeOk m n = false
          unfold sizeOk
          rcases h with h | h
          · have h : decide (1 ≤ m ∧ m ≤ 6) = false := h
            rw [h, Bool.false_and, Bool.false_and]
          · have h : decide (2 ≤ n ∧ n ≤ 4) = false := h
            rw [h, Bool.and_false, Bool.false_and]
        | _ => rfl
      | _ => rfl
    refine ⟨v, rfl, v, d, 1, 6, rfl, an, _, rfl, ?_⟩
    cases h1 : numD 1 6 d with
    | false =>
      rw [no (.inl h1)] at q
      exact iteT q
    | true =>
      refine iteF ⟨u, rfl, u, e, 2, 4, rfl, bn, _, rfl, ?_⟩
      cases h2 : numD 2 4 e with
      | false =>
        rw [no (.inr h2)] at q
        exact iteT q
      | true =>
        cases d with
        | int m =>
          cases e with
          | int n =>
            have h1 : decide (1 ≤ m ∧ m ≤ 6) = true := h1
            have h2 : decide (2 ≤ n ∧ n ≤ 4) = true := h2
            have g1 := of_decide_eq_true h1
            have g2 := of_decide_eq_true h2
            cases an with
            | dct l => cases l
            | int =>
              cases bn with
              | dct l => cases l
              | int =>
                refine iteF ⟨.int m, rfl, .int n, rfl, m, n, rfl, by omega, by omega, by omega, by omega, _, _, rfl, rfl, ?_⟩
                have e : sizD (.int m) (.int n) = decide (n ^ m.toNat ≤ 256) := by
                  show sizeOk m n = _
                  unfold sizeOk
                  rw [h1, h2, Bool.true_and, Bool.true_and]
                rw [e] at q
                exact q
          | _ => exact nomatch h2
        | _ => exact nomatch h1
theorem ok_risA {f c Pr : Addr} {fd : FuncData} {Ps : List Addr} {k : Nat} (F : FunC K "is_rising" "is_rising" sRis f fd (.ref c)) (TB : GxR.TabB base mg c Pr) (hP : Pr ∈ Ps) (T : TxtI mg) : FnOk P w K mg base CX0 (k + 2) f fd ["parts"] (spRisA Ps) := by
  refine F.ok scRis (fun vs H Q E h => ?_) (fun A outer s H vs Q E hr h => ?_)
  · obtain ⟨pa, rfl, _⟩ := h
    rfl
  · obtain ⟨pa, rfl, hT, hcase⟩ := h
    refine ⟨_, (pss_one (ps_ret (Gx.pe_allX (own := [("k", 1)]) (te := tOp (rLtU K) (tOp (rIxT K) (tVar 0) (tVar 1)) (tOp (rIxT K) (tVar 0) (tOp (rI0 fun i j => .int (i + j)) (tVar 1) (tC (.int 1))))) hr (by rfl) T.m_all rfl scRis.nd TB rfl (blkOk_by (own := [("k", 1)]) (N := nRis) (sc := defScope sRis) (by decide +kernel)) ⟨rfl, by decide +kernel, rfl⟩ (pi_range1 (by rfl) T.m_range (pa_cons (pe_op op_sub (pe_callB call_len_seq (by rfl) T.m_len (by decide +kernel) (pa_cons (pv 0) pa_nil)) pe_int) pa_nil))
   (fun _ _ _ _ _ _ hA => (pg_name (i := 1) scRis.nd rfl (Or.inl rfl))) (fun _ _ _ _ _ _ hA => pts_nil) (fun _ _ _ _ _ _ hA => (pe_cmpR (OpR.or op_lt (op_ltT (Nat.lt_of_le_of_lt (Nat.le_add_right _ 64) hA.units))) (pe_ix ix_tup (pv 0) (pv 1) (fun _ _ => rfl)) (pe_ix ix_tup (pv 0) (pe_op op_add (pv 1) pe_int) (fun _ _ => rfl)) (nomark _)))))), ?_⟩
    rcases hcase with ⟨ns, hpa, hlen, q⟩ | ⟨rs, rows, hpa, prs, hlen, q⟩
    · refine ⟨.ref pa, rfl, pa, _, rfl, .inr (.inl (.inl hpa)), _, 1, rfl, rfl, _, rfl, ?_, ?_, hT _ hP, fun H2 tb => ?_⟩
      · rw [List.length_map]; omega
      · rw [List.length_map]; omega
      have f2 := FrS.one hT hP tb
      have en : (((ns.map V.int).length : Int) - 1).toNat = ns.length - 1 := by rw [List.length_map]; omega
      rw [en]
      refine Gx.all_range (lo := 0) (n := ns.length - 1) (fun i H3 => FrS Ps H H3 ∧ ∀ j, j < i → ns.getD j 0 < ns.getD (j + 1) 0) ⟨f2, fun j hj => absurd hj (Nat.not_lt_zero _)⟩ (fun i H3 hi p => ?_) (fun H3 p => ?_)
      · obtain ⟨f3, hp⟩ := p
        have h1 : i < ns.length := by omega
        have h2 : i + 1 < ns.length := by omega
        have ha := getD_get (d := 0) h1
        have hb := getD_get (d := 0) h2
        have e0 : (0 : Int) + (i : Int) = i := Int.zero_add _
        have e1 : (0 : Int) + (i : Int) + 1 = ((i + 1 : Nat) : Int) := by omega
        refine ⟨rfl, ?_⟩
        dsimp only [tYes]
        rw [if_pos rfl]
        refine ⟨.ref pa, rfl, .int (0 + (i : Int)), rfl, pa, _, _, .int ns[i], rfl, rfl, .inl (.inl (f3.tups hT _ _ hpa)), by rw [e0]; exact atI_nat (by rw [List.getElem?_map, List.getElem?_eq_getElem h1]; rfl), ?_⟩
        refine ⟨.ref pa, rfl, .int (0 + (i : Int)), rfl, _, _, rfl, rfl, pa, _, _, .int ns[i + 1], rfl, rfl, .inl (.inl (f3.tups hT _ _ hpa)), by rw [e1]; exact atI_nat (by rw [List.getElem?_map, List.getElem?_eq_getElem h2]; rfl), .inl ⟨ns[i], ns[i + 1], rfl, rfl, _, rfl, ?_⟩⟩
        by_cases hab : ns[i] < ns[i + 1]
        · rw [if_pos (decide_eq_true hab)]
          refine ⟨f3, fun j hj => ?_⟩
          by_cases ej : j = i
          · rw [ej, ha, hb]
            exact hab
          · exact hp j (by omega)
        · rw [if_neg (by rw [decide_eq_true_eq]; exact hab)]
          have e : risI ns = false := all_no (x := i) (List.mem_range.mpr hi) (decide_eq_false (by rw [ha, hb]; exact hab))
          rw [e] at q
          exact q H3 f3
      · have e : risI ns = true := List.all_eq_true.mpr fun j hj => decide_eq_true (p.2 j (List.mem_range.mp hj))
        rw [e] at q
        exact q H3 p.1
    · have rl := pairedLen prs
      refine ⟨.ref pa, rfl, pa, _, rfl, .inr (.inl (.inl hpa)), _, 1, rfl, rfl, _, rfl, ?_, ?_, hT _ hP, fun H2 tb => ?_⟩
      · rw [List.length_map]; omega
      · rw [List.length_map]; omega
      have f2 := FrS.one hT hP tb
      have en : (((rs.map V.ref).length : Int) - 1).toNat = rows.length - 1 := by rw [List.length_map]; omega
      rw [en]
      refine Gx.all_range (lo := 0) (n := rows.length - 1) (fun i H3 => FrS Ps H H3 ∧ ∀ j, j < i → HT.lexLt (rows.getD j []) (rows.getD (j + 1) []) = true) ⟨f2, fun j hj => absurd hj (Nat.not_lt_zero _)⟩ (fun i H3 hi p => ?_) (fun H3 p => ?_)
      · obtain ⟨f3, hp⟩ := p
        have h1 : i < rows.length := by omega
        have h2 : i + 1 < rows.length := by omega
        have ha := getD_get (d := []) h1
        have hb := getD_get (d := []) h2
        obtain ⟨pa1, ea1, ra1⟩ := pairedGet prs (List.getElem?_eq_getElem h1)
        obtain ⟨pb1, eb1, rb1⟩ := pairedGet prs (List.getElem?_eq_getElem h2)
        have e0 : (0 : Int) + (i : Int) = i := Int.zero_add _
        have e1 : (0 : Int) + (i : Int) + 1 = ((i + 1 : Nat) : Int) := by omega
        refine ⟨rfl, ?_⟩
        dsimp only [tYes]
        rw [if_pos rfl]
        refine ⟨.ref pa, rfl, .int (0 + (i : Int)), rfl, pa, _, _, .ref pa1, rfl, rfl, .inl (.inl (f3.tups hT _ _ hpa)), by rw [e0]; exact atI_nat (by rw [List.getElem?_map, ea1]; rfl), ?_⟩
        refine ⟨.ref pa, rfl, .int (0 + (i : Int)), rfl, _, _, rfl, rfl, pa, _, _, .ref pb1, rfl, rfl, .inl (.inl (f3.tups hT _ _ hpa)), by rw [e1]; exact atI_nat (by rw [List.getElem?_map, eb1]; rfl), .inr ⟨pa1, pb1, rows[i], rows[i + 1], rfl, rfl, .inl (.inl (f3.tups hT _ _ ra1)), .inl (.inl (f3.tups hT _ _ rb1)), _, rfl, ?_⟩⟩
        by_cases hab : HT.lexLt rows[i] rows[i + 1] = true
        · rw [if_pos hab]
          refine ⟨f3, fun j hj => ?_⟩
          by_cases ej : j = i
          · rw [ej, ha, hb]
            exact hab
          · exact hp j (by omega)
        · rw [if_neg hab]
          have e : risR rows = false := all_no (x := i) (List.mem_range.mpr hi) (by rw [ha, hb]; exact Bool.eq_false_iff.mpr hab)
          rw [e] at q
          exact q H3 f3
      · have e : risR rows = true := List.all_eq_true.mpr fun j hj => p.2 j (List.mem_range.mp hj)
        rw [e] at q
        exact q H3 p.1
/-- all(is_number(..) for x in thing) -/
theorem ok_plsA {f c Pp : Addr} {fd : FuncData} {Ps : List Addr} {k : Nat} (F : FunC K "are_places" "are_places" sPls f fd (.ref c)) (TB : GxR.TabB base mg c Pp) (hP : Pp ∈ Ps) (T : TxtIA2 P w K mg base Ps) : FnOk P w K mg base CX0 (k + 3) f fd ["thing", "many"] (spPlsA Ps) := by
  refine F.ok scPls (fun vs H Q E h => ?_) (fun A outer s H vs Q E hr h => ?_)
  · obtain ⟨v, d, many, rfl, _⟩ := h
    rfl
  · obtain ⟨v, d, many, rfl, hT, an, l10, q⟩ := h
    have hr2 : Room 2 (A.deeper (envOfC (Str.ofString "are_places") (defScope sPls) s.heap.objs.size f (.ref c))) := hr.mono (by omega)
    refine ⟨_, (pss_cons (ps_if (PW.pt (pw_or (pt_not (pt_val (pe_callB call_isi (by rfl) T.m_isinstance (by decide +kernel) (pa_cons (pv 0) (pa_cons (pe_bltn (v := .ty "tuple") (by rfl) T.m_tuple (by decide +kernel) rfl) pa_nil))))) (pw_or1 (pt_not (pt_chain op_le op_le pe_int (pe_callB call_len_seq (by rfl) T.m_len (by decide +kernel) (pa_cons (pv 0) pa_nil)) (C8.pe_gc (by rfl) T.g_MOST_PLACES_OF_A_WISH))))))
  (pss_one (ps_ret pe_bl)) pss_nil)
  (pss_one (ps_ret (pe_and (Gx.pe_allX (own := [("place", 2)]) hr (by rfl) T.m_all rfl scPls.nd TB rfl (blkOk_by (own := [("place", 2)]) (N := nPls) (sc := defScope sPls) (by decide +kernel)) ⟨rfl, by decide +kernel, rfl⟩ (pi_tup (pv 0))
   (fun _ _ _ _ _ _ hA => (pg_name (i := 2) scPls.nd rfl (Or.inl rfl))) (fun _ _ _ _ _ _ hA => pts_nil) (fun _ _ _ _ _ _ hA => (pe_cal T.c_is_number (hA.mono (by omega)) (by rfl) (pa_cons (pv 2) (pa_cons pe_int (pa_cons (pe_op op_sub (pv 1) pe_int) pa_nil)))))) (pe_one (pe_cal T.c_is_rising (hr.mono (by omega)) (by rfl) (pa_cons (pv 0) pa_nil))))))), ?_⟩
    have q0 := q H (FrS.refl hT)
    refine ⟨v, rfl, v, .ty "tuple", _, .type "tuple", _, rfl, .ty _, an.ty, kit_ty (kit_self (.inr (.inr (.inl rfl)))), _, rfl, ?_⟩
    cases d with
    | tuple ds =>
      refine iteF ?_
      cases an with
      | dct l => cases l
      | @tup pa xs _ hpa al =>
        have xl := al.len
        refine ⟨.ref pa, rfl, pa, _, rfl, .inr (.inl (.inl hpa)), _, _, rfl, rfl, _, rfl, ?_⟩
        rw [xl]
        by_cases l1 : 1 ≤ ds.length
        · rw [if_pos (decide_eq_true (show (1 : Int) ≤ (ds.length : Int) by omega))]
          refine ⟨_, _, rfl, rfl, _, rfl, ?_⟩
          by_cases l3 : ds.length ≤ 3
          · rw [decide_eq_true (show ((ds.length : Nat) : Int) ≤ 3 by omega)]
            have e1 : plsD many (.tuple ds) = (ds.all (numD 0 (many - 1)) && risI (ds.map intD)) := by
              show (decide (1 ≤ ds.length ∧ ds.length ≤ 3) && _ && _) = _
              rw [decide_eq_true ⟨l1, l3⟩, Bool.true_and]
            rw [e1] at q
            refine iteF ?_
            refine ⟨.ref pa, rfl, pa, rfl, ⟨_, .inl (.inl hpa)⟩, hT _ hP, fun H2 tb => ?_⟩
            have f2 := FrS.one hT hP tb
            refine Gx.all_tup (K := K) (a := pa) (xs := xs) (fun i H3 => FrS Ps H H3 ∧ ∀ d ∈ ds.take i, numD 0 (many - 1) d = true) ⟨f2, fun _ h => nomatch h⟩ (fun i H3 _ p => .inl (.inl (p.1.tups hT _ _ hpa))) (fun i x H3 hx p => ?_) (fun H3 p => ?_)
            · obtain ⟨d, ed, ad⟩ := al.get hx
              obtain ⟨f3, hp⟩ := p
              refine ⟨rfl, ?_⟩
              dsimp only [tYes]
              rw [if_pos rfl]
              refine ⟨x, rfl, .int many, rfl, _, _, rfl, rfl, x, d, 0, many - 1, rfl, ad.up (f3.noTb hT), _, rfl, ?_⟩
              cases hn : numD 0 (many - 1) d with
              | true =>
                rw [if_pos rfl]
                refine ⟨f3, fun y hy => ?_⟩
                rw [take_snoc ed] at hy
                rcases List.mem_append.mp hy with h | h
                · exact hp y h
                · rw [List.mem_singleton.mp h]; exact hn
              | false =>
                rw [if_neg (fun z => nomatch z)]
                rw [all_no (List.mem_of_getElem? ed) hn, Bool.false_and] at q
                exact ⟨false, rfl, iteF (q H3 f3)⟩
            · obtain ⟨f3, hp⟩ := p
              rw [xl, List.take_length] at hp
              have ea : ds.all (numD 0 (many - 1)) = true := List.all_eq_true.mpr hp
              rw [ea, Bool.true_and] at q
              refine ⟨true, rfl, iteT ?_⟩
              have ex : xs = (ds.map intD).map V.int := an_ints (by rw [← num_all ea]; exact al)
              rw [ex] at hpa
              exact ⟨.ref pa, rfl, pa, rfl, f3.2, .inl ⟨ds.map intD, f3.tups hT _ _ hpa, by rw [List.length_map]; omega, fun H4 f4 => q H4 (f3.trans f4)⟩⟩
          · rw [decide_eq_false (show ¬ ((ds.length : Nat) : Int) ≤ 3 by omega)]
            have e1 : plsD many (.tuple ds) = false := by
              show (decide (1 ≤ ds.length ∧ ds.length ≤ 3) && _ && _) = _
              rw [decide_eq_false (fun z => l3 z.2), Bool.false_and, Bool.false_and]
            rw [e1] at q0
            exact iteT q0
        · rw [if_neg (by rw [decide_eq_true_eq]; omega)]
          have e1 : plsD many (.tuple ds) = false := by
            show (decide (1 ≤ ds.length ∧ ds.length ≤ 3) && _ && _) = _
            rw [decide_eq_false (fun z => l1 z.1), Bool.false_and, Bool.false_and]
          rw [e1] at q0
          exact ⟨_, rfl, iteT q0⟩
    | none => exact iteT (iteT q0)
    | bool b => exact iteT (iteT q0)
    | int i => exact iteT (iteT q0)
    | str x => exact iteT (iteT q0)
    | list l => exact iteT (iteT q0)
    | dict l => exact iteT (iteT q0)
theorem ok_husA {f c Ph : Addr} {fd : FuncData} {Ps : List Addr} {k : Nat} (F : FunC K "are_hues" "are_hues" sHus f fd (.ref c)) (TB : GxR.TabB base mg c Ph) (hP : Ph ∈ Ps) (T : TxtIA2 P w K mg base Ps) : FnOk P w K mg base CX0 (k + 3) f fd ["thing", "length", "hues"] (spHusA Ps) := by
  refine F.ok scHus (fun vs H Q E h => ?_) (fun A outer s H vs Q E hr h => ?_)
  · obtain ⟨v, d, n, hues, rfl, _⟩ := h
    rfl
  · obtain ⟨v, d, n, hues, rfl, hT, an, q⟩ := h
    refine ⟨_, (pss_cons (ps_if (PW.pt (pw_or (pt_not (pt_val (pe_callB call_isi (by rfl) T.m_isinstance (by decide +kernel) (pa_cons (pv 0) (pa_cons (pe_bltn (v := .ty "tuple") (by rfl) T.m_tuple (by decide +kernel) rfl) pa_nil))))) (pw_or1 (pt_cmpR op_ne (pe_callB call_len_seq (by rfl) T.m_len (by decide +kernel) (pa_cons (pv 0) pa_nil)) (pv 1) (nomark _)))))
  (pss_one (ps_ret pe_bl)) pss_nil)
  (pss_one (ps_ret (Gx.pe_allX (own := [("hue", 3)]) hr (by rfl) T.m_all rfl scHus.nd TB rfl (blkOk_by (own := [("hue", 3)]) (N := nHus) (sc := defScope sHus) (by decide +kernel)) ⟨rfl, by decide +kernel, rfl⟩ (pi_tup (pv 0))
   (fun _ _ _ _ _ _ hA => (pg_name (i := 3) scHus.nd rfl (Or.inl rfl))) (fun _ _ _ _ _ _ hA => pts_nil) (fun _ _ _ _ _ _ hA => (pe_cal T.c_is_number (hA.mono (by omega)) (by rfl) (pa_cons (pv 3) (pa_cons pe_int (pa_cons (pe_op op_sub (pv 2) pe_int) pa_nil))))))))), ?_⟩
    have q0 := q H (FrS.refl hT)
    refine ⟨v, rfl, v, .ty "tuple", _, .type "tuple", _, rfl, .ty _, an.ty, kit_ty (kit_self (.inr (.inr (.inl rfl)))), _, rfl, ?_⟩
    cases d with
    | tuple ds =>
      refine iteF ?_
      cases an with
      | dct l => cases l
      | @tup pa xs _ hpa al =>
        have xl := al.len
        refine ⟨.ref pa, rfl, pa, _, rfl, .inr (.inl (.inl hpa)), _, rfl, rfl, _, rfl, ?_⟩
        rw [xl]
        by_cases el : ds.length = n
        · refine iteNS (by rw [el]) ?_
          have e1 : husD n hues (.tuple ds) = ds.all (numD 0 (hues - 1)) := by
            show (decide (ds.length = n) && _) = _
            rw [decide_eq_true el, Bool.true_and]
          rw [e1] at q
          refine ⟨.ref pa, rfl, pa, rfl, ⟨_, .inl (.inl hpa)⟩, hT _ hP, fun H2 tb => ?_⟩
          have f2 := FrS.one hT hP tb
          refine Gx.all_tup (K := K) (a := pa) (xs := xs) (fun i H3 => FrS Ps H H3 ∧ ∀ d ∈ ds.take i, numD 0 (hues - 1) d = true) ⟨f2, fun _ h => nomatch h⟩ (fun i H3 _ p => .inl (.inl (p.1.tups hT _ _ hpa))) (fun i x H3 hx p => ?_) (fun H3 p => ?_)
          · obtain ⟨d, ed, ad⟩ := al.get hx
            obtain ⟨f3, hp⟩ := p
            refine ⟨rfl, ?_⟩
            dsimp only [tYes]
            rw [if_pos rfl]
            refine ⟨x, rfl, .int hues, rfl, _, _, rfl, rfl, x, d, 0, hues - 1, rfl, ad.up (f3.noTb hT), _, rfl, ?_⟩
            cases hn : numD 0 (hues - 1) d with
            | true =>
              rw [if_pos rfl]
              refine ⟨f3, fun y hy => ?_⟩
              rw [take_snoc ed] at hy
              rcases List.mem_append.mp hy with h | h
              · exact hp y h
              · rw [List.mem_singleton.mp h]; exact hn
            | false =>
              rw [if_neg (fun z => nomatch z)]
              rw [all_no (List.mem_of_getElem? ed) hn] at q
              exact q H3 f3
          · obtain ⟨f3, hp⟩ := p
            rw [xl, List.take_length] at hp
            rw [List.all_eq_true.mpr hp] at q
            exact q H3 f3
        · have e1 : husD n hues (.tuple ds) = false := by
            show (decide (ds.length = n) && _) = _
            rw [decide_eq_false el, Bool.false_and]
          rw [e1] at q0
          have e2 : (!decide (V.int (ds.length : Int) = V.int (n : Int))) = true := by
            rw [decide_eq_false (fun z => el (by injection z with z; omega))]
            rfl
          rw [e2]
          exact iteT q0
    | none => exact iteT (iteT q0)
    | bool b => exact iteT (iteT q0)
    | int i => exact iteT (iteT q0)
    | str x => exact iteT (iteT q0)
    | list l => exact iteT (iteT q0)
    | dict l => exact iteT (iteT q0)
theorem ok_rwsA {f c Pw : Addr} {fd : FuncData} {Ps : List Addr} {k : Nat} (F : FunC K "are_rows" "are_rows" sRws f fd (.ref c)) (TB : GxR.TabB base mg c Pw) (hP : Pw ∈ Ps) (T : TxtIA3 P w K mg base Ps) : FnOk P w K mg base CX0 (k + 5) f fd ["thing", "length", "hues"] (spRwsA Ps) := by
  refine F.ok scRws (fun vs H Q E h => ?_) (fun A outer s H vs Q E hr h => ?_)
  · obtain ⟨v, d, n, hues, rfl, _⟩ := h
    rfl
  · obtain ⟨v, d, n, hues, rfl, hT, an, l10, q⟩ := h
    have hr2 : Room 2 (A.deeper (envOfC (Str.ofString "are_rows") (defScope sRws) s.heap.objs.size f (.ref c))) := hr.mono (by omega)
    refine ⟨_, (pss_cons (ps_if (PW.pt (pw_or (pt_not (pt_val (pe_callB call_isi (by rfl) T.m_isinstance (by decide +kernel) (pa_cons (pv 0) (pa_cons (pe_bltn (v := .ty "tuple") (by rfl) T.m_tuple (by decide +kernel) rfl) pa_nil))))) (pw_or1 (pt_cmpR op_eq (pe_callB call_len_seq (by rfl) T.m_len (by decide +kernel) (pa_cons (pv 0) pa_nil)) pe_int (nomark _)))))
  (pss_one (ps_ret pe_bl)) pss_nil)
  (pss_one (ps_ret (pe_and (Gx.pe_allX (own := [("row", 3)]) hr (by rfl) T.m_all rfl scRws.nd TB rfl (blkOk_by (own := [("row", 3)]) (N := nRws) (sc := defScope sRws) (by decide +kernel)) ⟨rfl, by decide +kernel, rfl⟩ (pi_tup (pv 0))
   (fun _ _ _ _ _ _ hA => (pg_name (i := 3) scRws.nd rfl (Or.inl rfl))) (fun _ _ _ _ _ _ hA => pts_nil) (fun _ _ _ _ _ _ hA => (pe_cal T.c_are_hues (hA.mono (by omega)) (by rfl) (pa_cons (pv 3) (pa_cons (pv 1) (pa_cons (pv 2) pa_nil)))))) (pe_one (pe_cal T.c_is_rising (hr.mono (by omega)) (by rfl) (pa_cons (pv 0) pa_nil))))))), ?_⟩
    have q0 := q H (FrS.refl hT)
    refine ⟨v, rfl, v, .ty "tuple", _, .type "tuple", _, rfl, .ty _, an.ty, kit_ty (kit_self (.inr (.inr (.inl rfl)))), _, rfl, ?_⟩
    cases d with
    | tuple ds =>
      refine iteF ?_
      cases an with
      | dct l => cases l
      | @tup pa xs _ hpa al =>
        have xl := al.len
        refine ⟨.ref pa, rfl, pa, _, rfl, .inr (.inl (.inl hpa)), rfl, _, rfl, ?_⟩
        rw [xl]
        by_cases el : ds.length = 0
        · have e1 : rwsD n hues (.tuple ds) = false := by
            show (decide (ds.length ≠ 0) && _ && _) = _
            rw [decide_eq_false (fun z => z el), Bool.false_and, Bool.false_and]
          rw [e1] at q0
          rw [decide_eq_true (show V.int (ds.length : Int) = V.int 0 by rw [el]; rfl)]
          exact iteT q0
        · rw [decide_eq_false (show ¬ V.int (ds.length : Int) = V.int 0 from fun z => el (by injection z with z; omega))]
          refine iteF ?_
          have e1 : rwsD n hues (.tuple ds) = (ds.all (husD n hues) && risR (ds.map rowI)) := by
            show (decide (ds.length ≠ 0) && _ && _) = _
            rw [decide_eq_true el, Bool.true_and]
          rw [e1] at q
          refine ⟨.ref pa, rfl, pa, rfl, ⟨_, .inl (.inl hpa)⟩, hT _ hP, fun H2 tb => ?_⟩
          have f2 := FrS.one hT hP tb
          refine Gx.all_tup (K := K) (a := pa) (xs := xs) (fun i H3 => FrS Ps H H3 ∧ ∀ d ∈ ds.take i, husD n hues d = true) ⟨f2, fun _ h => nomatch h⟩ (fun i H3 _ p => .inl (.inl (p.1.tups hT _ _ hpa))) (fun i x H3 hx p => ?_) (fun H3 p => ?_)
          · obtain ⟨d, ed, ad⟩ := al.get hx
            obtain ⟨f3, hp⟩ := p
            refine ⟨rfl, ?_⟩
            dsimp only [tYes]
            rw [if_pos rfl]
            refine ⟨x, rfl, .int n, rfl, .int hues, rfl, x, d, n, hues, rfl, f3.2, ad.up (f3.noTb hT), fun H4 f4 => ⟨_, rfl, ?_⟩⟩
            cases hn : husD n hues d with
            | true =>
              rw [if_pos rfl]
              refine ⟨f3.trans f4, fun y hy => ?_⟩
              rw [take_snoc ed] at hy
              rcases List.mem_append.mp hy with h | h
              · exact hp y h
              · rw [List.mem_singleton.mp h]; exact hn
            | false =>
              rw [if_neg (fun z => nomatch z)]
              rw [all_no (List.mem_of_getElem? ed) hn, Bool.false_and] at q
              exact ⟨false, rfl, iteF (q H4 (f3.trans f4))⟩
          · obtain ⟨f3, hp⟩ := p
            rw [xl, List.take_length] at hp
            have ea := List.all_eq_true.mpr hp
            rw [ea, Bool.true_and] at q
            obtain ⟨rs, e2, prs⟩ := an_rows (al.up (f3.noTb hT)) ea
            rw [e2] at hpa
            refine ⟨true, rfl, iteT ?_⟩
            exact ⟨.ref pa, rfl, pa, rfl, f3.2, .inr ⟨rs, ds.map rowI, f3.tups hT _ _ hpa, prs, by rw [List.length_map]; exact l10, fun H4 f4 => q H4 (f3.trans f4)⟩⟩
    | none => exact iteT (iteT q0)
    | bool b => exact iteT (iteT q0)
    | int i => exact iteT (iteT q0)
    | str x => exact iteT (iteT q0)
    | list l => exact iteT (iteT q0)
    | dict l => exact iteT (iteT q0)
theorem ok_wshA {f : Addr} {fd : FuncData} {Ps : List Addr} {k : Nat} (F : Fun K "is_wish" "is_wish" sWsh f fd) (T : TxtIA4 P w K mg base Ps) : FnOk P w K mg base CX0 (k + 6) f fd ["thing", "many", "hues"] (spWshA Ps) := by
  refine F.ok scWsh (fun vs H Q E h => ?_) (fun cdv A outer s H vs Q E hr h => ?_)
  · obtain ⟨v, d, many, hues, rfl, _⟩ := h
    rfl
  · obtain ⟨v, d, many, hues, rfl, hT, an, short, q⟩ := h
    have hr3 : Room 3 (A.deeper (envOfC (Str.ofString "is_wish") (defScope sWsh) s.heap.objs.size f cdv)) := hr.mono (by omega)
    have hr5 : Room 5 (A.deeper (envOfC (Str.ofString "is_wish") (defScope sWsh) s.heap.objs.size f cdv)) := hr.mono (by omega)
    refine ⟨_, (pss_cons (ps_if (PW.pt (pw_or (pt_not (pt_val (pe_callB call_isi (by rfl) T.m_isinstance (by decide +kernel) (pa_cons (pv 0) (pa_cons (pe_bltn (v := .ty "tuple") (by rfl) T.m_tuple (by decide +kernel) rfl) pa_nil))))) (pw_or1 (pt_cmpR op_ne (pe_callB call_len_seq (by rfl) T.m_len (by decide +kernel) (pa_cons (pv 0) pa_nil)) pe_int (nomark _)))))
  (pss_one (ps_ret pe_bl)) pss_nil)
  (pss_cons (ps_asg (pv 0) (pg_tup rfl (pgs_cons (pg_name (i := 3) scWsh.nd rfl (Or.inl rfl)) (pgs_cons (pg_name (i := 4) scWsh.nd rfl (Or.inl rfl)) pgs_nil))))
  (pss_one (ps_ret (pe_and (pe_cal T.c_are_places (hr.mono (by omega)) (by rfl) (pa_cons (pv 3) (pa_cons (pv 1) pa_nil))) (pe_one (pe_cal T.c_are_rows (hr.mono (by omega)) (by rfl) (pa_cons (pv 4) (pa_cons (pe_callB call_len_seq (by rfl) T.m_len (by decide +kernel) (pa_cons (pv 3) pa_nil)) (pa_cons (pv 2) pa_nil)))))))))), ?_⟩
    have q0 := q H (FrS.refl hT)
    refine ⟨v, rfl, v, .ty "tuple", _, .type "tuple", _, rfl, .ty _, an.ty, kit_ty (kit_self (.inr (.inr (.inl rfl)))), _, rfl, ?_⟩
    cases d with
    | tuple ds =>
      refine iteF ?_
      cases an with
      | dct l => cases l
      | @tup pa xs _ hpa al =>
        have xl := al.len
        refine ⟨.ref pa, rfl, pa, _, rfl, .inr (.inl (.inl hpa)), rfl, _, rfl, ?_⟩
        rw [xl]
        have no2 : ds.length ≠ 2 → wshD many hues (.tuple ds) = false := fun n => by
          match ds, n with
          | [], _ => rfl
          | [_], _ => rfl
          | [_, _], n => exact absurd rfl n
          | _ :: _ :: _ :: _, _ => rfl
        by_cases el : ds.length = 2
        · rw [el]
          refine iteNS rfl ?_
          match ds, el, al, short, q with
          | [dp, dr], _, .cons (v := vp) ap (.cons (v := vr) ar .nil), short, q =>
            obtain ⟨sp1, sr1⟩ := short
            have e1 : wshD many hues (.tuple [dp, dr]) = (plsD many dp && rwsD (lenD dp) hues dr) := rfl
            rw [e1] at q
            refine ⟨.ref pa, rfl, pa, _, rfl, .inl (.inl hpa), rfl, vp, [vr], rfl, vr, [], rfl, rfl, ?_⟩
            refine ⟨vp, rfl, .int many, rfl, vp, dp, many, rfl, hT, ap, sp1, fun H2 f2 => ⟨_, rfl, ?_⟩⟩
            cases hp : plsD many dp with
            | false =>
              rw [hp, Bool.false_and] at q
              exact iteF (q H2 f2)
            | true =>
              rw [hp, Bool.true_and] at q
              refine iteT ?_
              cases dp with
              | tuple lp =>
                cases ap with
                | dct l => cases l
                | @tup pb ys _ hpb alp =>
                  have ll : ((ys.length : Nat) : Int) = ((lenD (.tuple lp) : Nat) : Int) := by rw [alp.len]; rfl
                  refine ⟨vr, rfl, .ref pb, rfl, pb, _, rfl, .inr (.inl (.inl (f2.tups hT _ _ hpb))), .int hues, rfl, vr, dr, lenD (.tuple lp), hues, by rw [ll]; rfl, f2.2, ar.up (f2.noTb hT), sr1, fun H3 f3 => q H3 (f2.trans f3)⟩
              | _ => exact nomatch hp
        · rw [no2 el] at q0
          have e2 : (!decide (V.int (ds.length : Int) = V.int 2)) = true := by
            rw [decide_eq_false (fun z => el (by injection z with z; omega))]
            rfl
          rw [e2]
          exact iteT q0
    | none => exact iteT (iteT q0)
    | bool b => exact iteT (iteT q0)
    | int i => exact iteT (iteT q0)
    | str x => exact iteT (iteT q0)
    | list l => exact iteT (iteT q0)
    | dict l => exact iteT (iteT q0)
end
end Rd

set_option Elab.async false
set_option linter.all false
set_option maxRecDepth 100000
set_option maxHeartbeats 4000000
namespace Rd
open PySem PySem.Spec PyProof.Rows L2 Dt
abbrev sAdr : Stmt := topS 39
abbrev nAdr : List Str := ["thing", "hues", "hue"]
theorem scAdr : FnScope nAdr ["thing", "hues"] (defScope sAdr) := ⟨rfl, rfl, rfl, by decide +kernel, rfl, by decide +kernel, by decide +kernel⟩
abbrev sIta : Stmt := topS 40
abbrev nIta : List Str := ["thing", "many", "hues", "draws"]
theorem scIta : FnScope nIta ["thing", "many", "hues"] (defScope sIta) := ⟨rfl, rfl, rfl, by decide +kernel, rfl, by decide +kernel, by decide +kernel⟩
abbrev sInm : Stmt := topS 41
abbrev nInm : List Str := ["thing", "letter"]
theorem scInm : FnScope nInm ["thing"] (defScope sInm) := ⟨rfl, rfl, rfl, by decide +kernel, rfl, by decide +kernel, by decide +kernel⟩
def spAdr (Ps : List Addr) : Sp := fun vs H Q _ => ∃ (da : Addr) (ds : List Int) (hues : Int), vs = [.ref da, .int hues] ∧ Tabs Ps H ∧ H da = some (.lst (ds.map V.int)) ∧ 1 ≤ ds.length ∧ (∀ h ∈ ds, 0 ≤ h ∧ h < hues) ∧ ∀ H', FrS Ps H H' → Q (.bl true) H'
def spIta (Ps : List Addr) : Sp := fun vs H Q _ => ∃ (ta : Addr) (tb : List (List Int)) (many hues : Int), vs = [.ref ta, .int many, .int hues] ∧ Tabs Ps H ∧ IsTab (fun _ => False) H ta tb ∧ GoodT many hues tb ∧ ∀ H', FrS Ps H H' → Q (.bl true) H'
def spInm (Ps : List Addr) : Sp := fun vs H Q _ => ∃ (n : Str), vs = [.str n] ∧ Tabs Ps H ∧ NmOk n ∧ ∀ H', FrS Ps H H' → Q (.bl true) H'
structure TxtKl (mg : Str → Option Value) : Prop where
  m_isinstance : mg "isinstance" = none
  m_list : mg "list" = none
  m_str : mg "str" = none
  m_len : mg "len" = none
  m_all : mg "all" = none
structure TxtK0 (P : Program) (w : World) (K : PySem.W.Frag) (mg : Str → Option Value) (base : Heap) : Prop extends TxtKl mg where
  c_is_number : Cal P w K mg base 1 "is_number" ["thing", "low", "high"] spNum
structure TxtK1 (P : Program) (w : World) (K : PySem.W.Frag) (mg : Str → Option Value) (base : Heap) (Ps : List Addr) : Prop extends TxtKl mg where
  c_are_draws : Cal P w K mg base 3 "are_draws" ["thing", "hues"] (spAdr Ps)
structure TxtK2 (mg : Str → Option Value) : Prop extends TxtKl mg where
  g_LETTERS : ∃ u, mg "LETTERS" = some u ∧ RelV (.str letS) u
  g_MOST_LETTERS : ∃ u, mg "MOST_LETTERS" = some u ∧ RelV (.int 8) u
section
variable {P : Program} {w : World} {K : PySem.W.Frag} {mg : Str → Option Value} {base : Heap}
theorem ok_adr {f c Ph : Addr} {fd : FuncData} {Ps : List Addr} {k : Nat} (F : FunC K "are_draws" "are_draws" sAdr f fd (.ref c)) (TB : GxR.TabB base mg c Ph) (hP : Ph ∈ Ps) (T : TxtK0 P w K mg base) : FnOk P w K mg base CX0 (k + 3) f fd ["thing", "hues"] (spAdr Ps) := by
  refine F.ok scAdr (fun vs H Q E h => ?_) (fun A outer s H vs Q E hr h => ?_)
  · obtain ⟨pa, ns, many, rfl, _⟩ := h
    rfl
  · obtain ⟨pa, ns, hues, rfl, hT, hpa, h1, hpl, q⟩ := h
    refine ⟨_, (pss_cons (ps_if (PW.pt (pw_or (pt_not (pt_val (pe_callB call_isi (by rfl) T.m_isinstance (by decide +kernel) (pa_cons (pv 0) (pa_cons (pe_bltn (v := .ty "list") (by rfl) T.m_list (by decide +kernel) rfl) pa_nil))))) (pw_or1 (pt_cmpR op_eq (pe_callB call_len_seq (by rfl) T.m_len (by decide +kernel) (pa_cons (pv 0) pa_nil)) pe_int (nomark _)))))
  (pss_one (ps_ret pe_bl)) pss_nil)
  (pss_one (ps_ret (Gx.pe_allX (own := [("hue", 2)]) hr (by rfl) T.m_all rfl scAdr.nd TB rfl (blkOk_by (own := [("hue", 2)]) (N := nAdr) (sc := defScope sAdr) (by decide +kernel)) ⟨rfl, by decide +kernel, rfl⟩ (pi_list (pv 0))
   (fun _ _ _ _ _ _ hA => (pg_name (i := 2) scAdr.nd rfl (Or.inl rfl))) (fun _ _ _ _ _ _ hA => pts_nil) (fun _ _ _ _ _ _ hA => (pe_cal T.c_is_number (hA.mono (by omega)) (by rfl) (pa_cons (pv 2) (pa_cons pe_int (pa_cons (pe_op op_sub (pv 1) pe_int) pa_nil))))))))), ?_⟩
    refine ⟨.ref pa, rfl, .ref pa, .ty "list", .type "list", .type "list", true, rfl, .ty _, .base (.lst hpa), kit_ty (by decide +kernel), true, rfl, iteF ?_⟩
    refine ⟨.ref pa, rfl, pa, _, rfl, .inl (.inl (.inl hpa)), rfl, _, rfl, ?_⟩
    have e0 : decide (V.int ((ns.map V.int).length : Int) = V.int 0) = false := decide_eq_false fun z => by
      injection z with z
      rw [List.length_map] at z
      omega
    rw [e0]
    refine iteF ?_
    refine ⟨.ref pa, rfl, pa, rfl, ⟨_, .inl (.inl hpa)⟩, hT _ hP, fun H2 tb => ?_⟩
    have f2 := FrS.one hT hP tb
    refine Gx.all_list (K := K) (a := pa) (xs := ns.map V.int) (fun _ H3 => FrS Ps H H3) f2 (fun i H3 _ f3 => .inl (.inl ((f3.seqs hT).2 _ _ hpa))) (fun i x H3 hx f3 => ?_) (fun H3 f3 => q H3 f3)
    obtain ⟨n, en, rfl⟩ := map_get hx
    have hn := hpl n (List.mem_of_getElem? en)
    refine ⟨rfl, yes_if ?_⟩
    refine ⟨.int n, rfl, .int hues, rfl, _, _, rfl, rfl, n, 0, hues - 1, rfl, _, rfl, ?_⟩
    rw [if_pos (decide_eq_true (show 0 ≤ n ∧ n ≤ hues - 1 by omega))]
    exact f3
theorem ok_ita {f c Ph : Addr} {fd : FuncData} {Ps : List Addr} {k : Nat} (F : FunC K "is_table" "is_table" sIta f fd (.ref c)) (TB : GxR.TabB base mg c Ph) (hP : Ph ∈ Ps) (T : TxtK1 P w K mg base Ps) : FnOk P w K mg base CX0 (k + 5) f fd ["thing", "many", "hues"] (spIta Ps) := by
  refine F.ok scIta (fun vs H Q E h => ?_) (fun A outer s H vs Q E hr h => ?_)
  · obtain ⟨ta, tb, many, hues, rfl, _⟩ := h
    rfl
  · obtain ⟨ta, tb, many, hues, rfl, hT, htb, gt, q⟩ := h
    obtain ⟨das, h1, _, _, pr⟩ := id htb
    have dl := pairedLen pr
    refine ⟨_, (pss_cons (ps_if (PW.pt (pw_or (pt_not (pt_val (pe_callB call_isi (by rfl) T.m_isinstance (by decide +kernel) (pa_cons (pv 0) (pa_cons (pe_bltn (v := .ty "list") (by rfl) T.m_list (by decide +kernel) rfl) pa_nil))))) (pw_or1 (pt_cmpR op_ne (pe_callB call_len_seq (by rfl) T.m_len (by decide +kernel) (pa_cons (pv 0) pa_nil)) (pv 1) (nomark _)))))
  (pss_one (ps_ret pe_bl)) pss_nil)
  (pss_one (ps_ret (Gx.pe_allX (own := [("draws", 3)]) hr (by rfl) T.m_all rfl scIta.nd TB rfl (blkOk_by (own := [("draws", 3)]) (N := nIta) (sc := defScope sIta) (by decide +kernel)) ⟨rfl, by decide +kernel, rfl⟩ (pi_list (pv 0))
   (fun _ _ _ _ _ _ hA => (pg_name (i := 3) scIta.nd rfl (Or.inl rfl))) (fun _ _ _ _ _ _ hA => pts_nil) (fun _ _ _ _ _ _ hA => (pe_cal T.c_are_draws (hA.mono (by omega)) (by rfl) (pa_cons (pv 3) (pa_cons (pv 2) pa_nil)))))))), ?_⟩
    refine ⟨.ref ta, rfl, .ref ta, .ty "list", .type "list", .type "list", true, rfl, .ty _, .base (.lst h1), kit_ty (by decide +kernel), true, rfl, iteF ?_⟩
    have el : V.int ((das.map V.ref).length : Int) = V.int many := by rw [List.length_map, dl, gt.len]
    refine ⟨.ref ta, rfl, ta, _, rfl, .inl (.inl (.inl h1)), _, rfl, rfl, _, rfl, ?_⟩
    refine iteNS el ?_
    refine ⟨.ref ta, rfl, ta, rfl, ⟨_, .inl (.inl h1)⟩, hT _ hP, fun H2 tb2 => ?_⟩
    have f2 := FrS.one hT hP tb2
    refine Gx.all_list (K := K) (a := ta) (xs := das.map V.ref) (fun _ H3 => FrS Ps H H3) f2 (fun i H3 _ f3 => .inl (.inl ((f3.seqs hT).2 _ _ h1))) (fun i x H3 hx f3 => ?_) (fun H3 f3 => q H3 f3)
    obtain ⟨d, ed, rfl⟩ := map_get hx
    obtain ⟨ds, eds, hd⟩ := pairedGetL pr ed
    have hm := List.mem_of_getElem? eds
    refine ⟨rfl, yes_if ?_⟩
    refine ⟨.ref d, rfl, .int hues, rfl, d, ds, hues, rfl, f3.2, (f3.seqs hT).2 _ _ hd, gt.one ds hm, gt.hue ds hm, fun H4 f4 => ⟨true, rfl, ?_⟩⟩
    rw [if_pos rfl]
    exact f3.trans f4
theorem ok_inm {f c Ph : Addr} {fd : FuncData} {Ps : List Addr} {k : Nat} (F : FunC K "is_name" "is_name" sInm f fd (.ref c)) (TB : GxR.TabB base mg c Ph) (hP : Ph ∈ Ps) (T : TxtK2 mg) : FnOk P w K mg base CX0 (k + 2) f fd ["thing"] (spInm Ps) := by
  refine F.ok scInm (fun vs H Q E h => ?_) (fun A outer s H vs Q E hr h => ?_)
  · obtain ⟨n, rfl, _⟩ := h
    rfl
  · obtain ⟨n, rfl, hT, ⟨n1, n8, nl⟩, q⟩ := h
    have ez : (n.length : Int) = (n.cps.size : Int) := rfl
    refine ⟨_, (pss_cons (ps_if (PW.pt (pw_or (pt_not (pt_val (pe_callB call_isi (by rfl) T.m_isinstance (by decide +kernel) (pa_cons (pv 0) (pa_cons (pe_bltn (v := .ty "str") (by rfl) T.m_str (by decide +kernel) rfl) pa_nil))))) (pw_or1 (pt_not (pt_chain op_le op_le pe_int (pe_callB call_len_str (by rfl) T.m_len (by decide +kernel) (pa_cons (pv 0) pa_nil)) (C8.pe_gc (by rfl) T.g_MOST_LETTERS))))))
  (pss_one (ps_ret pe_bl)) pss_nil)
  (pss_one (ps_ret (Gx.pe_allX (own := [("letter", 1)]) (te := tOp (fun x y H Q => ∃ (c : Nat) (z : Str), x = .str ⟨#[c]⟩ ∧ y = .str z ∧ Q (.bl (decide (c ∈ z.cps.toList))) H) (tVar 1) (tC (.str letS))) hr (by rfl) T.m_all rfl scInm.nd TB rfl (blkOk_by (own := [("letter", 1)]) (N := nInm) (sc := defScope sInm) (by decide +kernel)) ⟨rfl, by decide +kernel, rfl⟩ (pi_str (pv 0))
   (fun _ _ _ _ _ _ hA => (pg_name (i := 1) scInm.nd rfl (Or.inl rfl))) (fun _ _ _ _ _ _ hA => pts_nil) (fun _ _ _ _ _ _ hA => (pe_cmpR op_in_sign (pv 1) (C8.pe_gc (by rfl) T.g_LETTERS) (by rfl))))))), ?_⟩
    refine ⟨.str n, rfl, .str n, .ty "str", .type "str", .type "str", true, rfl, .ty _, .base (.str n), kit_ty (by decide +kernel), true, rfl, iteF ?_⟩
    refine ⟨.str n, rfl, n, rfl, ?_, 1, _, rfl, rfl, _, rfl, ?_⟩
    · exact Nat.le_trans n8 (by decide)
    rw [ez, decide_eq_true (show (1 : Int) ≤ (n.cps.size : Int) by omega)]
    refine iteT ⟨_, 8, rfl, rfl, _, rfl, ?_⟩
    rw [decide_eq_true (show (n.cps.size : Int) ≤ 8 by omega)]
    refine iteF ?_
    refine ⟨.str n, rfl, n, rfl, hT _ hP, fun H2 tb => ?_⟩
    have f2 := FrS.one hT hP tb
    refine Gx.all_str (z := n) (fun _ H3 => FrS Ps H H3) f2 (fun i c H3 hx f3 => ?_) (fun H3 f3 => q H3 f3)
    have hc : c ∈ n.cps.toList := by
      rw [← Array.getElem?_toList] at hx
      exact List.mem_of_getElem? hx
    refine ⟨rfl, yes_if ?_⟩
    refine ⟨.str ⟨#[c]⟩, rfl, c, letS, rfl, rfl, _, rfl, ?_⟩
    rw [if_pos (decide_eq_true (let_in (nl c hc)))]
    exact f3
end
end Rd

set_option Elab.async false
set_option linter.all false
set_option maxRecDepth 100000
set_option maxHeartbeats 4000000
/-! tables and names, looked for in things of any kind -/
namespace Rd
open PySem PySem.Spec PyProof.Rows L2 Dt
def drwD (hues : Int) : PyData → Bool
  | .list l => decide (l.length ≠ 0) && l.all (numD 0 (hues - 1))
  | _ => false
def tabD (many hues : Int) : PyData → Bool
  | .list l => decide ((l.length : Int) = many) && l.all (drwD hues)
  | _ => false
def namD : PyData → Bool
  | .str z => decide (1 ≤ z.cps.size ∧ z.cps.size ≤ 8) && z.cps.toList.all fun c => decide (97 ≤ c ∧ c ≤ 122)
  | _ => false
theorem let_out {c : Nat} (h : c ∈ letS.cps.toList) : 97 ≤ c ∧ c ≤ 122 := by
  have z : ∀ x ∈ letS.cps.toList, 97 ≤ x ∧ x ≤ 122 := by decide +kernel
  exact z c h
theorem nam_ok {n : Str} (h : namD (.str n) = true) : NmOk n := by
  simp only [namD, Bool.and_eq_true, decide_eq_true_eq, List.all_eq_true] at h
  exact ⟨h.1.1, h.1.2, h.2⟩
theorem nam_of {n : Str} (h : NmOk n) : namD (.str n) = true := by
  simp only [namD, Bool.and_eq_true, decide_eq_true_eq, List.all_eq_true]
  exact ⟨⟨h.1, h.2.1⟩, h.2.2⟩
def spAdrA (Ps : List Addr) : Sp := fun vs H Q _ => ∃ (v : V) (d : PyData) (hues : Int), vs = [v, .int hues] ∧ Tabs Ps H ∧ Any H v d ∧ ∀ H', FrS Ps H H' → Q (.bl (drwD hues d)) H'
def spItaA (Ps : List Addr) : Sp := fun vs H Q _ => ∃ (v : V) (d : PyData) (many hues : Int), vs = [v, .int many, .int hues] ∧ Tabs Ps H ∧ Any H v d ∧ ∀ H', FrS Ps H H' → Q (.bl (tabD many hues d)) H'
def spInmA (Ps : List Addr) : Sp := fun vs H Q _ => ∃ (v : V) (d : PyData), vs = [v] ∧ Tabs Ps H ∧ Any H v d ∧ (∀ z, d = .str z → z.length ≤ 100000) ∧ ∀ H', FrS Ps H H' → Q (.bl (namD d)) H'
structure TxtKA0 (P : Program) (w : World) (K : PySem.W.Frag) (mg : Str → Option Value) (base : Heap) : Prop extends TxtKl mg where
  c_is_number : Cal P w K mg base 1 "is_number" ["thing", "low", "high"] spNumA
structure TxtKA1 (P : Program) (w : World) (K : PySem.W.Frag) (mg : Str → Option Value) (base : Heap) (Ps : List Addr) : Prop extends TxtKl mg where
  c_are_draws : Cal P w K mg base 3 "are_draws" ["thing", "hues"] (spAdrA Ps)
section
variable {P : Program} {w : World} {K : PySem.W.Frag} {mg : Str → Option Value} {base : Heap}
theorem ok_adrA {f c Ph : Addr} {fd : FuncData} {Ps : List Addr} {k : Nat} (F : FunC K "are_draws" "are_draws" sAdr f fd (.ref c)) (TB : GxR.TabB base mg c Ph) (hP : Ph ∈ Ps) (T : TxtKA0 P w K mg base) : FnOk P w K mg base CX0 (k + 3) f fd ["thing", "hues"] (spAdrA Ps) := by
  refine F.ok scAdr (fun vs H Q E h => ?_) (fun A outer s H vs Q E hr h => ?_)
  · obtain ⟨v, d, hues, rfl, _⟩ := h
    rfl
  · obtain ⟨v, d, hues, rfl, hT, an, q⟩ := h
    refine ⟨_, (pss_cons (ps_if (PW.pt (pw_or (pt_not (pt_val (pe_callB call_isi (by rfl) T.m_isinstance (by decide +kernel) (pa_cons (pv 0) (pa_cons (pe_bltn (v := .ty "list") (by rfl) T.m_list (by decide +kernel) rfl) pa_nil))))) (pw_or1 (pt_cmpR op_eq (pe_callB call_len_seq (by rfl) T.m_len (by decide +kernel) (pa_cons (pv 0) pa_nil)) pe_int (nomark _)))))
  (pss_one (ps_ret pe_bl)) pss_nil)
  (pss_one (ps_ret (Gx.pe_allX (own := [("hue", 2)]) hr (by rfl) T.m_all rfl scAdr.nd TB rfl (blkOk_by (own := [("hue", 2)]) (N := nAdr) (sc := defScope sAdr) (by decide +kernel)) ⟨rfl, by decide +kernel, rfl⟩ (pi_list (pv 0))
   (fun _ _ _ _ _ _ hA => (pg_name (i := 2) scAdr.nd rfl (Or.inl rfl))) (fun _ _ _ _ _ _ hA => pts_nil) (fun _ _ _ _ _ _ hA => (pe_cal T.c_is_number (hA.mono (by omega)) (by rfl) (pa_cons (pv 2) (pa_cons pe_int (pa_cons (pe_op op_sub (pv 1) pe_int) pa_nil))))))))), ?_⟩
    have q0 := q H (FrS.refl hT)
    refine ⟨v, rfl, v, .ty "list", _, .type "list", _, rfl, .ty _, an.ty, kit_ty (kit_self (.inr (.inr (.inr (.inl rfl))))), _, rfl, ?_⟩
    cases d with
    | list ds =>
      refine iteF ?_
      cases an with
      | dct l => cases l
      | @lst pa xs _ hpa _ al =>
        have xl := al.len
        refine ⟨.ref pa, rfl, pa, _, rfl, .inl (.inl (.inl hpa)), rfl, _, rfl, ?_⟩
        rw [xl]
        by_cases el : ds.length = 0
        · have e1 : drwD hues (.list ds) = false := by
            show (decide (ds.length ≠ 0) && _) = _
            rw [decide_eq_false (fun z => z el), Bool.false_and]
          rw [e1] at q0
          rw [decide_eq_true (show V.int (ds.length : Int) = V.int 0 by rw [el]; rfl)]
          exact iteT q0
        · rw [decide_eq_false (show ¬ V.int (ds.length : Int) = V.int 0 from fun z => el (by injection z with z; omega))]
          refine iteF ?_
          have e1 : drwD hues (.list ds) = ds.all (numD 0 (hues - 1)) := by
            show (decide (ds.length ≠ 0) && _) = _
            rw [decide_eq_true el, Bool.true_and]
          rw [e1] at q
          refine ⟨.ref pa, rfl, pa, rfl, ⟨_, .inl (.inl hpa)⟩, hT _ hP, fun H2 tb => ?_⟩
          have f2 := FrS.one hT hP tb
          refine Gx.all_list (K := K) (a := pa) (xs := xs) (fun i H3 => FrS Ps H H3 ∧ ∀ d ∈ ds.take i, numD 0 (hues - 1) d = true) ⟨f2, fun _ h => nomatch h⟩ (fun i H3 _ p => .inl (.inl ((p.1.seqs hT).2 _ _ hpa))) (fun i x H3 hx p => ?_) (fun H3 p => ?_)
          · obtain ⟨d, ed, ad⟩ := al.get hx
            obtain ⟨f3, hp⟩ := p
            refine ⟨rfl, yes_if ?_⟩
            refine ⟨x, rfl, .int hues, rfl, _, _, rfl, rfl, x, d, 0, hues - 1, rfl, ad.up (f3.noTb hT), _, rfl, ?_⟩
            cases hn : numD 0 (hues - 1) d with
            | true =>
              rw [if_pos rfl]
              refine ⟨f3, fun y hy => ?_⟩
              rw [take_snoc ed] at hy
              rcases List.mem_append.mp hy with h | h
              · exact hp y h
              · rw [List.mem_singleton.mp h]; exact hn
            | false =>
              rw [if_neg (fun z => nomatch z)]
              rw [all_no (List.mem_of_getElem? ed) hn] at q
              exact q H3 f3
          · obtain ⟨f3, hp⟩ := p
            rw [xl, List.take_length] at hp
            rw [List.all_eq_true.mpr hp] at q
            exact q H3 f3
    | none => exact iteT (iteT q0)
    | bool b => exact iteT (iteT q0)
    | int i => exact iteT (iteT q0)
    | str x => exact iteT (iteT q0)
    | tuple l => exact iteT (iteT q0)
    | dict l => exact iteT (iteT q0)
theorem ok_itaA {f c Ph : Addr} {fd : FuncData} {Ps : List Addr} {k : Nat} (F : FunC K "is_table" "is_table" sIta f fd (.ref c)) (TB : GxR.TabB base mg c Ph) (hP : Ph ∈ Ps) (T : TxtKA1 P w K mg base Ps) : FnOk P w K mg base CX0 (k + 5) f fd ["thing", "many", "hues"] (spItaA Ps) := by
  refine F.ok scIta (fun vs H Q E h => ?_) (fun A outer s H vs Q E hr h => ?_)
  · obtain ⟨v, d, many, hues, rfl, _⟩ := h
    rfl
  · obtain ⟨v, d, many, hues, rfl, hT, an, q⟩ := h
    refine ⟨_, (pss_cons (ps_if (PW.pt (pw_or (pt_not (pt_val (pe_callB call_isi (by rfl) T.m_isinstance (by decide +kernel) (pa_cons (pv 0) (pa_cons (pe_bltn (v := .ty "list") (by rfl) T.m_list (by decide +kernel) rfl) pa_nil))))) (pw_or1 (pt_cmpR op_ne (pe_callB call_len_seq (by rfl) T.m_len (by decide +kernel) (pa_cons (pv 0) pa_nil)) (pv 1) (nomark _)))))
  (pss_one (ps_ret pe_bl)) pss_nil)
  (pss_one (ps_ret (Gx.pe_allX (own := [("draws", 3)]) hr (by rfl) T.m_all rfl scIta.nd TB rfl (blkOk_by (own := [("draws", 3)]) (N := nIta) (sc := defScope sIta) (by decide +kernel)) ⟨rfl, by decide +kernel, rfl⟩ (pi_list (pv 0))
   (fun _ _ _ _ _ _ hA => (pg_name (i := 3) scIta.nd rfl (Or.inl rfl))) (fun _ _ _ _ _ _ hA => pts_nil) (fun _ _ _ _ _ _ hA => (pe_cal T.c_are_draws (hA.mono (by omega)) (by rfl) (pa_cons (pv 3) (pa_cons (pv 2) pa_nil)))))))), ?_⟩
    have q0 := q H (FrS.refl hT)
    refine ⟨v, rfl, v, .ty "list", _, .type "list", _, rfl, .ty _, an.ty, kit_ty (kit_self (.inr (.inr (.inr (.inl rfl))))), _, rfl, ?_⟩
    cases d with
    | list ds =>
      refine iteF ?_
      cases an with
      | dct l => cases l
      | @lst pa xs _ hpa _ al =>
        have xl := al.len
        refine ⟨.ref pa, rfl, pa, _, rfl, .inl (.inl (.inl hpa)), _, rfl, rfl, _, rfl, ?_⟩
        rw [xl]
        by_cases el : (ds.length : Int) = many
        · refine iteNS (by rw [el]) ?_
          have e1 : tabD many hues (.list ds) = ds.all (drwD hues) := by
            show (decide ((ds.length : Int) = many) && _) = _
            rw [decide_eq_true el, Bool.true_and]
          rw [e1] at q
          refine ⟨.ref pa, rfl, pa, rfl, ⟨_, .inl (.inl hpa)⟩, hT _ hP, fun H2 tb => ?_⟩
          have f2 := FrS.one hT hP tb
          refine Gx.all_list (K := K) (a := pa) (xs := xs) (fun i H3 => FrS Ps H H3 ∧ ∀ d ∈ ds.take i, drwD hues d = true) ⟨f2, fun _ h => nomatch h⟩ (fun i H3 _ p => .inl (.inl ((p.1.seqs hT).2 _ _ hpa))) (fun i x H3 hx p => ?_) (fun H3 p => ?_)
          · obtain ⟨d, ed, ad⟩ := al.get hx
            obtain ⟨f3, hp⟩ := p
            refine ⟨rfl, yes_if ?_⟩
            refine ⟨x, rfl, .int hues, rfl, x, d, hues, rfl, f3.2, ad.up (f3.noTb hT), fun H4 f4 => ⟨_, rfl, ?_⟩⟩
            cases hn : drwD hues d with
            | true =>
              rw [if_pos rfl]
              refine ⟨f3.trans f4, fun y hy => ?_⟩
              rw [take_snoc ed] at hy
              rcases List.mem_append.mp hy with h | h
              · exact hp y h
              · rw [List.mem_singleton.mp h]; exact hn
            | false =>
              rw [if_neg (fun z => nomatch z)]
              rw [all_no (List.mem_of_getElem? ed) hn] at q
              exact q H4 (f3.trans f4)
          · obtain ⟨f3, hp⟩ := p
            rw [xl, List.take_length] at hp
            rw [List.all_eq_true.mpr hp] at q
            exact q H3 f3
        · have e1 : tabD many hues (.list ds) = false := by
            show (decide ((ds.length : Int) = many) && _) = _
            rw [decide_eq_false el, Bool.false_and]
          rw [e1] at q0
          have e2 : (!decide (V.int (ds.length : Int) = V.int many)) = true := by
            rw [decide_eq_false (fun z => el (by injection z))]
            rfl
          rw [e2]
          exact iteT q0
    | none => exact iteT (iteT q0)
    | bool b => exact iteT (iteT q0)
    | int i => exact iteT (iteT q0)
    | str x => exact iteT (iteT q0)
    | tuple l => exact iteT (iteT q0)
    | dict l => exact iteT (iteT q0)
theorem ok_inmA {f c Ph : Addr} {fd : FuncData} {Ps : List Addr} {k : Nat} (F : FunC K "is_name" "is_name" sInm f fd (.ref c)) (TB : GxR.TabB base mg c Ph) (hP : Ph ∈ Ps) (T : TxtK2 mg) : FnOk P w K mg base CX0 (k + 2) f fd ["thing"] (spInmA Ps) := by
  refine F.ok scInm (fun vs H Q E h => ?_) (fun A outer s H vs Q E hr h => ?_)
  · obtain ⟨v, d, rfl, _⟩ := h
    rfl
  · obtain ⟨v, d, rfl, hT, an, sh, q⟩ := h
    refine ⟨_, (pss_cons (ps_if (PW.pt (pw_or (pt_not (pt_val (pe_callB call_isi (by rfl) T.m_isinstance (by decide +kernel) (pa_cons (pv 0) (pa_cons (pe_bltn (v := .ty "str") (by rfl) T.m_str (by decide +kernel) rfl) pa_nil))))) (pw_or1 (pt_not (pt_chain op_le op_le pe_int (pe_callB call_len_str (by rfl) T.m_len (by decide +kernel) (pa_cons (pv 0) pa_nil)) (C8.pe_gc (by rfl) T.g_MOST_LETTERS))))))
  (pss_one (ps_ret pe_bl)) pss_nil)
  (pss_one (ps_ret (Gx.pe_allX (own := [("letter", 1)]) (te := tOp (fun x y H Q => ∃ (c : Nat) (z : Str), x = .str ⟨#[c]⟩ ∧ y = .str z ∧ Q (.bl (decide (c ∈ z.cps.toList))) H) (tVar 1) (tC (.str letS))) hr (by rfl) T.m_all rfl scInm.nd TB rfl (blkOk_by (own := [("letter", 1)]) (N := nInm) (sc := defScope sInm) (by decide +kernel)) ⟨rfl, by decide +kernel, rfl⟩ (pi_str (pv 0))
   (fun _ _ _ _ _ _ hA => (pg_name (i := 1) scInm.nd rfl (Or.inl rfl))) (fun _ _ _ _ _ _ hA => pts_nil) (fun _ _ _ _ _ _ hA => (pe_cmpR op_in_sign (pv 1) (C8.pe_gc (by rfl) T.g_LETTERS) (by rfl))))))), ?_⟩
    have q0 := q H (FrS.refl hT)
    refine ⟨v, rfl, v, .ty "str", _, .type "str", _, rfl, .ty _, an.ty, kit_ty (kit_self (.inr (.inr (.inr (.inr rfl))))), _, rfl, ?_⟩
    cases d with
    | str n =>
      refine iteF ?_
      cases an with
      | dct l => cases l
      | str =>
        have ez : (n.length : Int) = (n.cps.size : Int) := rfl
        have zl : n.cps.size ≤ 100000 := sh n rfl
        refine ⟨.str n, rfl, n, rfl, ?_, 1, _, rfl, rfl, _, rfl, ?_⟩
        · exact Nat.le_trans zl (by decide)
        rw [ez]
        by_cases l1 : 1 ≤ n.cps.size
        · rw [decide_eq_true (show (1 : Int) ≤ (n.cps.size : Int) by omega)]
          refine iteT ⟨_, 8, rfl, rfl, _, rfl, ?_⟩
          by_cases l8 : n.cps.size ≤ 8
          · rw [decide_eq_true (show (n.cps.size : Int) ≤ 8 by omega)]
            refine iteF ?_
            have e1 : namD (.str n) = n.cps.toList.all fun c => decide (97 ≤ c ∧ c ≤ 122) := by
              show (decide (1 ≤ n.cps.size ∧ n.cps.size ≤ 8) && _) = _
              rw [decide_eq_true ⟨l1, l8⟩, Bool.true_and]
            rw [e1] at q
            refine ⟨.str n, rfl, n, rfl, hT _ hP, fun H2 tb => ?_⟩
            have f2 := FrS.one hT hP tb
            refine Gx.all_str (z := n) (fun i H3 => FrS Ps H H3 ∧ ∀ c ∈ n.cps.toList.take i, 97 ≤ c ∧ c ≤ 122) ⟨f2, fun _ h => nomatch h⟩ (fun i c H3 hx p => ?_) (fun H3 p => ?_)
            · obtain ⟨f3, hp⟩ := p
              rw [← Array.getElem?_toList] at hx
              refine ⟨rfl, yes_if ?_⟩
              refine ⟨.str ⟨#[c]⟩, rfl, c, letS, rfl, rfl, _, rfl, ?_⟩
              by_cases hc : 97 ≤ c ∧ c ≤ 122
              · rw [if_pos (decide_eq_true (let_in hc))]
                refine ⟨f3, fun y hy => ?_⟩
                rw [take_snoc hx] at hy
                rcases List.mem_append.mp hy with h | h
                · exact hp y h
                · rw [List.mem_singleton.mp h]; exact hc
              · rw [if_neg (by rw [decide_eq_true_eq]; exact fun z => hc (let_out z))]
                rw [all_no (List.mem_of_getElem? hx) (decide_eq_false hc)] at q
                exact q H3 f3
            · obtain ⟨f3, hp⟩ := p
              have e9 : n.cps.toList.take n.cps.size = n.cps.toList := List.take_of_length_le (by rw [Array.length_toList]; exact Nat.le_refl _)
              rw [List.all_eq_true.mpr fun c hc => decide_eq_true (hp c (by rw [e9]; exact hc))] at q
              exact q H3 f3
          · rw [decide_eq_false (show ¬ (n.cps.size : Int) ≤ 8 by omega)]
            have e1 : namD (.str n) = false := by
              show (decide (1 ≤ n.cps.size ∧ n.cps.size ≤ 8) && _) = _
              rw [decide_eq_false (fun z => l8 z.2), Bool.false_and]
            rw [e1] at q0
            exact iteT q0
        · rw [decide_eq_false (show ¬ (1 : Int) ≤ (n.cps.size : Int) by omega)]
          have e1 : namD (.str n) = false := by
            show (decide (1 ≤ n.cps.size ∧ n.cps.size ≤ 8) && _) = _
            rw [decide_eq_false (fun z => l1 z.1), Bool.false_and]
          rw [e1] at q0
          exact iteF ⟨_, rfl, iteT q0⟩
    | none => exact iteT (iteT q0)
    | bool b => exact iteT (iteT q0)
    | int i => exact iteT (iteT q0)
    | list l => exact iteT (iteT q0)
    | tuple l => exact iteT (iteT q0)
    | dict l => exact iteT (iteT q0)
end
end Rd

set_option Elab.async false
set_option linter.all false
set_option maxRecDepth 100000
set_option maxHeartbeats 4000000
namespace Rd
open PySem PySem.Spec PyProof.Rows L2 Dt
abbrev sKfi : Stmt := inClass (topS 42) 4
abbrev nKfi : List Str := ["self"]
theorem scKfi : FnScope nKfi ["self"] (defScope sKfi) := ⟨rfl, rfl, rfl, by decide +kernel, rfl, by decide +kernel, by decide +kernel⟩
abbrev sKna : Stmt := inClass (topS 42) 5
abbrev nKna : List Str := ["self"]
theorem scKna : FnScope nKna ["self"] (defScope sKna) := ⟨rfl, rfl, rfl, by decide +kernel, rfl, by decide +kernel, by decide +kernel⟩
abbrev sKta : Stmt := inClass (topS 42) 6
abbrev nKta : List Str := ["self"]
theorem scKta : FnScope nKta ["self"] (defScope sKta) := ⟨rfl, rfl, rfl, by decide +kernel, rfl, by decide +kernel, by decide +kernel⟩
abbrev sKmn : Stmt := inClass (topS 42) 2
abbrev nKmn : List Str := ["self", "wishes", "names", "riddle", "left", "end", "filling", "log", "name", "draws", "beyond", "number", "row"]
theorem scKmn : FnScope nKmn ["self", "wishes"] (defScope sKmn) := ⟨rfl, rfl, rfl, by decide +kernel, rfl, by decide +kernel, by decide +kernel⟩
/-- the class -/
structure KpCls (K : PySem.W.Frag) (C : Addr) : Prop where
  cl : Cls K C
  n_many : NoAttr K C "many"
  n_hues : NoAttr K C "hues"
  n_table : NoAttr K C "table"
  n_beyond : NoAttr K C "beyond"
  n_wishes : NoAttr K C "wishes"
def spKfi (C : Addr) (Ps : List Addr) : Sp := fun vs H Q _ => ∃ (Av : Addr → Prop) (kp ba wa : Addr) (many hues : Int) (tb : List (List Int)) (bd : List Int) (ws : Ws), vs = [.ref kp] ∧ KpAt C Av H kp ba wa many hues tb bd ws ∧ Tabs Ps H ∧
  ∀ H' t, FrS Ps H H' → H t = none → H' t = some (.tup ((stand tb bd).map V.int)) → Q (.ref t) H'
def spKna (C : Addr) : Sp := fun vs H Q _ => ∃ (Av : Addr → Prop) (kp ba wa : Addr) (many hues : Int) (tb : List (List Int)) (bd : List Int) (ws : Ws), vs = [.ref kp] ∧ KpAt C Av H kp ba wa many hues tb bd ws ∧
  ∀ ord H' l, ord.Perm (nmsOf ws) → sortedS ord = true → Same H H' → H l = none → H' l = some (.lst (ord.map V.str)) → Q (.ref l) H'
def spKta (C : Addr) : Sp := fun vs H Q _ => ∃ (Av : Addr → Prop) (kp ba wa : Addr) (many hues : Int) (tb : List (List Int)) (bd : List Int) (ws : Ws), vs = [.ref kp] ∧ KpAt C Av H kp ba wa many hues tb bd ws ∧
  ∀ H' l, Same H H' → H l = none → H' l = some (.lst (bd.map V.int)) → Q (.ref l) H'
def logN (ord : List Str) (log : Log) : List Str := log.map fun e => ord.getD e.1.toNat ""
def spKmn (C : Addr) (Ps : List Addr) (D : Addr) : Sp := fun vs H Q E => ∃ (Av : Addr → Prop) (kp ba wa wb : Addr) (many hues : Int) (tb : List (List Int)) (bd : List Int) (ws ws2 : Ws), vs = [.ref kp, .ref wb] ∧ KpAt C Av H kp ba wa many hues tb bd ws ∧ Tabs Ps H ∧ IsWs H wb ws2 ∧ GoodWs many hues ws2 ∧
  ∀ ord, ord.Perm (nmsOf ws2) → sortedS ord = true → ∀ R, runOf (wsAt ws2 ord) (dropT tb bd) (rngI (ord.length : Int)) = some R → LogOk (wsAt ws2 ord) R.2.2 → R.2.2.length ≤ 6000 → ∀ H', FrS Ps H H' →
    (R.1 = false → E (.ref D) none H') ∧ (R.1 = true → ∀ l, H l = none → H' l = some (.lst ((logN ord R.2.2).map V.str)) → Q (.ref l) H')
structure TxtKf (P : Program) (w : World) (K : PySem.W.Frag) (mg : Str → Option Value) (base : Heap) (Ps : List Addr) (C : Addr) : Prop extends KpCls K C where
  m_sorted : mg "sorted" = none
  m_list : mg "list" = none
  c_standing : Cal P w K mg base 3 "standing" ["table", "taken"] (spSta Ps)
structure TxtKm (P : Program) (w : World) (K : PySem.W.Frag) (mg : Str → Option Value) (base : Heap) (Ps : List Addr) (C D : Addr) : Prop extends KpCls K C, Cls1 K D where
  m_sorted : mg "sorted" = none
  m_tuple : mg "tuple" = none
  m_range : mg "range" = none
  m_len : mg "len" = none
  m_zip : mg "zip" = none
  g_Spent : mg "Spent" = some (.ref D)
  c_run : Cal P w K mg base 6 "run" ["riddle", "table", "order"] (spRun Ps)
section
variable {P : Program} {w : World} {K : PySem.W.Frag} {mg : Str → Option Value} {base : Heap}
theorem ok_kfi {f C : Addr} {Ps : List Addr} {fd : FuncData} {k : Nat} (F : Fun K "filling" "Keeper.filling" sKfi f fd) (T : TxtKf P w K mg base Ps C) : FnOk P w K mg base CX0 (k + 4) f fd ["self"] (spKfi C Ps) := by
  refine F.ok scKfi (fun vs H Q E h => ?_) (fun cdv A outer s H vs Q E hr h => ?_)
  · obtain ⟨Av, kp, ba, wa, many, hues, tb, bd, ws, rfl, _⟩ := h
    rfl
  · obtain ⟨Av, kp, ba, wa, many, hues, tb, bd, ws, rfl, hk, hT, q⟩ := h
    refine ⟨_, (pss_one (ps_ret (pe_cal T.c_standing (hr.mono (by omega)) (by rfl) (pa_cons (pe_fld (pv 0) rfl) (pa_cons (pe_fld (pv 0) rfl) pa_nil))))), ?_⟩
    obtain ⟨dx, ta, hins, htab⟩ := hk.ins
    refine ⟨.ref kp, rfl, kp, C, dx, _, _, rfl, hins, T.cl, T.n_table, kfs_table, .ref kp, rfl, kp, C, dx, _, _, rfl, hins, T.cl, T.n_beyond, kfs_beyond, ?_⟩
    have tl := hk.gt.len
    have m6 := hk.m6
    exact ⟨ta, ba, tb, bd, rfl, htab.none, hk.bds, hk.gk, by omega, hT, q⟩
theorem ok_kna {f C : Addr} {Ps : List Addr} {fd : FuncData} {k : Nat} (F : Fun K "names" "Keeper.names" sKna f fd) (T : TxtKf P w K mg base Ps C) : FnOk P w K mg base CX0 (k + 1) f fd ["self"] (spKna C) := by
  refine F.ok scKna (fun vs H Q E h => ?_) (fun cdv A outer s H vs Q E hr h => ?_)
  · obtain ⟨Av, kp, ba, wa, many, hues, tb, bd, ws, rfl, _⟩ := h
    rfl
  · obtain ⟨Av, kp, ba, wa, many, hues, tb, bd, ws, rfl, hk, q⟩ := h
    refine ⟨_, (pss_one (ps_ret (pe_callB (call_sortedD rfl) (by rfl) T.m_sorted (by decide +kernel) (pa_cons (pe_fld (pv 0) rfl) pa_nil)))), ?_⟩
    obtain ⟨dx, ta, hins, htab⟩ := hk.ins
    obtain ⟨es, hd, pe⟩ := hk.wss
    refine ⟨.ref kp, rfl, kp, C, dx, _, _, rfl, hins, T.cl, T.n_wishes, kfs_wishes, ?_⟩
    refine ⟨wa, _, nmsOf ws, rfl, .inl hd, by rw [kE_keys, nw_names pe], ?_, fun ord l p so nl => q ord _ l p so (same_upd nl) nl upd_same⟩
    have e8 := hk.gw.eight
    unfold nmsOf
    rw [List.length_map]
    omega
theorem ok_kta {f C : Addr} {Ps : List Addr} {fd : FuncData} {k : Nat} (F : Fun K "taken" "Keeper.taken" sKta f fd) (T : TxtKf P w K mg base Ps C) : FnOk P w K mg base CX0 (k + 1) f fd ["self"] (spKta C) := by
  refine F.ok scKta (fun vs H Q E h => ?_) (fun cdv A outer s H vs Q E hr h => ?_)
  · obtain ⟨Av, kp, ba, wa, many, hues, tb, bd, ws, rfl, _⟩ := h
    rfl
  · obtain ⟨Av, kp, ba, wa, many, hues, tb, bd, ws, rfl, hk, q⟩ := h
    refine ⟨_, (pss_one (ps_ret (pe_callTy call_list_of (by rfl) T.m_list (by decide +kernel) (pa_cons (pe_fld (pv 0) rfl) pa_nil)))), ?_⟩
    obtain ⟨dx, ta, hins, htab⟩ := hk.ins
    refine ⟨.ref kp, rfl, kp, C, dx, _, _, rfl, hins, T.cl, T.n_beyond, kfs_beyond, ?_⟩
    exact ⟨ba, _, rfl, .inl (.inl (.inl hk.bds)), fun l nl => q _ l (same_upd nl) nl upd_same⟩
set_option maxHeartbeats 16000000 in
theorem ok_kmn {f c Pm C D : Addr} {Ps : List Addr} {fd : FuncData} {k : Nat} (F : FunC K "mended_names" "Keeper.mended_names" sKmn f fd (.ref c)) (TB : GxR.TabB base mg c Pm) (hP : Pm ∈ Ps) (T : TxtKm P w K mg base Ps C D) : FnOk P w K mg base (L2.CX P w) (k + 7) f fd ["self", "wishes"] (spKmn C Ps D) := by
  refine F.okX scKmn (fun vs H Q E h => ?_) (fun A outer s H vs Q E hr h => ?_)
  · obtain ⟨Av, kp, ba, wa, wb, many, hues, tb, bd, ws, ws2, rfl, _⟩ := h
    rfl
  · obtain ⟨Av, kp, ba, wa, wb, many, hues, tb, bd, ws, ws2, rfl, hk, hT, hw, gw, q⟩ := h
    refine ⟨_, (pss_cons (ps_set (i := 2) scKmn.nd rfl (Or.inr rfl) (pe_callB (call_sortedD rfl) (by rfl) T.m_sorted (by decide +kernel) (pa_cons (pv 1) pa_nil)))
  (pss_cons (ps_set (i := 3) scKmn.nd rfl (Or.inl rfl) (pe_tup (pa_cons (pe_fld (pv 0) rfl) (pa_cons (pe_fld (pv 0) rfl) (pa_cons (Gx.pe_tupX (own := [("name", 8)]) (te := tDGet (tVar 1) (tVar 8)) hr (by rfl) T.m_tuple rfl scKmn.nd TB rfl (blkOk_by (own := [("name", 8)]) (N := nKmn) (sc := defScope sKmn) (by decide +kernel)) ⟨rfl, by decide +kernel, rfl⟩ (pi_list (pv 2))
   (fun _ _ _ _ _ _ hA => (pg_name (i := 8) scKmn.nd rfl (Or.inl rfl))) (fun _ _ _ _ _ _ hA => pts_nil) (fun _ _ _ _ _ _ hA => (pe_dget (hu_of hA) (pv 1) (pv 8) (fun _ _ => rfl)))) pa_nil)))))
  (pss_cons (ps_setLc (i := 4) (g := gTup K 2 (gCons (gName 9) (gCons (gName 10) gNil))) (te := tSl (rSlL K) (tVar 9) (tPart (tVar 10)) tNoPart) (own := [("draws", 9), ("beyond", 10)]) rfl scKmn.nd rfl rfl (sw_true rfl rfl rfl (by decide +kernel)) (pi_zip (by rfl) T.m_zip (pa_cons (pe_fld (pv 0) rfl) (pa_cons (pe_fld (pv 0) rfl) pa_nil))) (blkOk_by (own := [("draws", 9), ("beyond", 10)]) (N := nKmn) (sc := defScope sKmn) (by decide +kernel))
   (fun _ _ _ _ _ => (pg_tup rfl (pgs_cons (pg_name (i := 9) scKmn.nd rfl (Or.inl rfl)) (pgs_cons (pg_name (i := 10) scKmn.nd rfl (Or.inl rfl)) pgs_nil)))) (fun _ _ _ _ _ => pts_nil) (fun _ _ _ _ _ => (pe_slice sl_list (pv 9) (po_some (pv 10)) po_none)))
  (pss_cons (ps_asg (pe_cal T.c_run (hr.mono (by omega)) (by rfl) (pa_cons (pv 3) (pa_cons (pv 4) (pa_cons (pe_tupRg rfl (by rfl) T.m_tuple (prg_1 (by rfl) T.m_range (pe_callB call_len_seq (by rfl) T.m_len (by decide +kernel) (pa_cons (pv 2) pa_nil)))) pa_nil)))) (pg_tup rfl (pgs_cons (pg_name (i := 5) scKmn.nd rfl (Or.inl rfl)) (pgs_cons (pg_name (i := 6) scKmn.nd rfl (Or.inl rfl)) (pgs_cons (pg_name (i := 7) scKmn.nd rfl (Or.inl rfl)) pgs_nil)))))
  (pss_cons (ps_if (pt_cmpR op_eq (pv 5) pe_str (nomark _))
  (pss_one (ps_raise rfl (takes_of rfl rfl rfl rfl) (pmk_own PySem.F.excBase_ValueError T.x T.g_Spent T.k (raises_own T.b T.t) (by rfl)))) pss_nil)
  (pss_one (ps_ret (pe_lc (g := gTup K 2 (gCons (gName 11) (gCons (gName 12) gNil))) (te := tOp (rIxL K) (tVar 2) (tVar 11)) (own := [("number", 11), ("row", 12)]) rfl scKmn.nd  (pi_list (pv 7)) (blkOk_by (own := [("number", 11), ("row", 12)]) (N := nKmn) (sc := defScope sKmn) (by decide +kernel))
   (fun _ _ _ _ _ => (pg_tup rfl (pgs_cons (pg_name (i := 11) scKmn.nd rfl (Or.inl rfl)) (pgs_cons (pg_name (i := 12) scKmn.nd rfl (Or.inl rfl)) pgs_nil)))) (fun _ _ _ _ _ => pts_nil) (fun _ _ _ _ _ => (pe_ix ix_list (pv 2) (pv 11) (fun _ _ => rfl))))))))))), ?_⟩
    obtain ⟨dx, ta, hins, htab⟩ := hk.ins
    obtain ⟨es, hd, pe⟩ := id hw
    have e8 := gw.eight
    -- names
    refine ⟨.ref wb, rfl, wb, _, nmsOf ws2, rfl, .inl hd, by rw [kE_keys, nw_names pe], by unfold nmsOf; rw [List.length_map]; omega, fun ord nl perm so nnl => ?_⟩
    have s1 := same_upd (o := .lst (ord.map V.str)) nnl
    have hn1 : upd H nl (.lst (ord.map V.str)) nl = some (.lst (ord.map V.str)) := upd_same
    generalize upd H nl (.lst (ord.map V.str)) = H1 at s1 hn1
    have F1 := FrS.of hT s1
    have ol := wsp_len perm
    -- riddle
    refine ⟨.ref kp, rfl, kp, C, dx, _, _, rfl, s1 _ _ hins, T.cl, T.n_many, kfs_many, .ref kp, rfl, kp, C, dx, _, _, rfl, s1 _ _ hins, T.cl, T.n_hues, kfs_hues, ?_⟩
    refine ⟨.ref nl, rfl, nl, rfl, ⟨_, .inl (.inl hn1)⟩, F1.2 _ hP, fun H2 tb2 => ?_⟩
    have F2 := F1.trans (FrS.one F1.2 hP tb2)
    have nP : ∀ {H'}, FrS Ps H H' → ∀ {b : Addr} {o : HO}, H b = some o → (∀ ps, o ≠ .tbl ps) → H' b = some o := fun {H'} fr {b o} e n => fr.1 b o (fun z => by
      obtain ⟨ps, y, _⟩ := hT b z
      rw [e] at y
      exact n ps (Option.some.inj y)) e
    have nlP : nl ∉ Ps := hT.new nnl
    refine Gx.tup_lst (K := K) (a := nl) (xs := ord.map V.str) (by rw [List.length_map, ol]; exact Nat.le_of_lt (small1000 (by omega))) (fun i ys H3 => FrS Ps H H3 ∧ H3 nl = some (.lst (ord.map V.str)) ∧ ∃ as : List Addr, ys = as.map V.ref ∧ Paired (IsWish H3) as ((wsAt ws2 ord).take i)) ⟨F2, (FrS.one F1.2 hP tb2).1 nl _ nlP hn1, [], rfl, .nil⟩ (fun i ys H3 _ p => .inl (.inl p.2.1)) (fun i ys H3 p => ?_) (fun i x ys H3 hx p => ?_) (fun ys H3 p => ?_)
    · obtain ⟨f3, _, as, rfl, pa⟩ := p
      rw [List.length_map, pairedLen pa, List.length_take]
      omega
    · obtain ⟨n, en, rfl⟩ := map_get hx
      obtain ⟨f3, hn3, as, rfl, pa⟩ := p
      obtain ⟨a, a1, a2, _⟩ := nw_at pe (perm.mem_iff.mp (List.mem_of_getElem? en))
      refine ⟨rfl, yes_if ?_⟩
      have hd3 := nP f3 hd (fun _ z => nomatch z)
      refine ⟨.ref wb, rfl, .str n, rfl, wb, .ref a, rfl, .inl ⟨kE es, Sum.inr n, .inl hd3, rfl, a1.symm⟩, ?_⟩
      refine ⟨f3, hn3, as ++ [a], by rw [List.map_append]; rfl, ?_⟩
      have ew : (wsAt ws2 ord)[i]? = some (wOf ws2 n) := by
        unfold wsAt
        rw [List.getElem?_map, en]
        rfl
      rw [take_snoc ew]
      exact pairedSnoc pa (a2.mono (f3.tups hT))
    obtain ⟨f3, hn3, as, rfl, pa⟩ := p
    rw [List.length_map, ← wsAt_len ws2 ord, List.take_length] at pa
    intro wt nwt
    have s4 := same_upd (o := .tup (as.map V.ref)) nwt
    have hwt : upd H3 wt (.tup (as.map V.ref)) wt = some (.tup (as.map V.ref)) := upd_same
    have F4 := f3.same s4
    have hn4 := s4 _ _ hn3
    have pa4 := pairedMap (fun _ _ e => IsWish.mono (tups_same s4) e) pa
    generalize upd H3 wt (.tup (as.map V.ref)) = H4 at s4 hwt F4 hn4 pa4
    refine ⟨(by show 3 ≤ sizeLine; decide), fun ri nri => ?_⟩
    have s5 := same_upd (o := .tup [.int many, .int hues, .ref wt]) nri
    have rid : IsRid (upd H4 ri (.tup [.int many, .int hues, .ref wt])) ri many hues (wsAt ws2 ord) := ⟨wt, as, upd_same, s5 _ _ hwt, pairedMap (fun _ _ e => IsWish.mono (tups_same s5) e) pa4⟩
    have F5 := F4.same s5
    have hn5 := s5 _ _ hn4
    clear pa pa4 hwt
    generalize upd H4 ri (.tup [.int many, .int hues, .ref wt]) = H5 at s5 rid F5 hn5
    -- left
    have hi5 := nP F5 hins (fun _ z => nomatch z)
    have tab5 := htab.seqs (F5.seqs hT)
    have bd5 := (F5.seqs hT).2 _ _ hk.bds
    obtain ⟨das, u1, _, _, u4⟩ := id tab5
    have dl := pairedLen u4
    have gkl := hk.gk.len
    have tl := hk.gt.len
    have m6 := hk.m6
    refine ⟨.ref kp, rfl, kp, C, dx, _, _, rfl, hi5, T.cl, T.n_table, kfs_table, .ref kp, rfl, kp, C, dx, _, _, rfl, hi5, T.cl, T.n_beyond, kfs_beyond, ?_⟩
    refine ⟨ta, ba, das.map V.ref, bd.map V.int, rfl, .inl (.inl u1), .inl (.inl bd5), fun le nle => ?_⟩
    refine lc_zipL (K := K) (a := ta) (b := ba) (xs := das.map V.ref) (ys := bd.map V.int) (by rw [List.length_map, List.length_map]; omega) (fun i H6 => Same H5 H6 ∧ ∃ ls : List Addr, H6 le = some (.lst (ls.map V.ref)) ∧ Paired (IsInts H6) ls ((dropT tb bd).take i) ∧ ∀ d ∈ ls, d ≠ le) ⟨same_upd nle, [], upd_same, .nil, (fun _ h => nomatch h)⟩ (fun i H6 p => ⟨.inl (.inl (p.1 _ _ u1)), .inl (.inl (p.1 _ _ bd5))⟩) (fun i x y Tt H6 hx hy p nT => ?_) (fun H6 p => ?_)
    · obtain ⟨d, ed, rfl⟩ := map_get hx
      obtain ⟨n, en2, rfl⟩ := map_get hy
      obtain ⟨ds, eds, hds⟩ := pairedGetL u4 ed
      obtain ⟨s6, ls, hD, pl, nls⟩ := p
      have ll := pairedLen pl
      have il : i < tb.length := (List.getElem?_eq_some_iff.mp eds).1
      have av := hk.gk.at_ i il
      rw [getD_of en2] at av
      have sT := same_upd (o := .tup [.ref d, .int n]) nT
      have s7 := s6.trans sT
      refine ⟨Tt, _, rfl, .inl (.inl upd_same), rfl, .ref d, [.int n], rfl, .int n, [], rfl, rfl, rfl, yes_if ?_⟩
      refine ⟨.ref d, rfl, .int n, rfl, n, rfl, ?_⟩
      dsimp only [tNoPart]
      refine ⟨d, _, rfl, .inl (.inl (s7 _ _ hds)), fun cl ncl => ?_⟩
      have ecl : cutV (ds.map V.int) (some n) none = (ds.drop n.toNat).map V.int := by
        have z := cut_from V.int ds n.toNat
        have e1 : ((n.toNat : Nat) : Int) = n := by omega
        rw [e1] at z
        exact z
      rw [ecl]
      have scl := same_upd (o := .lst ((ds.drop n.toNat).map V.int)) ncl
      have hD8 := (sT.trans scl) _ _ hD
      have ncD : cl ≠ le := (ne_of_none (sT _ _ hD) ncl).symm
      have edt : (dropT tb bd)[i]? = some (ds.drop n.toNat) := by
        unfold dropT
        rw [List.getElem?_zipWith, eds, en2]
      refine ⟨_, hD8, ?_, fun b o e => ?_, ls ++ [cl], ?_, ?_, fun z hz => ?_⟩
      · rw [List.length_map, ll, List.length_take]
        exact small1000 (by omega)
      · rw [upd_ne (ne_of_none e nle)]
        exact (s7.trans scl) b o e
      · rw [upd_same, List.map_append]
        rfl
      · rw [take_snoc edt]
        refine pairedSnoc (paired_upd (pairedMap (fun _ _ e => (sT.trans scl) _ _ e) pl) nls) ?_
        show upd _ le _ cl = _
        rw [upd_ne ncD]
        exact upd_same
      · rcases List.mem_append.mp hz with y | y
        · exact nls z y
        · rw [List.mem_singleton.mp y]; exact ncD
    obtain ⟨s6, ls, hle, pl, nls⟩ := p
    rw [List.length_map, dl, ← dropT_len hk.gk, List.take_length] at pl
    have F6 := F5.same s6
    have tab6 : IsTab (fun _ => False) H6 le (dropT tb bd) := ⟨ls, hle, (fun z => z), (fun _ _ z => z), pl⟩
    have hn6 := s6 _ _ hn5
    have rid6 := rid.mono (tups_same s6)
    have gd := dropT_good hk.gt hk.gk
    have gr := gw.rid perm hk.m1 hk.m6 hk.h2 hk.h4
    have nd : ∀ wd ∈ wsAt ws2 ord, wd.1.Nodup := fun wd h => (gw.wish perm wd h).2.nd
    have go : GoodO (wsAt ws2 ord).length (rngI (ord.length : Int)) := by
      rw [wsAt_len]
      exact goodO_rng
    obtain ⟨R, hR, gfR, okR, lR⟩ := runOf_some gr nd gd go
    -- run
    refine ⟨.ref ri, rfl, .ref le, rfl, .ref nl, rfl, nl, _, rfl, .inl (.inl (.inl hn6)), _, rfl, ?_⟩
    rw [List.length_map]
    refine ⟨⟨by omega, by omega, by omega, by omega, by omega⟩, fun oa noa => ?_⟩
    have s7 := same_upd (o := .tup (rgV 0 (ord.length : Nat))) noa
    have hoa : upd H6 oa (.tup (rgV 0 (ord.length : Nat))) oa = some (.tup ((rngI (ord.length : Nat)).map V.int)) := by rw [upd_same, rgV_eq]
    have F7 := F6.same s7
    have hn7 := s7 _ _ hn6
    have tab7 := tab6.seqs (seqs_same s7)
    have rid7 := rid6.mono (tups_same s7)
    generalize upd H6 oa (.tup (rgV 0 (ord.length : Nat))) = H7 at s7 hoa F7 hn7 tab7 rid7
    refine ⟨ri, le, oa, many, hues, wsAt ws2 ord, dropT tb bd, rngI (ord.length : Int), rfl, ⟨rid7, gr, nd, tab7, gd, hoa, go⟩, F7.2, fun H8 t R' f8 nt hR' res => ?_⟩
    rw [hR] at hR'
    cases hR'
    obtain ⟨fa, la, ht, hfa, hlog, nla⟩ := res
    have F8 := F7.trans f8
    obtain ⟨es8, hla, pl8⟩ := id hlog
    have el8 := pairedLen pl8
    refine ⟨t, _, rfl, .inl (.inl ht), rfl, .str (endS R.1), [.ref fa, .ref la], rfl, .ref fa, [.ref la], rfl, .ref la, [], rfl, rfl, ?_⟩
    obtain ⟨q1, q2⟩ := q ord perm so R hR okR lR H8 F8
    refine ⟨.str (endS R.1), rfl, rfl, _, rfl, ite2 (fun e => ?_) (fun e => ?_)⟩
    · have er : R.1 = false := by
        cases c : R.1 with
        | false => rfl
        | true =>
          rw [c] at e
          exact absurd e (by decide +kernel)
      exact q1 er
    · have er : R.1 = true := by
        cases c : R.1 with
        | true => rfl
        | false =>
          rw [c] at e
          exact absurd (decide_eq_true (show V.str (endS false) = V.str "spent" from rfl)) e
      have hn8 := f8.1 nl _ nlP hn7
      refine ⟨.ref la, rfl, la, rfl, ⟨_, .inl (.inl hla)⟩, fun D2 nD2 => ?_⟩
      refine lc_list (K := K) (a := la) (xs := es8.map V.ref) (fun i H9 => Same H8 H9 ∧ H9 D2 = some (.lst ((logN ord (R.2.2.take i)).map V.str))) ⟨same_upd nD2, upd_same⟩ (fun i H9 _ p => .inl (.inl (p.1 _ _ hla))) (fun i x H9 hx p => ?_) (fun H9 p => ?_)
      · obtain ⟨ea, ee, rfl⟩ := map_get hx
        obtain ⟨ent, eent, ⟨r, en1, en2⟩⟩ := pairedGetL pl8 ee
        obtain ⟨s9, hD⟩ := p
        obtain ⟨k0, k1, _⟩ := okR ent (List.mem_of_getElem? eent)
        rw [wsAt_len] at k1
        have kn : ent.1.toNat < ord.length := by omega
        refine ⟨ea, _, rfl, .inl (.inl (s9 _ _ en1)), rfl, .int ent.1, [.ref r], rfl, .ref r, [], rfl, rfl, rfl, yes_if ?_⟩
        refine ⟨.ref nl, rfl, .int ent.1, rfl, nl, _, ent.1, _, rfl, rfl, .inl (.inl (s9 _ _ hn8)), atI_of k0 (List.getElem?_eq_getElem kn), _, hD, ?_, fun b o e => ?_, ?_⟩
        · unfold logN
          rw [List.length_map, List.length_map, List.length_take]
          exact Nat.lt_of_le_of_lt (show _ ≤ 6000 by omega) (by decide)
        · rw [upd_ne (ne_of_none e nD2)]
          exact s9 b o e
        · rw [upd_same]
          unfold logN
          rw [take_snoc eent, List.map_append, List.map_append]
          show _ = some (HO.lst (_ ++ [V.str (ord.getD ent.1.toNat "")]))
          rw [getD_get kn]
      · obtain ⟨s9, hD⟩ := p
        rw [List.length_map, el8, List.take_length] at hD
        have F9 := F8.same s9
        exact (q ord perm so R hR okR lR H9 F9).2 er D2 (F8.free nD2) hD
end
end Rd

set_option Elab.async false
set_option linter.all false
set_option maxRecDepth 100000
set_option maxHeartbeats 4000000
/-! a keeper made of things of any kind, or refused -/
namespace Rd
open PySem PySem.Spec PyProof.Rows L2 Dt
abbrev sKin : Stmt := inClass (topS 42) 0
abbrev nKin : List Str := ["self", "many", "hues", "table", "draws"]
theorem scKin : FnScope nKin ["self", "many", "hues", "table"] (defScope sKin) := ⟨rfl, rfl, rfl, by decide +kernel, rfl, by decide +kernel, by decide +kernel⟩
/-- its rows not too long -/
def FewT : PyData → Prop
  | .list l => ∀ x ∈ l, ∀ r, x = .list r → r.length ≤ 1000
  | _ => True
theorem drw_ints {H : Hp} {hues : Int} : ∀ {l : List PyData} {xs : List V}, AnyAll H xs l → l.all (drwD hues) = true → (∀ x ∈ l, ∀ r, x = .list r → r.length ≤ 1000) → ∃ (ls : List Addr) (tb : List (List Int)), xs = ls.map V.ref ∧ Paired (IsInts H) ls tb ∧ l = tb.map (fun r => PyData.list (r.map .int)) ∧ ∀ r ∈ tb, 1 ≤ r.length ∧ r.length ≤ 1000 ∧ ∀ h ∈ r, 0 ≤ h ∧ h < hues
  | [], _, h, _, _ => by cases h; exact ⟨[], [], rfl, .nil, rfl, fun _ z => nomatch z⟩
  | d :: r, _, h, e, few => by
    rw [List.all_cons, Bool.and_eq_true] at e
    cases h with
    | cons a t =>
      obtain ⟨ls, tb, q1, q2, q3, q4⟩ := drw_ints t e.2 fun x hx => few x (List.mem_cons_of_mem _ hx)
      cases d with
      | list l =>
        have e1 : (decide (l.length ≠ 0) && l.all (numD 0 (hues - 1))) = true := e.1
        rw [Bool.and_eq_true, decide_eq_true_eq] at e1
        have f1 := few _ List.mem_cons_self l rfl
        have el := num_all e1.2
        cases a with
        | dct l => cases l
        | @lst b ys _ hb _ al =>
          have ey : ys = (l.map intD).map V.int := an_ints (by rw [← el]; exact al)
          subst ey
          refine ⟨b :: ls, l.map intD :: tb, by rw [q1]; rfl, .cons hb q2, by rw [q3, List.map_cons, ← el], fun r hr => ?_⟩
          rcases List.mem_cons.mp hr with z | z
          · rw [z, List.length_map]
            refine ⟨by omega, f1, fun h hh => ?_⟩
            obtain ⟨d, hd, rfl⟩ := List.mem_map.mp hh
            have y := List.all_eq_true.mp e1.2 d hd
            cases d with
            | int i =>
              have y : decide (0 ≤ i ∧ i ≤ hues - 1) = true := y
              have := of_decide_eq_true y
              show 0 ≤ i ∧ i < hues
              omega
            | _ => exact nomatch y
          · exact q4 r z
      | _ => exact nomatch e.1
theorem tab_of {H : Hp} {v : V} {d : PyData} {many hues : Int} (a : Any H v d) (h : tabD many hues d = true) (few : FewT d) : ∃ (ta : Addr) (tb : List (List Int)), v = .ref ta ∧ d = listsD tb ∧ IsTab (fun _ => False) H ta tb ∧ GoodT many hues tb := by
  cases d with
  | list l =>
    have e1 : (decide ((l.length : Int) = many) && l.all (drwD hues)) = true := h
    rw [Bool.and_eq_true, decide_eq_true_eq] at e1
    cases a with
    | dct l => cases l
    | @lst b ys _ hb _ al =>
      obtain ⟨ls, tb, q1, q2, q3, q4⟩ := drw_ints al e1.2 few
      subst q1
      refine ⟨b, tb, rfl, by rw [q3]; rfl, ⟨ls, hb, (fun z => z), (fun _ _ z => z), q2⟩, ⟨?_, fun ds hd => (q4 ds hd).1, fun ds hd => (q4 ds hd).2.1, fun ds hd => (q4 ds hd).2.2⟩⟩
      rw [← e1.1, q3, List.length_map]
  | _ => exact nomatch h
def spKiA (C : Addr) (Ps : List Addr) (D : Addr) : Sp := fun vs H Q E => ∃ (p dx : Addr) (vm vh vt : V) (dm dh dt : PyData), vs = [.ref p, vm, vh, vt] ∧ H p = some (.ins C dx []) ∧ Tabs Ps H ∧ Any H vm dm ∧ Any H vh dh ∧ Any H vt dt ∧ FewT dt ∧
  ((sizD dm dh && tabD (intD dm) (intD dh) dt) = false → ∀ H', FrS Ps H H' → E (.ref D) none H') ∧
  ((sizD dm dh && tabD (intD dm) (intD dh) dt) = true → ∀ H' ba wa many hues tb, dm = .int many → dh = .int hues → dt = listsD tb → FrN Ps p H H' → H ba = none → H wa = none → KpAt C (Old H) H' p ba wa many hues tb (zerosI tb.length) [] → Q .non H')
structure TxtKiA (P : Program) (w : World) (K : PySem.W.Frag) (mg : Str → Option Value) (base : Heap) (Ps : List Addr) (C D : Addr) : Prop extends KpCls K C, Cls1 K D where
  m_list : mg "list" = none
  g_NoTable : mg "NoTable" = some (.ref D)
  c_is_size : Cal P w K mg base 2 "is_size" ["many", "hues"] spSizA
  c_is_table : Cal P w K mg base 5 "is_table" ["thing", "many", "hues"] (spItaA Ps)
section
variable {P : Program} {w : World} {K : PySem.W.Frag} {mg : Str → Option Value} {base : Heap}
set_option maxHeartbeats 16000000 in
theorem ok_kinA {f C D : Addr} {Ps : List Addr} {fd : FuncData} {k : Nat} (F : Fun K "__init__" "Keeper.__init__" sKin f fd) (T : TxtKiA P w K mg base Ps C D) : FnOk P w K mg base (L2.CX P w) (k + 6) f fd ["self", "many", "hues", "table"] (spKiA C Ps D) := by
  refine F.okX scKin (fun vs H Q E h => ?_) (fun cdv A outer s H vs Q E hr h => ?_)
  · obtain ⟨p, dx, vm, vh, vt, dm, dh, dt, rfl, _⟩ := h
    rfl
  · obtain ⟨p, dx, vm, vh, vt, dm, dh, dt, rfl, hp, hT, am, ah, at_, few, q⟩ := h
    refine ⟨_, (pss_cons (ps_if (PW.pt (pw_or (pt_not (pt_val (pe_cal T.c_is_size (hr.mono (by omega)) (by rfl) (pa_cons (pv 1) (pa_cons (pv 2) pa_nil))))) (pw_or1 (pt_not (pt_val (pe_cal T.c_is_table (hr.mono (by omega)) (by rfl) (pa_cons (pv 3) (pa_cons (pv 1) (pa_cons (pv 2) pa_nil)))))))))
  (pss_one (ps_raise rfl (takes_of rfl rfl rfl rfl) (pmk_own PySem.F.excBase_ValueError T.x T.g_NoTable T.k (raises_own T.b T.t) (by rfl)))) pss_nil)
  (pss_cons (ps_fld (pv 0) (pv 1) rfl)
  (pss_cons (ps_fld (pv 0) (pv 2) rfl)
  (pss_cons (ps_fld (pv 0) (pe_lc (te := tCB (rListO K) (tCons (tVar 4) tNil)) (own := [("draws", 4)]) rfl scKin.nd  (pi_list (pv 3)) (blkOk_by (own := [("draws", 4)]) (N := nKin) (sc := defScope sKin) (by decide +kernel))
   (fun _ _ _ _ _ => (pg_name (i := 4) scKin.nd rfl (Or.inl rfl))) (fun _ _ _ _ _ => pts_nil) (fun _ _ _ _ _ => (pe_callTy call_list_of (by rfl) T.m_list (by decide +kernel) (pa_cons (pv 4) pa_nil)))) rfl)
  (pss_cons (ps_fld (pv 0) (pe_op op_rep (pe_lst (pa_cons pe_int pa_nil)) (pv 1)) rfl)
  (pss_one (ps_fld (pv 0) pe_dnewK rfl))))))), ?_⟩
    have hpP : ∀ {H'}, Tabs Ps H' → H' p = some (.ins C dx []) → p ∉ Ps := fun {H'} t e z => by
      obtain ⟨ps, y, _⟩ := t p z
      rw [e] at y
      cases y
    have pP := hpP hT hp
    refine ⟨vm, rfl, vh, rfl, vm, vh, dm, dh, rfl, am, ah, _, rfl, ?_⟩
    cases hs : sizD dm dh with
    | false =>
      rw [hs, Bool.false_and] at q
      exact iteT ((q.1 rfl) H (FrS.refl hT))
    | true =>
    refine iteF ?_
    rw [hs, Bool.true_and] at q
    obtain ⟨many, hues, rfl, rfl⟩ : ∃ many hues, dm = .int many ∧ dh = .int hues := by
      cases dm with
      | int m =>
        cases dh with
        | int h => exact ⟨m, h, rfl, rfl⟩
        | _ => exact nomatch hs
      | _ => exact nomatch hs
    cases am with
    | dct l => cases l
    | int =>
    cases ah with
    | dct l => cases l
    | int =>
    refine ⟨vt, rfl, .int many, rfl, .int hues, rfl, vt, dt, many, hues, rfl, hT, at_, fun H1 f1 => ⟨_, rfl, ?_⟩⟩
    cases ht : tabD many hues dt with
    | false =>
      have ht2 : tabD (intD (.int many)) (intD (.int hues)) dt = false := ht
      exact iteT (q.1 ht2 H1 f1)
    | true =>
    refine iteF ?_
    have q2 := q.2 ht
    clear q
    obtain ⟨ta, tb, rfl, rfl, htab, gt⟩ := tab_of at_ ht few
    have q := q2
    clear q2
    have sz : sizeOk many hues = true := hs
    obtain ⟨⟨m1, m6⟩, h2, h4⟩ : (1 ≤ many ∧ many ≤ 6) ∧ 2 ≤ hues ∧ hues ≤ 4 := by
      unfold sizeOk at sz
      simp only [Bool.and_eq_true, decide_eq_true_eq] at sz
      exact sz.1
    have hp1 := f1.1 p _ pP hp
    -- many, hues
    refine ⟨.int many, rfl, .ref p, rfl, p, C, dx, [], rfl, hp1, T.cl, T.n_many, (by show 0 < 1000; decide), ?_⟩
    rw [pf1]
    refine ⟨.int hues, rfl, .ref p, rfl, p, C, dx, _, rfl, upd_same, T.cl, T.n_hues, (by show 1 < 1000; decide), ?_⟩
    rw [pf2]
    have k2 : ∀ b o, b ∉ Ps → b ≠ p → H b = some o → upd (upd H1 p (.ins C dx [("many", .int many)])) p (.ins C dx [("many", .int many), ("hues", .int hues)]) b = some o := fun b o n1 n2 e => by
      rw [upd_ne n2, upd_ne n2]
      exact f1.1 b o n1 e
    have t2 : Tabs Ps (upd (upd H1 p (.ins C dx [("many", .int many)])) p (.ins C dx [("many", .int many), ("hues", .int hues)])) := (f1.2.put pP).put pP
    have p2 : upd (upd H1 p (.ins C dx [("many", .int many)])) p (.ins C dx [("many", .int many), ("hues", .int hues)]) p = some (.ins C dx [("many", .int many), ("hues", .int hues)]) := upd_same
    generalize upd (upd H1 p (.ins C dx [("many", .int many)])) p (.ins C dx [("many", .int many), ("hues", .int hues)]) = H2 at k2 t2 p2
    -- table
    obtain ⟨das, u1, _, _, u4⟩ := id htab
    have dl := pairedLen u4
    have tl := gt.len
    have nP2 : ∀ {b : Addr} {xs : List V}, H b = some (.lst xs) → H2 b = some (.lst xs) := fun {b xs} e => k2 b _ (hT.lst e) (ne_of e hp (fun z => nomatch z)) e
    have u1' := nP2 u1
    have u4' : Paired (IsInts H2) das tb := pairedMap (fun _ _ e => nP2 e) u4
    refine ⟨.ref ta, rfl, ta, rfl, ⟨_, .inl (.inl u1')⟩, fun le nle => ?_⟩
    refine lc_list (K := K) (a := ta) (xs := das.map V.ref) (fun i H3 => Same H2 H3 ∧ ∃ ls : List Addr, H3 le = some (.lst (ls.map V.ref)) ∧ Paired (IsInts H3) ls (tb.take i) ∧ (∀ d ∈ ls, d ≠ le) ∧ ∀ d ∈ ls, H2 d = none) ⟨same_upd nle, [], upd_same, .nil, (fun _ h => nomatch h), (fun _ h => nomatch h)⟩ (fun i H3 _ p => .inl (.inl (p.1 _ _ u1'))) (fun i x H3 hx pp => ?_) (fun H3 pp => ?_)
    · obtain ⟨d, ed, rfl⟩ := map_get hx
      obtain ⟨ds, eds, hds⟩ := pairedGetL u4' ed
      obtain ⟨s3, ls, hD, pl, nls, new2⟩ := pp
      have ll := pairedLen pl
      refine ⟨rfl, yes_if ?_⟩
      refine ⟨.ref d, rfl, d, _, rfl, .inl (.inl (.inl (s3 _ _ hds))), fun cl ncl => ?_⟩
      have scl := same_upd (o := .lst (ds.map V.int)) ncl
      have hD4 := scl _ _ hD
      have ncD : cl ≠ le := (ne_of_none hD ncl).symm
      refine ⟨_, hD4, ?_, fun b o e => ?_, ls ++ [cl], ?_, ?_, fun z hz => ?_, fun z hz => ?_⟩
      · rw [List.length_map, ll, List.length_take]
        exact small1000 (by omega)
      · rw [upd_ne (ne_of_none e nle)]
        exact (s3.trans scl) b o e
      · rw [upd_same, List.map_append]
        rfl
      · rw [take_snoc eds]
        refine pairedSnoc (paired_upd (pairedMap (fun _ _ e => scl _ _ e) pl) nls) ?_
        show upd _ le _ cl = _
        rw [upd_ne ncD]
        exact upd_same
      · rcases List.mem_append.mp hz with y | y
        · exact nls z y
        · rw [List.mem_singleton.mp y]; exact ncD
      · rcases List.mem_append.mp hz with y | y
        · exact new2 z y
        · rw [List.mem_singleton.mp y]; exact s3.free ncl
    obtain ⟨s3, ls, hle, pl, nls, new2⟩ := pp
    rw [List.length_map, dl, List.take_length] at pl
    refine ⟨.ref p, rfl, p, C, dx, _, rfl, s3 _ _ p2, T.cl, T.n_table, (by show 2 < 1000; decide), ?_⟩
    rw [pf3]
    have nlep : le ≠ p := fun z => by rw [z, p2] at nle; cases nle
    have k4 : ∀ b o, b ∉ Ps → b ≠ p → H b = some o → upd H3 p (.ins C dx [("many", .int many), ("hues", .int hues), ("table", .ref le)]) b = some o := fun b o n1 n2 e => by
      rw [upd_ne n2]
      exact s3 _ _ (k2 b o n1 n2 e)
    have t4 : Tabs Ps (upd H3 p (.ins C dx [("many", .int many), ("hues", .int hues), ("table", .ref le)])) := (t2.same s3).put pP
    have p4 : upd H3 p (.ins C dx [("many", .int many), ("hues", .int hues), ("table", .ref le)]) p = some (.ins C dx [("many", .int many), ("hues", .int hues), ("table", .ref le)]) := upd_same
    have le4 : upd H3 p (.ins C dx [("many", .int many), ("hues", .int hues), ("table", .ref le)]) le = some (.lst (ls.map V.ref)) := by rw [upd_ne nlep]; exact hle
    have lsp : ∀ d ∈ ls, d ≠ p := fun d hd z => by
      obtain ⟨j, hj⟩ := List.getElem?_of_mem hd
      obtain ⟨row, _, e⟩ := pairedGetL pl hj
      have e2 : H3 d = some (.lst (row.map V.int)) := e
      rw [z, s3 _ _ p2] at e2
      cases e2
    have pl4 : Paired (IsInts (upd H3 p (.ins C dx [("many", .int many), ("hues", .int hues), ("table", .ref le)]))) ls tb := paired_upd pl lsp
    generalize upd H3 p (.ins C dx [("many", .int many), ("hues", .int hues), ("table", .ref le)]) = H4 at k4 t4 p4 le4 pl4
    -- beyond
    refine ⟨(by show 1 ≤ sizeLine; decide), fun l0 nl0 => ?_⟩
    have s5 := same_upd (o := .lst [V.int 0]) nl0
    refine ⟨.int many, rfl, l0, _, _, rfl, rfl, upd_same, by omega, by omega, ?_, fun ba nba => ?_⟩
    · show 1 * _ ≤ sizeLine
      exact Nat.le_of_lt (small1000 (by omega))
    have ez : (List.replicate many.toNat [V.int 0]).flatten = (zerosI tb.length).map V.int := by
      have e1 : many.toNat = tb.length := by omega
      rw [rep0, e1]
    rw [ez]
    have s6 := s5.trans (same_upd (o := .lst ((zerosI tb.length).map V.int)) nba)
    have hba : upd (upd H4 l0 (.lst [.int 0])) ba (.lst ((zerosI tb.length).map V.int)) ba = some (.lst ((zerosI tb.length).map V.int)) := upd_same
    have nba4 : H4 ba = none := s5.free nba
    generalize upd (upd H4 l0 (.lst [.int 0])) ba (.lst ((zerosI tb.length).map V.int)) = H6 at s6 hba
    have nbp : ba ≠ p := fun z => by rw [z, p4] at nba4; cases nba4
    refine ⟨.ref p, rfl, p, C, dx, _, rfl, s6 _ _ p4, T.cl, T.n_beyond, (by show 3 < 1000; decide), ?_⟩
    rw [pf4]
    -- wishes
    intro wa nwa
    have nwp : wa ≠ p := fun z => by rw [z, upd_same] at nwa; cases nwa
    have nwb : wa ≠ ba := fun z => by rw [z, upd_ne nbp, hba] at nwa; cases nwa
    have nwa6 : H6 wa = none := by rw [upd_ne nwp] at nwa; exact nwa
    refine ⟨.ref p, rfl, p, C, dx, _, rfl, (by rw [upd_ne (Ne.symm nwp)]; exact upd_same), T.cl, T.n_wishes, (by show 4 < 1000; decide), ?_⟩
    rw [pf5]
    have free4 : ∀ b, H4 b = none → H b = none := fun b e => by
      cases z : H b with
      | none => rfl
      | some o =>
        have n1 : b ∉ Ps := fun y => by
          obtain ⟨ps, y1, _⟩ := t4 b y
          rw [e] at y1; cases y1
        have n2 : b ≠ p := fun y => by rw [y, p4] at e; cases e
        rw [k4 b o n1 n2 z] at e
        cases e
    have baP : ba ∉ Ps := t4.new nba4
    have old2 : ∀ b, H2 b = none → H b = none := fun b e => by
      cases z : H b with
      | none => rfl
      | some o =>
        have n1 : b ∉ Ps := fun y => by
          obtain ⟨ps, y1, _⟩ := t2 b y
          rw [e] at y1; cases y1
        have n2 : b ≠ p := fun y => by rw [y, p2] at e; cases e
        rw [k2 b o n1 n2 z] at e
        cases e
    have new0 : ∀ d ∈ ls, H d = none := fun d hd => old2 d (new2 d hd)
    have nle0 := nle
    have old4 : ∀ b, H2 b = none → H b = none := old2
    have waP : wa ∉ Ps := (t4.same s6).new nwa6
    have lew : le ≠ wa := fun z => by rw [← z, s6 _ _ le4] at nwa6; cases nwa6
    have leb : le ≠ ba := fun z => by rw [← z, le4] at nba4; cases nba4
    refine q _ ba wa many hues tb rfl rfl rfl ⟨fun b o n1 n2 e => ?_, ((((t4.same s6).put pP).put waP).put pP)⟩ (free4 _ nba4) (free4 _ (s6.free nwa6)) ?_
    · have nb : b ≠ wa := fun z => by
        have := free4 _ (s6.free nwa6)
        rw [← z, e] at this
        cases this
      rw [upd_ne n2, upd_ne nb, upd_ne n2]
      exact s6 _ _ (k4 b o n1 n2 e)
    · have at6 : ∀ {b : Addr} {o : HO}, b ≠ p → b ≠ wa → H6 b = some o → upd (upd (upd H6 p (.ins C dx [("many", .int many), ("hues", .int hues), ("table", .ref le), ("beyond", .ref ba)])) wa (.dK [])) p (.ins C dx [("many", .int many), ("hues", .int hues), ("table", .ref le), ("beyond", .ref ba), ("wishes", .ref wa)]) b = some o := fun {b o} n1 n2 e => by
        rw [upd_ne n1, upd_ne n2, upd_ne n1]
        exact e
      have dne : ∀ d ∈ ls, d ≠ p ∧ d ≠ wa ∧ d ≠ ba := fun d hd => by
        obtain ⟨j, hj⟩ := List.getElem?_of_mem hd
        obtain ⟨row, _, e⟩ := pairedGetL pl4 hj
        have e2 : H4 d = some (.lst (row.map V.int)) := e
        exact ⟨lsp d hd, (fun z => by rw [← z, s6 _ _ e2] at nwa6; cases nwa6), (fun z => by rw [← z, e2] at nba4; cases nba4)⟩
      have rows : ∀ (l : List Addr) (t : List (List Int)), (∀ d ∈ l, d ≠ p ∧ d ≠ wa ∧ d ≠ ba) → Paired (IsInts H4) l t → Paired (IsInts (upd (upd (upd H6 p (.ins C dx [("many", .int many), ("hues", .int hues), ("table", .ref le), ("beyond", .ref ba)])) wa (.dK [])) p (.ins C dx [("many", .int many), ("hues", .int hues), ("table", .ref le), ("beyond", .ref ba), ("wishes", .ref wa)]))) l t := fun l t hn pr => by
        induction pr with
        | nil => exact .nil
        | @cons a b l m e t ih =>
          have z := hn a List.mem_cons_self
          exact .cons (at6 z.1 z.2.1 (s6 _ _ e)) (ih fun d hd => hn d (List.mem_cons_of_mem _ hd))
      exact { ins := ⟨dx, le, upd_same, ls, at6 nlep lew (s6 _ _ le4), (fun z => z.elim leb fun y => y (old4 le nle0)), (fun d hd z => z.elim (dne d hd).2.2 fun y => y (new0 d hd)), rows ls tb dne pl4⟩, nba := fun z => z (free4 _ nba4), bds := at6 nbp (Ne.symm nwb) hba, wss := ⟨[], (by rw [upd_ne nwp, upd_same]; rfl), .nil⟩, m1 := m1, m6 := m6, h2 := h2, h4 := h4, gt := gt, gk := zeros_good gt, gw := ⟨Nat.zero_le _, List.nodup_nil, fun _ h => nomatch h⟩ }
end
end Rd

set_option Elab.async false
set_option linter.all false
set_option maxRecDepth 100000
set_option maxHeartbeats 4000000
namespace Rd
open PySem PySem.Spec PyProof.Rows L2 Dt TL
abbrev sSzs : Stmt := topS 48
abbrev nSzs : List Str := ["well", "hues"]
theorem scSzs : FnScope nSzs ["well"] (defScope sSzs) := ⟨rfl, rfl, rfl, by decide +kernel, rfl, by decide +kernel, by decide +kernel⟩
abbrev sTab : Stmt := topS 49
abbrev nTab : List Str := ["well", "many", "hues", "most", "long", "found", "place", "size", "k"]
theorem scTab : FnScope nTab ["well", "many", "hues", "most"] (defScope sTab) := ⟨rfl, rfl, rfl, by decide +kernel, rfl, by decide +kernel, by decide +kernel⟩
def spLnm : Sp := fun vs H Q _ => ∃ (wl cl : Addr), vs = [.ref wl] ∧ Well H wl cl ∧
  ∀ H' l ns, Drawn wl cl H H' → H l = none → H' l = some (.lst (ns.map V.str)) → TenN ns → Q (.ref l) H'
def spLsz : Sp := fun vs H Q _ => ∃ (wl cl : Addr), vs = [.ref wl] ∧ Well H wl cl ∧
  ∀ H' t many hues, Drawn wl cl H H' → H' t = some (.tup [.int many, .int hues]) → 1 ≤ many → many ≤ 6 → 2 ≤ hues → hues ≤ 4 → sizeOk many hues = true → Q (.ref t) H'
def spLtb : Sp := fun vs H Q _ => ∃ (wl cl : Addr) (many hues most : Int), vs = [.ref wl, .int many, .int hues, .int most] ∧ Well H wl cl ∧ 1 ≤ many ∧ many ≤ 6 ∧ 2 ≤ hues ∧ hues ≤ 4 ∧ 1 ≤ most ∧ most ≤ 1000 ∧
  ∀ H' ta tb, Drawn wl cl H H' → H ta = none → IsTab (Old H) H' ta tb → GoodT many hues tb → Q (.ref ta) H'
structure TxtNn (P : Program) (w : World) (K : PySem.W.Frag) (mg : Str → Option Value) (base : Heap) : Prop where
  m_range : mg "range" = none
  m_len : mg "len" = none
  c__law_draw : Cal P w K mg base 1 "_law_draw" ["well", "many"] spDraw
theorem size_ok : ∀ m : Fin 7, ∀ h : Fin 5, (2 ≤ (h : Nat) → 1 ≤ (m : Nat) → (m : Nat) ≤ ([6, 5, 4] : List Nat).getD ((h : Nat) - 2) 0 → sizeOk ((m : Nat) : Int) ((h : Nat) : Int) = true) := by decide
section
variable {P : Program} {w : World} {K : PySem.W.Frag} {mg : Str → Option Value} {base : Heap}
theorem ok_szs {f : Addr} {fd : FuncData} {k : Nat} (F : Fun K "_law_sizes" "_law_sizes" sSzs f fd) (T : TxtNn P w K mg base) : FnOk P w K mg base CX0 (k + 2) f fd ["well"] spLsz := by
  refine F.ok scSzs (fun vs H Q E h => ?_) (fun cdv A outer s H vs Q E hr h => ?_)
  · obtain ⟨wl, cl, rfl, _⟩ := h
    rfl
  · obtain ⟨wl, cl, rfl, hW, q⟩ := h
    refine ⟨_, (pss_cons (ps_set (i := 1) scSzs.nd rfl (Or.inl rfl) (pe_op op_add pe_int (pe_ix ix_list (pe_lst (pa_cons pe_int (pa_cons pe_int (pa_cons pe_int (pa_cons pe_int pa_nil))))) (pe_cal T.c__law_draw (hr.mono (by omega)) (by rfl) (pa_cons (pv 0) (pa_cons pe_int pa_nil))) (fun _ _ => rfl))))
  (pss_one (ps_ret (pe_tup (pa_cons (pe_op op_add pe_int (pe_cal T.c__law_draw (hr.mono (by omega)) (by rfl) (pa_cons (pv 0) (pa_cons (pe_ix ix_list (pe_lst (pa_cons pe_int (pa_cons pe_int (pa_cons pe_int pa_nil)))) (pe_op op_sub (pv 1) pe_int) (fun _ _ => rfl)) pa_nil)))) (pa_cons (pv 1) pa_nil)))))), ?_⟩
    refine ⟨(by show 4 ≤ sizeLine; decide), fun l4 nl4 => ?_⟩
    have s4 := same_upd (o := .lst [V.int 0, .int 0, .int 1, .int 2]) nl4
    refine ⟨.ref wl, rfl, wl, cl, 4, rfl, hW.same s4, by decide, by decide, fun H1 d D1 d0 d1 => ?_⟩
    have E1 : Drawn wl cl H H1 := (Drawn.refl hW |>.same s4).trans D1
    have n4 := (hW.new nl4)
    obtain ⟨hx, hat, hx0, hx2⟩ : ∃ hx : Nat, atI [V.int 0, .int 0, .int 1, .int 2] d = some (.int hx) ∧ 0 ≤ hx ∧ hx ≤ 2 := by
      have : d = 0 ∨ d = 1 ∨ d = 2 ∨ d = 3 := by omega
      rcases this with rfl | rfl | rfl | rfl
      · exact ⟨0, atI_nat (j := 0) rfl, by decide, by decide⟩
      · exact ⟨0, atI_nat (j := 1) rfl, by decide, by decide⟩
      · exact ⟨1, atI_nat (j := 2) rfl, by decide, by decide⟩
      · exact ⟨2, atI_nat (j := 3) rfl, by decide, by decide⟩
    refine ⟨l4, _, d, .int hx, rfl, rfl, .inl (.inl (D1.1 l4 _ n4.1 n4.2 upd_same)), hat, 2, hx, rfl, rfl, ?_⟩
    refine ⟨.ref wl, rfl, (by show 3 ≤ sizeLine; decide), fun l3 nl3 => ?_⟩
    have s3 := same_upd (o := .lst [V.int 6, .int 5, .int 4]) nl3
    obtain ⟨mx, mat, mx1, mx6, msz⟩ : ∃ mx : Nat, atI [V.int 6, .int 5, .int 4] (2 + (hx : Int) - 2) = some (.int mx) ∧ 1 ≤ mx ∧ mx ≤ 6 ∧ mx = ([6, 5, 4] : List Nat).getD hx 0 := by
      have : hx = 0 ∨ hx = 1 ∨ hx = 2 := by omega
      rcases this with rfl | rfl | rfl
      · exact ⟨6, atI_nat (j := 0) rfl, by decide, by decide, rfl⟩
      · exact ⟨5, atI_nat (j := 1) rfl, by decide, by decide, rfl⟩
      · exact ⟨4, atI_nat (j := 2) rfl, by decide, by decide, rfl⟩
    refine ⟨.int (2 + hx), rfl, 2 + hx, 2, rfl, rfl, l3, _, 2 + (hx : Int) - 2, .int mx, rfl, rfl, .inl (.inl upd_same), mat, wl, cl, mx, rfl, D1.2.same s3, by omega, log_small (by omega) (by omega), fun H2 e D2 e0 e1 => ⟨1, e, rfl, rfl, ?_⟩⟩
    have E2 := (E1.same s3).trans D2
    refine ⟨.int (2 + hx), rfl, (by show 2 ≤ sizeLine; decide), fun t nt => ?_⟩
    have st := same_upd (o := .tup [.int (1 + e), .int (2 + hx)]) nt
    refine q _ t (1 + e) (2 + hx) (E2.same st) upd_same (by omega) (by omega) (by omega) (by omega) ?_
    have z := size_ok ⟨(1 + e).toNat, by omega⟩ ⟨2 + hx, by omega⟩ (by show 2 ≤ 2 + hx; omega) (by show 1 ≤ (1 + e).toNat; omega) (by
      show (1 + e).toNat ≤ ([6, 5, 4] : List Nat).getD (2 + hx - 2) 0
      have e2 : 2 + hx - 2 = hx := by omega
      rw [e2, ← msz]
      omega)
    have e3 : (((1 + e).toNat : Nat) : Int) = 1 + e := by omega
    have e4 : (((2 + hx : Nat)) : Int) = 2 + (hx : Int) := by omega
    have z2 : sizeOk (((1 + e).toNat : Nat) : Int) ((2 + hx : Nat) : Int) = true := z
    rw [e3, e4] at z2
    exact z2
set_option maxHeartbeats 16000000 in
theorem ok_ltb {f : Addr} {fd : FuncData} {k : Nat} (F : Fun K "_law_table" "_law_table" sTab f fd) (T : TxtNn P w K mg base) : FnOk P w K mg base CX0 (k + 2) f fd ["well", "many", "hues", "most"] spLtb := by
  refine F.ok scTab (fun vs H Q E h => ?_) (fun cdv A outer s H vs Q E hr h => ?_)
  · obtain ⟨wl, cl, many, hues, most, rfl, _⟩ := h
    rfl
  · obtain ⟨wl, cl, many, hues, most, rfl, hW, k1, k6, hh2, hh4, o1, o2, q⟩ := h
    refine ⟨_, (pss_cons (ps_set (i := 4) scTab.nd rfl (Or.inl rfl) (pe_cmpR op_eq (pe_cal T.c__law_draw (hr.mono (by omega)) (by rfl) (pa_cons (pv 0) (pa_cons pe_int pa_nil))) pe_int (nomark _)))
  (pss_cons (ps_set (i := 5) scTab.nd rfl (Or.inl rfl) (pe_lst pa_nil))
  (pss_cons (ps_for PassesOwn.never rfl (pi_range1 (by rfl) T.m_range (pa_cons (pv 1) pa_nil)) (pg_name (i := 6) scTab.nd rfl (Or.inl rfl))
  (pss_cons (ps_set (i := 7) scTab.nd rfl (Or.inl rfl) (pv 3))
  (C8.pss_cut (ps_if (pt_not (pt_val (pv 4)))
  (pss_one (ps_set (i := 7) scTab.nd rfl (Or.inl rfl) (pe_op op_add pe_int (pe_cal T.c__law_draw (hr.mono (by omega)) (by rfl) (pa_cons (pv 0) (pa_cons (pv 3) pa_nil)))))) pss_nil)
  (pss_one (ps_expr (pe_bm PySem.F.plainAttrs_list PySem.F.slot_list_append PySem.F.type_list_append mt_append (pv 5) (pa_cons (pe_lc (te := tCall spDraw [] E0 (tCons (tVar 0) (tCons (tVar 2) tNil))) (own := [("k", 8)]) rfl scTab.nd  (pi_range1 (by rfl) T.m_range (pa_cons (pv 7) pa_nil)) (blkOk_by (own := [("k", 8)]) (N := nTab) (sc := defScope sTab) (by decide +kernel))
   (fun _ _ _ _ _ => (pg_name (i := 8) scTab.nd rfl (Or.inl rfl))) (fun _ _ _ _ _ => pts_nil) (fun _ _ _ _ _ => (pe_cal T.c__law_draw (hr.mono (by omega)) (by rfl) (pa_cons (pv 0) (pa_cons (pv 2) pa_nil))))) pa_nil)))))))
  (pss_one (ps_ret (pv 5)))))), ?_⟩
    refine ⟨.ref wl, rfl, wl, cl, 2, rfl, hW, by decide, by decide, fun H1 lg D1 _ _ => ⟨rfl, ?_⟩⟩
    generalize decide (V.int lg = V.int 0) = long
    refine ⟨(by show 0 ≤ sizeLine; decide), fun ta nta => ?_⟩
    have sta := same_upd (o := .lst []) nta
    have nt := D1.2.new nta
    have nta0 : H ta = none := D1.free hW nta
    refine ⟨.int many, rfl, many, rfl, by omega, by omega, for_range (lo := 0) (n := many.toNat) (fun i σ H3 => Drawn wl cl H H3 ∧ (∃ (das : List Addr) (tb : List (List Int)), H3 ta = some (.lst (das.map V.ref)) ∧ das.length = i ∧ (∀ d ∈ das, H d = none ∧ d ≠ ta) ∧ Paired (IsInts H3) das tb ∧ ∀ ds ∈ tb, 1 ≤ ds.length ∧ (ds.length : Int) ≤ most ∧ ∀ h ∈ ds, 0 ≤ h ∧ h < hues) ∧ ∃ y6 y7, σ = [some (.ref wl), some (.int many), some (.int hues), some (.int most), some (.bl long), some (.ref ta), y6, y7, none]) ⟨D1.same sta, ⟨[], [], upd_same, rfl, (fun _ h => nomatch h), .nil, (fun _ h => nomatch h)⟩, none, none, rfl⟩ (fun i σ H3 hi p => ?_) (fun σ H3 p => ?_)⟩
    · obtain ⟨E3, ⟨das, tb, hta, dl, fr, pr, gd⟩, y6, y7, rfl⟩ := p
      have new3 : ∀ d ∈ das, d ≠ wl ∧ d ≠ cl := fun d hd => hW.new (fr d hd).1
      refine ⟨.int most, rfl, ?_⟩
      refine ⟨fun σ H4 => Drawn wl cl H3 H4 ∧ ∃ (sz : Int) (y6 : Option V), 1 ≤ sz ∧ sz ≤ most ∧ σ = [some (.ref wl), some (.int many), some (.int hues), some (.int most), some (.bl long), some (.ref ta), y6, some (.int sz), none], ?_, ?_⟩
      · refine ⟨.bl long, rfl, ?_⟩
        cases long with
        | true => exact ⟨true, rfl, iteF ⟨Drawn.refl E3.2, most, _, o1, Int.le_refl _, rfl⟩⟩
        | false => exact ⟨false, rfl, iteT ⟨.ref wl, rfl, .int most, rfl, wl, cl, most, rfl, E3.2, by omega, log_small (by omega) (by omega), fun H4 c D4 c0 c1 => ⟨1, c, rfl, rfl, D4, 1 + c, _, by omega, by omega, rfl⟩⟩⟩
      rintro σ H4 ⟨D4, sz, y6', z1, z2, rfl⟩
      have E4 := E3.trans D4
      have hta4 := D4.1 ta _ nt.1 nt.2 hta
      refine ⟨.ref ta, rfl, .inl ⟨rfl, _, .inl (.inl hta4)⟩, .int sz, rfl, sz, rfl, by omega, by omega, fun D nD => ?_⟩
      have nDt := E4.2.new nD
      have nD0 : H D = none := E4.free hW nD
      have nDa : D ≠ ta := (ne_of_none hta4 nD).symm
      refine lc_range (lo := 0) (n := sz.toNat) (fun j H5 => Drawn wl cl H H5 ∧ Drawn wl cl H4 H5 ∧ ∃ ds : List Int, H5 D = some (.lst (ds.map V.int)) ∧ ds.length = j ∧ ∀ h ∈ ds, 0 ≤ h ∧ h < hues) ⟨E4.put nD0 nDt, (Drawn.refl E4.2).same (same_upd nD), [], upd_same, rfl, (fun _ h => nomatch h)⟩ (fun j H5 hj pp => ?_) (fun H5 pp => ?_)
      · obtain ⟨E5, D5, ds, hD, ld, gh⟩ := pp
        refine ⟨rfl, yes_if ?_⟩
        refine ⟨.ref wl, rfl, .int hues, rfl, wl, cl, hues, rfl, E5.2, by omega, log_small (by omega) (by omega), fun H6 d D6 d0 d1 => ?_⟩
        refine ⟨_, D6.1 D _ nDt.1 nDt.2 hD, ?_, (E5.trans D6).put nD0 nDt, (D5.trans D6).put nD nDt, ds ++ [d], ?_, ?_, ?_⟩
        · rw [List.length_map, ld]
          exact small1000 (by omega)
        · rw [upd_same, List.map_append]
          rfl
        · rw [List.length_append, ld]
          rfl
        · intro h hh
          rcases List.mem_append.mp hh with hh | hh
          · exact gh h hh
          · rw [List.mem_singleton.mp hh]
            exact ⟨d0, d1⟩
      · obtain ⟨E5, D5, ds, hD, ld, gh⟩ := pp
        have hta5 := D5.1 ta _ nt.1 nt.2 hta4
        refine ⟨ta, _, .ref D, rfl, rfl, hta5, ?_, E5.put nta0 nt, ⟨das ++ [D], tb ++ [ds], ?_, ?_, ?_, ?_, ?_⟩, _, _, rfl⟩
        · rw [List.length_map, dl]
          exact small1000 (by omega)
        · rw [upd_same, List.map_append]
          rfl
        · rw [List.length_append, dl]
          rfl
        · intro d hd
          rcases List.mem_append.mp hd with hd | hd
          · exact fr d hd
          · rw [List.mem_singleton.mp hd]
            exact ⟨nD0, nDa⟩
        · refine pairedSnoc ?_ (by show upd _ ta _ D = _; rw [upd_ne nDa]; exact hD)
          have q1 : ∀ {l m}, (∀ d ∈ l, H d = none ∧ d ≠ ta) → Paired (IsInts H3) l m → Paired (IsInts (upd H5 ta (.lst (das.map V.ref ++ [.ref D])))) l m := by
            intro l m fl pp
            induction pp with
            | nil => exact .nil
            | @cons a b l m e t ih =>
              have na := hW.new (fl a List.mem_cons_self).1
              exact .cons (by
                show upd H5 ta _ a = _
                rw [upd_ne (fl a List.mem_cons_self).2]
                exact D5.1 a _ na.1 na.2 (D4.1 a _ na.1 na.2 e)) (ih fun d hd => fl d (List.mem_cons_of_mem _ hd))
          exact q1 fr pr
        · intro x hx
          rcases List.mem_append.mp hx with hx | hx
          · exact gd x hx
          · rw [List.mem_singleton.mp hx]
            exact ⟨by omega, by omega, gh⟩
    · obtain ⟨E3, ⟨das, tb, hta, dl, fr, pr, gd⟩, y6, y7, rfl⟩ := p
      have tl := pairedLen pr
      refine ⟨.ref ta, rfl, q H3 ta tb E3 nta0 ⟨das, hta, fun z => z nta0, fun d hd z => z (fr d hd).1, pr⟩ ⟨by omega, fun ds h => (gd ds h).1, fun ds h => ?_, fun ds h => (gd ds h).2.2⟩⟩
      have := (gd ds h).2.1
      omega
end
end Rd

set_option Elab.async false
set_option linter.all false
set_option maxRecDepth 100000
set_option maxHeartbeats 4000000
namespace Rd
open PySem PySem.Spec PyProof.Rows L2 Dt TL
abbrev sOdd : Stmt := topS 47
abbrev nOdd : List Str := ["well", "high", "way", "some"]
theorem scOdd : FnScope nOdd ["well", "high"] (defScope sOdd) := ⟨rfl, rfl, rfl, by decide +kernel, rfl, by decide +kernel, by decide +kernel⟩
abbrev sLwh : Stmt := topS 50
abbrev nLwh : List Str := ["thing", "low", "high"]
theorem scLwh : FnScope nLwh ["thing", "low", "high"] (defScope sLwh) := ⟨rfl, rfl, rfl, by decide +kernel, rfl, by decide +kernel, by decide +kernel⟩
mutual
theorem An.more {Av Bv : Addr → Prop} {H : Hp} (w : ∀ b, Bv b → Av b ∨ H b = none) : ∀ (d : PyData) (v : V), An Av H v d → An Bv H v d
  | .none, _, h => by
    cases h with
    | non => exact .non
    | dct l => exact .dct l
  | .bool b, _, h => by
    cases h with
    | bl => exact .bl b
    | dct l => exact .dct l
  | .int i, _, h => by
    cases h with
    | int => exact .int i
    | dct l => exact .dct l
  | .str x, _, h => by
    cases h with
    | str => exact .str x
    | dct l => exact .dct l
  | .list ds, _, h => by
    cases h with
    | lst e n t => exact .lst e (fun z => (w _ z).elim n fun y => by rw [e] at y; cases y) (An.moreAll w ds _ t)
    | dct l => exact .dct l
  | .tuple ds, _, h => by
    cases h with
    | tup e t => exact .tup e (An.moreAll w ds _ t)
    | dct l => exact .dct l
  | .dict _, _, h => by
    cases h with
    | dct l => exact .dct l
theorem An.moreAll {Av Bv : Addr → Prop} {H : Hp} (w : ∀ b, Bv b → Av b ∨ H b = none) : ∀ (ds : List PyData) (vs : List V), AnAll Av H vs ds → AnAll Bv H vs ds
  | [], _, h => by
    cases h
    exact .nil
  | d :: ds, _, h => by
    cases h with
    | cons h t => exact .cons (An.more w d _ h) (An.moreAll w ds _ t)
end
/-- few and small -/
structure OddD (d : PyData) : Prop where
  fx : FX d 4 8
  tup : ∀ l, d = .tuple l → l.length ≤ 1
  lst : ∀ l, d = .list l → l.length ≤ 1
def oddL : List PyData := [.bool true, .bool false, .none, .str "0", .str "", .tuple [.int 0], .list [.int 0], .dict [], .tuple [], .list [], .tuple [.tuple [.int 0]]]
theorem odd_int {i : Int} (h : i.natAbs < 10 ^ 55) : OddD (.int i) := ⟨(FX.int h).mono (by decide) (by decide), (fun _ z => nomatch z), (fun _ z => nomatch z)⟩
theorem fx0 : FX (.int 0) 0 0 := FX.int (by decide)
theorem odd_all : ∀ d ∈ oddL, OddD d := by
  intro d hd
  have t0 : FX (.tuple [.int 0]) 1 1 := (FX.tuple (FXA.cons fx0 (FXA.nil _))).mono (Nat.le_refl _) (by decide)
  simp only [oddL, List.mem_cons, List.not_mem_nil, or_false] at hd
  rcases hd with rfl | rfl | rfl | rfl | rfl | rfl | rfl | rfl | rfl | rfl | rfl
  · exact ⟨(FX.bl _).mono (by decide) (by decide), (fun _ z => nomatch z), (fun _ z => nomatch z)⟩
  · exact ⟨(FX.bl _).mono (by decide) (by decide), (fun _ z => nomatch z), (fun _ z => nomatch z)⟩
  · exact ⟨FX.non.mono (by decide) (by decide), (fun _ z => nomatch z), (fun _ z => nomatch z)⟩
  · exact ⟨(FX.str (w := 1) (by decide +kernel) (by decide +kernel)).mono (by decide) (by decide), (fun _ z => nomatch z), (fun _ z => nomatch z)⟩
  · exact ⟨(FX.str (w := 1) (by decide +kernel) (by decide +kernel)).mono (by decide) (by decide), (fun _ z => nomatch z), (fun _ z => nomatch z)⟩
  · exact ⟨t0.mono (by decide) (by decide), (fun l z => by cases z; exact Nat.le_refl _), (fun _ z => nomatch z)⟩
  · exact ⟨(FX.list (FXA.cons fx0 (FXA.nil _))).mono (by decide) (by decide), (fun _ z => nomatch z), (fun l z => by cases z; exact Nat.le_refl _)⟩
  · exact ⟨FX.d0.mono (by decide) (by decide), (fun _ z => nomatch z), (fun _ z => nomatch z)⟩
  · exact ⟨(FX.tuple (FXA.nil 0)).mono (by decide) (by decide), (fun l z => by cases z; exact Nat.zero_le _), (fun _ z => nomatch z)⟩
  · exact ⟨(FX.list (FXA.nil 0)).mono (by decide) (by decide), (fun _ z => nomatch z), (fun l z => by cases z; exact Nat.zero_le _)⟩
  · exact ⟨(FX.tuple (FXA.cons t0 (FXA.nil _))).mono (by decide) (by decide), (fun l z => by cases z; exact Nat.le_refl _), (fun _ z => nomatch z)⟩
def spOdA : Sp := fun vs H Q _ => ∃ (Av : Addr → Prop) (wl cl : Addr) (high : Int), vs = [.ref wl, .int high] ∧ Well H wl cl ∧ 0 ≤ high ∧ high ≤ 20 ∧ (∀ b, Av b → Old H b) ∧ Av wl ∧ Av cl ∧
  ∀ H' v d, Drawn wl cl H H' → An Av H' v d → OddD d → Q v H'
def spLwA : Sp := fun vs H Q _ => ∃ (v : V) (d : PyData) (lo hi : Int), vs = [v, .int lo, .int hi] ∧ Any H v d ∧ Q (.bl (numD lo hi d)) H
structure TxtOa (P : Program) (w : World) (K : PySem.W.Frag) (mg : Str → Option Value) (base : Heap) : Prop where
  c__law_draw : Cal P w K mg base 1 "_law_draw" ["well", "many"] spDraw
structure TxtWh (mg : Str → Option Value) : Prop where
  m_isinstance : mg "isinstance" = none
  m_int : mg "int" = none
  m_bool : mg "bool" = none
theorem seqZ {te : TE} {g : TG} {u : TS} {D : Ends} {σ : L2.St} {H : Hp} (h : te σ H fun x H1 => g x σ H1 (u D)) : tSeq (tAsg te g) u D σ H := h
section
variable {P : Program} {w : World} {K : PySem.W.Frag} {mg : Str → Option Value} {base : Heap}
theorem ok_odA {f : Addr} {fd : FuncData} {k : Nat} (F : Fun K "_law_odd" "_law_odd" sOdd f fd) (T : TxtOa P w K mg base) : FnOk P w K mg base CX0 (k + 2) f fd ["well", "high"] spOdA := by
  refine F.ok scOdd (fun vs H Q E h => ?_) (fun cdv A outer s H vs Q E hr h => ?_)
  · obtain ⟨Av, wl, cl, high, rfl, _⟩ := h
    rfl
  · obtain ⟨Av, wl, cl, high, rfl, hW, h0, h20, hav, aw, ac, q⟩ := h
    refine ⟨_, (pss_cons (ps_set (i := 2) scOdd.nd rfl (Or.inl rfl) (pe_cal T.c__law_draw (hr.mono (by omega)) (by rfl) (pa_cons (pv 0) (pa_cons pe_int pa_nil))))
  (pss_cons (ps_if (pt_cmpR op_lt (pv 2) pe_int (nomark _))
  (pss_one (ps_ret (pe_ix ix_list (pe_lst (pa_cons (pe_op op_add (pv 1) pe_int) (pa_cons (pe_un un_neg pe_int) (pa_cons (pe_op op_add (pe_op op_add (pv 1) pe_int) (pe_cal T.c__law_draw (hr.mono (by omega)) (by rfl) (pa_cons (pv 0) (pa_cons (pe_op op_powW pe_int pe_int) pa_nil)))) (pa_cons (pe_op op_sub (pe_un un_neg pe_int) (pe_cal T.c__law_draw (hr.mono (by omega)) (by rfl) (pa_cons (pv 0) (pa_cons (pe_op op_powW pe_int pe_int) pa_nil)))) pa_nil))))) (pv 2) (fun _ _ => rfl)))) pss_nil)
  (pss_cons (ps_if (pt_cmpR op_eq (pv 2) pe_int (nomark _))
  (pss_one (ps_ret (pe_cal T.c__law_draw (hr.mono (by omega)) (by rfl) (pa_cons (pv 0) (pa_cons (pe_op op_add (pv 1) pe_int) pa_nil))))) pss_nil)
  (pss_cons (ps_set (i := 3) scOdd.nd rfl (Or.inl rfl) (pe_lst (pa_cons pe_bl (pa_cons pe_bl (pa_cons pe_non (pa_cons pe_str (pa_cons pe_str (pa_cons (pe_tup (pa_cons pe_int pa_nil)) (pa_cons (pe_lst (pa_cons pe_int pa_nil)) (pa_cons pe_dnewK (pa_cons (pe_tup pa_nil) (pa_cons (pe_lst pa_nil) (pa_cons (pe_tup (pa_cons (pe_tup (pa_cons pe_int pa_nil)) pa_nil)) pa_nil)))))))))))))
  (pss_one (ps_ret (pe_ix ix_list (pv 3) (pe_op op_sub (pv 2) pe_int) (fun _ _ => rfl)))))))), ?_⟩
    have big : ∀ {i : Int}, -(10 ^ 52) ≤ i → i ≤ 10 ^ 52 → i.natAbs < 10 ^ 55 := fun {i} a b => by omega
    refine ⟨.ref wl, rfl, wl, cl, 16, rfl, hW, by decide, by decide, fun H1 way D1 w0 w1 => ?_⟩
    refine ⟨.int way, rfl, way, 4, rfl, rfl, _, rfl, ite2 (fun e => ?_) (fun e => ?_)⟩
    · have e : way < 4 := by simpa using e
      refine ⟨.int high, rfl, high, 1, rfl, rfl, 1, rfl, .int high, rfl, high, 1, rfl, rfl, .ref wl, rfl, 10, 50, rfl, rfl, ⟨by decide, by decide⟩, wl, cl, _, rfl, D1.2, by decide, by decide, fun H2 d2 D2 d20 d21 => ?_⟩
      have d21 : d2 < 10 ^ 50 := d21
      refine ⟨_, d2, rfl, rfl, 1, rfl, .ref wl, rfl, 10, 50, rfl, rfl, ⟨by decide, by decide⟩, wl, cl, _, rfl, D2.2, by decide, by decide, fun H3 d3 D3 d30 d31 => ?_⟩
      have d31 : d3 < 10 ^ 50 := d31
      refine ⟨_, d3, rfl, rfl, (by show 4 ≤ sizeLine; decide), fun l nl => ?_⟩
      have ws : way = 0 ∨ way = 1 ∨ way = 2 ∨ way = 3 := by omega
      have D4 := ((D1.trans D2).trans D3).same (same_upd (o := .lst [V.int (high + 1), V.int (-1), V.int (high + 1 + d2), V.int (-1 - d3)]) nl)
      refine ⟨.int way, rfl, ?_⟩
      have hl : SqL K (upd H3 l (.lst [V.int (high + 1), V.int (-1), V.int (high + 1 + d2), V.int (-1 - d3)])) l [V.int (high + 1), V.int (-1), V.int (high + 1 + d2), V.int (-1 - d3)] := .inl (.inl upd_same)
      rcases ws with rfl | rfl | rfl | rfl
      · exact ⟨l, _, 0, _, rfl, rfl, hl, atI_nat (j := 0) rfl, q _ _ _ D4 (.int _) (odd_int (big (by omega) (by omega)))⟩
      · exact ⟨l, _, 1, _, rfl, rfl, hl, atI_nat (j := 1) rfl, q _ _ _ D4 (.int _) (odd_int (big (by omega) (by omega)))⟩
      · exact ⟨l, _, 2, _, rfl, rfl, hl, atI_nat (j := 2) rfl, q _ _ _ D4 (.int _) (odd_int (big (by omega) (by omega)))⟩
      · exact ⟨l, _, 3, _, rfl, rfl, hl, atI_nat (j := 3) rfl, q _ _ _ D4 (.int _) (odd_int (big (by omega) (by omega)))⟩
    · have e : ¬ way < 4 := by simpa using e
      refine ⟨.int way, rfl, rfl, _, rfl, ite2 (fun e4 => ?_) (fun e4 => ?_)⟩
      · refine ⟨.ref wl, rfl, .int high, rfl, high, 1, rfl, rfl, wl, cl, _, rfl, D1.2, by omega, log_small (by omega) (by omega), fun H2 d2 D2 d20 d21 => ?_⟩
        exact q _ _ _ (D1.trans D2) (.int _) (odd_int (big (by omega) (by omega)))
      · have e4 : way ≠ 4 := by simpa using e4
        have hav1 : ∀ b, Av b → Old H1 b := fun b hb z => hav b hb (D1.free hW z)
        have tn : ∀ σ, TEn Av (tTup (tCons (tC (.int 0)) tNil)) σ H1 (.tuple [.int 0]) := fun σ => ten_tup (tan_cons (ten_int 0) tan_nil) (by decide)
        have tl : ∀ σ, TEn Av (tLst (tCons (tC (.bl true)) (tCons (tC (.bl false)) (tCons (tC .non) (tCons (tC (.str (Str.ofString "0"))) (tCons (tC (.str (Str.ofString ""))) (tCons (tTup (tCons (tC (.int 0)) tNil)) (tCons (tLst (tCons (tC (.int 0)) tNil)) (tCons tDNewK (tCons (tTup tNil) (tCons (tLst tNil) (tCons (tTup (tCons (tTup (tCons (tC (.int 0)) tNil)) tNil)) tNil)))))))))))) σ H1 (.list oddL) := fun σ =>
          ten_lst hav1 (tan_cons (ten_bl true) <| tan_cons (ten_bl false) <| tan_cons ten_non <| tan_cons (ten_str _) <| tan_cons (ten_str _) <| tan_cons (tn σ) <| tan_cons (ten_lst hav1 (tan_cons (ten_int 0) tan_nil) (by decide)) <| tan_cons ten_d0 <| tan_cons (ten_tup tan_nil (by decide)) <| tan_cons (ten_lst hav1 tan_nil (by decide)) <| tan_cons (ten_tup (tan_cons (tn σ) tan_nil) (by decide)) tan_nil) (by decide)
        refine seqZ (tl _ H1 _ (Same.refl H1) (fun H2 v s2 an => ?_))
        have D2 := D1.same s2
        cases an with
        | dct l => cases l
        | @lst b xs _ hb nb al =>
          have lx : xs.length = 11 := al.len
          obtain ⟨x, ex⟩ : ∃ x, xs[(way - 5).toNat]? = some x := ⟨_, List.getElem?_eq_getElem (by omega)⟩
          obtain ⟨d, ed, ad⟩ := al.get ex
          have e9 : (((way - 5).toNat : Nat) : Int) = way - 5 := by omega
          have hat : atI xs (way - 5) = some x := by rw [← e9]; exact atI_nat ex
          exact ⟨.ref b, rfl, .int way, rfl, way, 5, rfl, rfl, b, xs, way - 5, x, rfl, rfl, .inl (.inl hb), hat, q _ _ _ D2 ad (odd_all d (List.mem_of_getElem? ed))⟩
theorem ok_lwA {f : Addr} {fd : FuncData} {k : Nat} (F : Fun K "_law_whole" "_law_whole" sLwh f fd) (T : TxtWh mg) : FnOk P w K mg base CX0 (k + 1) f fd ["thing", "low", "high"] spLwA := by
  refine F.ok scLwh (fun vs H Q E h => ?_) (fun cdv A outer s H vs Q E hr h => ?_)
  · obtain ⟨v, d, lo, hi, rfl, _⟩ := h
    rfl
  · obtain ⟨v, d, lo, hi, rfl, an, q⟩ := h
    refine ⟨_, (pss_one (ps_ret (pe_and (pe_callB call_isi (by rfl) T.m_isinstance (by decide +kernel) (pa_cons (pv 0) (pa_cons (pe_bltn (v := .ty "int") (by rfl) T.m_int (by decide +kernel) rfl) pa_nil))) (pe_and (pe_not (pe_callB call_isi (by rfl) T.m_isinstance (by decide +kernel) (pa_cons (pv 0) (pa_cons (pe_bltn (v := .ty "bool") (by rfl) T.m_bool (by decide +kernel) rfl) pa_nil)))) (pe_one (pe_chain op_le op_le (pv 1) (pv 0) (pv 2))))))), ?_⟩
    refine ⟨v, rfl, v, .ty "int", _, .type "int", _, rfl, .ty _, an.ty, kit_ty (kit_self (.inl rfl)), _, rfl, ?_⟩
    cases d with
    | int t =>
      cases an with
      | dct l => cases l
      | int =>
        refine iteT ?_
        refine ⟨.int t, rfl, .int t, .ty "bool", _, .type "bool", _, rfl, .ty _, (show Any H (.int t) (.int t) from .int t).ty, kit_ty (kit_self (.inr (.inl rfl))), _, rfl, _, rfl, iteT ?_⟩
        refine ⟨.int lo, rfl, .int t, rfl, lo, t, rfl, rfl, _, rfl, ite2 (fun e => ?_) (fun e => ?_)⟩
        · refine ⟨.int hi, rfl, t, hi, rfl, rfl, ?_⟩
          have e : lo ≤ t := by simpa using e
          have e2 : numD lo hi (.int t) = decide (t ≤ hi) := by simp [numD, e]
          rw [e2] at q
          exact q
        · have e : ¬ lo ≤ t := by simpa using e
          have e2 : numD lo hi (.int t) = false := by simp [numD, e]
          rw [e2] at q
          exact q
    | bool b =>
      refine iteT ?_
      refine ⟨v, rfl, v, .ty "bool", _, .type "bool", _, rfl, .ty _, an.ty, kit_ty (kit_self (.inr (.inl rfl))), _, rfl, _, rfl, ?_⟩
      exact iteF q
    | none => exact iteF q
    | str x => exact iteF q
    | list l => exact iteF q
    | tuple l => exact iteF q
    | dict l => exact iteF q
end
end Rd

set_option Elab.async false
set_option linter.all false
set_option maxRecDepth 100000
set_option maxHeartbeats 4000000
namespace Rd
open PySem PySem.Spec PyProof.Rows L2 Dt TL
abbrev sLgd : Stmt := topS 51
abbrev nLgd : List Str := ["many", "hues", "table", "draws", "hue"]
theorem scLgd : FnScope nLgd ["many", "hues", "table"] (defScope sLgd) := ⟨rfl, rfl, rfl, by decide +kernel, rfl, by decide +kernel, by decide +kernel⟩
abbrev sBtt : Stmt := topS 52
abbrev nBtt : List Str := ["well", "table", "hues", "way", "at", "found", "draws", "spot", "odd"]
theorem scBtt : FnScope nBtt ["well", "table", "hues"] (defScope sBtt) := ⟨rfl, rfl, rfl, by decide +kernel, rfl, by decide +kernel, by decide +kernel⟩
/-- the three are places, hues and a table -/
def begD (dm dh dt : PyData) : Bool := sizD dm dh && tabD (intD dm) (intD dh) dt
def spLgA : Sp := fun vs H Q _ => ∃ (vm vh vt : V) (dm dh dt : PyData), vs = [vm, vh, vt] ∧ Any H vm dm ∧ Any H vh dh ∧ Any H vt dt ∧ FewT dt ∧ ∀ H', Same H H' → Q (.bl (begD dm dh dt)) H'
structure TxtLg (P : Program) (w : World) (K : PySem.W.Frag) (mg : Str → Option Value) (base : Heap) : Prop where
  m_isinstance : mg "isinstance" = none
  m_list : mg "list" = none
  m_len : mg "len" = none
  c__law_whole : Cal P w K mg base 1 "_law_whole" ["thing", "low", "high"] spLwA
  c__law_power : Cal P w K mg base 1 "_law_power" ["number", "many"] spPow
section
variable {P : Program} {w : World} {K : PySem.W.Frag} {mg : Str → Option Value} {base : Heap}
theorem ok_lgA {f : Addr} {fd : FuncData} {k : Nat} (F : Fun K "_law_good" "_law_good" sLgd f fd) (T : TxtLg P w K mg base) : FnOk P w K mg base CX0 (k + 2) f fd ["many", "hues", "table"] spLgA := by
  refine F.ok scLgd (fun vs H Q E h => ?_) (fun cdv A outer s H vs Q E hr h => ?_)
  · obtain ⟨vm, vh, vt, dm, dh, dt, rfl, _⟩ := h
    rfl
  · obtain ⟨vm, vh, vt, dm, dh, dt, rfl, am, ah, at_, few, q⟩ := h
    refine ⟨_, (pss_cons (ps_if (PW.pt (pw_or (pt_not (pt_val (pe_cal T.c__law_whole (hr.mono (by omega)) (by rfl) (pa_cons (pv 0) (pa_cons pe_int (pa_cons pe_int pa_nil)))))) (pw_or (pt_not (pt_val (pe_cal T.c__law_whole (hr.mono (by omega)) (by rfl) (pa_cons (pv 1) (pa_cons pe_int (pa_cons pe_int pa_nil)))))) (pw_or1 (pt_cmpR op_gt (pe_cal T.c__law_power (hr.mono (by omega)) (by rfl) (pa_cons (pv 1) (pa_cons (pv 0) pa_nil))) pe_int (nomark _))))))
  (pss_one (ps_ret pe_bl)) pss_nil)
  (pss_cons (ps_if (PW.pt (pw_or (pt_not (pt_val (pe_callB call_isi (by rfl) T.m_isinstance (by decide +kernel) (pa_cons (pv 2) (pa_cons (pe_bltn (v := .ty "list") (by rfl) T.m_list (by decide +kernel) rfl) pa_nil))))) (pw_or1 (pt_cmpR op_ne (pe_callB call_len_seq (by rfl) T.m_len (by decide +kernel) (pa_cons (pv 2) pa_nil)) (pv 0) (nomark _)))))
  (pss_one (ps_ret pe_bl)) pss_nil)
  (pss_cons (ps_for PassesOwn.never rfl (pi_list (pv 2)) (pg_name (i := 3) scLgd.nd rfl (Or.inl rfl))
  (pss_cons (ps_if (PW.pt (pw_or (pt_not (pt_val (pe_callB call_isi (by rfl) T.m_isinstance (by decide +kernel) (pa_cons (pv 3) (pa_cons (pe_bltn (v := .ty "list") (by rfl) T.m_list (by decide +kernel) rfl) pa_nil))))) (pw_or1 (pt_cmpR (op_eqE hr.units) (pv 3) (pe_lst pa_nil) (nomark _)))))
  (pss_one (ps_ret pe_bl)) pss_nil)
  (pss_one (ps_if (pt_cmpR (op_neE hr.units) (pe_lc (te := tVar 4) (own := [("hue", 4)]) rfl scLgd.nd  (pi_list (pv 3)) (blkOk_by (own := [("hue", 4)]) (N := nLgd) (sc := defScope sLgd) (by decide +kernel))
   (fun _ _ _ _ _ => (pg_name (i := 4) scLgd.nd rfl (Or.inl rfl))) (fun _ _ _ _ _ => pts_one (pt_not (pt_val (pe_cal T.c__law_whole (hr.mono (by omega)) (by rfl) (pa_cons (pv 4) (pa_cons pe_int (pa_cons (pe_op op_sub (pv 1) pe_int) pa_nil))))))) (fun _ _ _ _ _ => (pv 4))) (pe_lst pa_nil) (nomark _))
  (pss_one (ps_ret pe_bl)) pss_nil))))
  (pss_one (ps_ret pe_bl))))), ?_⟩
    have no : (numD 1 6 dm = false ∨ numD 2 4 dh = false) → begD dm dh dt = false := fun h => by
      have e : sizD dm dh = false := by
        cases dm with
        | int m =>
          cases dh with
          | int n =>
            show sizeOk m n = false
            unfold sizeOk
            rcases h with h | h
            · have h : decide (1 ≤ m ∧ m ≤ 6) = false := h
              rw [h, Bool.false_and, Bool.false_and]
            · have h : decide (2 ≤ n ∧ n ≤ 4) = false := h
              rw [h, Bool.and_false, Bool.false_and]
          | _ => rfl
        | _ => rfl
      unfold begD
      rw [e, Bool.false_and]
    refine ⟨vm, rfl, vm, dm, 1, 6, rfl, am, _, rfl, ?_⟩
    cases h1 : numD 1 6 dm with
    | false =>
      rw [no (.inl h1)] at q
      exact iteT (q _ (Same.refl H))
    | true =>
    refine iteF ⟨vh, rfl, vh, dh, 2, 4, rfl, ah, _, rfl, ?_⟩
    cases h2 : numD 2 4 dh with
    | false =>
      rw [no (.inr h2)] at q
      exact iteT (q _ (Same.refl H))
    | true =>
    cases dm with
    | int m =>
      cases dh with
      | int n =>
        have h1 : decide (1 ≤ m ∧ m ≤ 6) = true := h1
        have h2 : decide (2 ≤ n ∧ n ≤ 4) = true := h2
        have g1 := of_decide_eq_true h1
        have g2 := of_decide_eq_true h2
        cases am with
        | dct l => cases l
        | int =>
          cases ah with
          | dct l => cases l
          | int =>
            refine iteF ⟨.int n, rfl, .int m, rfl, n, m, rfl, by omega, by omega, by omega, by omega, _, _, rfl, rfl, _, rfl, ?_⟩
            have e : sizD (.int m) (.int n) = decide (n ^ m.toNat ≤ 256) := by
              show sizeOk m n = _
              unfold sizeOk
              rw [h1, h2, Bool.true_and, Bool.true_and]
            have q : ∀ H', Same H H' → Q (.bl (decide (n ^ m.toNat ≤ 256) && tabD m n dt)) H' := by
              rw [← e]
              exact q
            refine ite2 (fun e1 => ?_) (fun e1 => ?_)
            · have e1 : ¬ n ^ m.toNat ≤ 256 := by
                have : 256 < n ^ m.toNat := by simpa using e1
                omega
              rw [decide_eq_false e1, Bool.false_and] at q
              exact q _ (Same.refl H)
            have e1 : n ^ m.toNat ≤ 256 := by
              have : ¬ 256 < n ^ m.toNat := by simpa using e1
              omega
            rw [decide_eq_true e1, Bool.true_and] at q
            refine ⟨vt, rfl, vt, .ty "list", _, .type "list", _, rfl, .ty _, at_.ty, kit_ty (kit_self (by decide)), _, rfl, ?_⟩
            cases dt with
            | list l =>
              refine iteF ?_
              cases at_ with
              | dct l => cases l
              | @lst ta xs _ hta _ al =>
                have ll := al.len
                refine ⟨.ref ta, rfl, ta, xs, rfl, .inl (.inl (.inl hta)), .int m, rfl, rfl, _, rfl, ite2 (fun e2 => ?_) (fun e2 => ?_)⟩
                · have e3 : ¬ (l.length : Int) = m := by
                    have : ¬ (xs.length : Int) = m := by simpa using e2
                    rw [← ll]; exact this
                  have e4 : tabD m n (.list l) = false := by
                    show (decide ((l.length : Int) = m) && _) = false
                    rw [decide_eq_false e3, Bool.false_and]
                  rw [e4] at q
                  exact q _ (Same.refl H)
                have e3 : (l.length : Int) = m := by
                  have : (xs.length : Int) = m := by simpa using e2
                  rw [← ll]; exact this
                have e4 : tabD m n (.list l) = l.all (drwD n) := by
                  show (decide ((l.length : Int) = m) && _) = _
                  rw [decide_eq_true e3, Bool.true_and]
                rw [e4] at q
                refine ⟨.ref ta, rfl, ta, rfl, ⟨_, .inl (.inl hta)⟩, for_list (xs := xs) (fun i σ H' => Same H H' ∧ (l.take i).all (drwD n) = true ∧ ∃ y3, σ = [some (.int m), some (.int n), some (.ref ta), y3, none]) ⟨Same.refl H, rfl, none, rfl⟩ (fun i σ H' _ p => .inl (.inl (p.1 _ _ hta))) (fun i x σ H' hx p => ?_) (fun σ H' p => ?_)⟩
                · obtain ⟨s1, ok, y3, rfl⟩ := p
                  obtain ⟨d, ed0, ad⟩ := al.get hx
                  have ad1 := ad.up (NoTb.same s1)
                  have mem := List.mem_of_getElem? ed0
                  have out : drwD n d = false → l.all (drwD n) = false := fun e => all_no mem e
                  refine ⟨_, rfl, x, .ty "list", _, .type "list", _, rfl, .ty _, ad1.ty, kit_ty (kit_self (by decide)), _, rfl, ?_⟩
                  cases d with
                  | list r =>
                    refine iteF ?_
                    cases ad1 with
                    | dct l => cases l
                    | @lst da ys _ hda _ al1 =>
                      have lr := al1.len
                      refine ⟨.ref da, rfl, (by show 0 ≤ sizeLine; decide), fun e ne => ⟨da, e, ys, rfl, rfl, .inl (.inl (same_upd ne _ _ hda)), .inl (.inl upd_same), _, rfl, ?_⟩⟩
                      have s2 := s1.trans (same_upd (o := .lst []) ne)
                      have ed : drwD n (.list r) = (decide (r.length ≠ 0) && r.all (numD 0 (n - 1))) := rfl
                      cases ez : ys.isEmpty with
                      | true =>
                        have z : r.length = 0 := by rw [← lr]; simpa using ez
                        have e5 : drwD n (.list r) = false := by rw [ed, z]; rfl
                        exact iteT (by rw [out e5] at q; exact q _ s2)
                      | false =>
                        refine iteF ?_
                        have rn : r.length ≠ 0 := by
                          rw [← lr]
                          intro z
                          rw [List.length_eq_zero_iff.mp z] at ez
                          cases ez
                        have e5 : drwD n (.list r) = r.all (numD 0 (n - 1)) := by rw [ed, decide_eq_true rn, Bool.true_and]
                        have r1000 : r.length ≤ 1000 := few _ mem r rfl
                        have hda2 := same_upd (o := .lst []) ne _ _ hda
                        have s9 : Same H' (upd H' e (.lst [])) := same_upd ne
                        generalize upd H' e (.lst []) = H2 at s2 hda2 s9
                        refine ⟨.ref da, rfl, da, rfl, ⟨_, .inl (.inl hda2)⟩, fun D nD => ?_⟩
                        refine lc_list (K := K) (a := da) (xs := ys) (fun j H5 => Same H2 H5 ∧ ∃ zs : List V, H5 D = some (.lst zs) ∧ zs.length ≤ j ∧ zs.isEmpty = (r.take j).all (numD 0 (n - 1))) ⟨same_upd nD, [], upd_same, Nat.le_refl _, rfl⟩ (fun j H5 _ p => .inl (.inl (p.1 _ _ hda2))) (fun j x H5 hx p => ?_) (fun H5 p => ?_)
                        · obtain ⟨s5, zs, hD, lz, ze⟩ := p
                          obtain ⟨d, ed, ad⟩ := al1.get hx
                          have ad5 := ad.up (NoTb.same (s9.trans s5))
                          refine ⟨rfl, x, rfl, .int n, rfl, n, 1, rfl, rfl, x, d, 0, n - 1, rfl, ad5, _, rfl, ?_⟩
                          have et : (r.take (j + 1)).all (numD 0 (n - 1)) = ((r.take j).all (numD 0 (n - 1)) && numD 0 (n - 1) d) := by
                            rw [take_snoc ed, List.all_append]
                            show (_ && (numD 0 (n - 1) d && true)) = _
                            rw [Bool.and_true]
                          cases eb : numD 0 (n - 1) d with
                          | true =>
                            refine iteF ⟨s5, zs, hD, by omega, ?_⟩
                            rw [et, eb, Bool.and_true, ze]
                          | false =>
                            have jl := (List.getElem?_eq_some_iff.mp ed).1
                            refine iteT ⟨x, rfl, _, hD, ?_, fun b o e => ?_, _, upd_same, ?_, ?_⟩
                            · exact small1000 (by omega)
                            · rw [upd_ne (ne_of_none e nD)]
                              exact s5 b o e
                            · rw [List.length_append]
                              exact Nat.succ_le_succ lz
                            · rw [et, eb, Bool.and_false]
                              cases zs <;> rfl
                        · obtain ⟨s5, zs, hD, lz, ze⟩ := p
                          refine ⟨(by show 0 ≤ sizeLine; decide), fun e2 ne2 => ⟨D, e2, zs, rfl, rfl, .inl (.inl (same_upd ne2 _ _ hD)), .inl (.inl upd_same), _, rfl, ?_⟩⟩
                          have s6 := (s2.trans s5).trans (same_upd (o := .lst []) ne2)
                          rw [lr, List.take_length] at ze
                          cases ez2 : zs.isEmpty with
                          | false =>
                            rw [ez2] at ze
                            refine iteT ?_
                            rw [out (by rw [e5, ← ze])] at q
                            exact q _ s6
                          | true =>
                            rw [ez2] at ze
                            refine iteF ⟨s6, ?_, _, rfl⟩
                            rw [take_snoc ed0, List.all_append, ok]
                            show (true && (drwD n (.list r) && true)) = true
                            rw [e5, ← ze]
                            rfl
                  | none => exact iteT (by rw [out rfl] at q; exact q _ s1)
                  | bool b => exact iteT (by rw [out rfl] at q; exact q _ s1)
                  | int i => exact iteT (by rw [out rfl] at q; exact q _ s1)
                  | str z => exact iteT (by rw [out rfl] at q; exact q _ s1)
                  | tuple l => exact iteT (by rw [out rfl] at q; exact q _ s1)
                  | dict l => exact iteT (by rw [out rfl] at q; exact q _ s1)
                · obtain ⟨s1, ok, y3, rfl⟩ := p
                  have : l.all (drwD n) = true := by
                    rw [ll, List.take_length] at ok
                    exact ok
                  rw [this] at q
                  exact q _ s1
            | none => exact iteT (q _ (Same.refl H))
            | bool b => exact iteT (q _ (Same.refl H))
            | int i => exact iteT (q _ (Same.refl H))
            | str z => exact iteT (q _ (Same.refl H))
            | tuple l => exact iteT (q _ (Same.refl H))
            | dict l => exact iteT (q _ (Same.refl H))
      | _ => exact nomatch h2
    | _ => exact nomatch h1
end
end Rd

set_option Elab.async false
set_option linter.all false
set_option maxRecDepth 100000
set_option maxHeartbeats 4000000
namespace Rd
open PySem PySem.Spec PyProof.Rows L2 Dt TL
theorem AnAll.set {Av : Addr → Prop} {H : Hp} {v : V} {d : PyData} (a : An Av H v d) : ∀ {vs : List V} {ds : List PyData} (i : Nat), AnAll Av H vs ds → AnAll Av H (vs.set i v) (ds.set i d)
  | _, _, _, .nil => .nil
  | _, _, 0, .cons _ t => .cons a t
  | _, _, i + 1, .cons h t => .cons h (AnAll.set a i t)
theorem cutI_from (xs : List V) (k : Nat) : cutV xs (some (k : Int)) none = xs.drop k := by
  have z := cut_from (id : V → V) xs k
  rwa [List.map_id, List.map_id] at z
theorem cutI_to (xs : List V) (k : Nat) : cutV xs none (some (k : Int)) = xs.take k := by
  have z := cut_to (id : V → V) xs k
  rwa [List.map_id, List.map_id] at z
theorem NoTb.put {Bv : Addr → Prop} {H : Hp} {fa : Addr} {xs : List V} {o : HO} (e : H fa = some (.lst xs)) (b : Bv fa) : NoTb Bv H (upd H fa o) := fun c o' n m h => by
  by_cases z : c = fa
  · rw [z, e] at h
    exact (m ⟨xs, (Option.some.inj h).symm, by rw [z]; exact b⟩).elim
  · rw [upd_ne z]
    exact h
/-- a row that may stand in a bent table -/
structure RowB (x : PyData) : Prop where
  fx : FX x 5 9000
  el : ∀ r, x = .list r → r.length ≤ 1000 ∧ ∀ y ∈ r, FX y 4 8
structure BtD (n : Nat) (d : PyData) : Prop where
  fx : FX d 6 90000
  el : ∀ l, d = .list l → l.length ≤ n ∧ ∀ x ∈ l, RowB x
theorem FXA.all {ds : List PyData} {n w : Nat} (h : ∀ x ∈ ds, FX x n w) : FXA ds n (ds.length * (w + 1)) := by
  have z := FXA.map (f := id) ds h
  rwa [List.map_id] at z
theorem RowB.of {r : List PyData} (l : r.length ≤ 1000) (h : ∀ y ∈ r, FX y 4 8) : RowB (.list r) := ⟨(FX.list (FXA.all h)).mono (Nat.le_refl _) (by omega), fun r' e => by cases e; exact ⟨l, h⟩⟩
theorem BtD.of {n : Nat} {l : List PyData} (n9 : n ≤ 9) (ll : l.length ≤ n) (h : ∀ x ∈ l, RowB x) : BtD n (.list l) := ⟨(FX.list (FXA.all fun x hx => (h x hx).fx)).mono (Nat.le_refl _) (by omega), fun l' e => by cases e; exact ⟨ll, h⟩⟩
theorem BtD.leaf {n : Nat} {d : PyData} (h : FX d 4 100) (no : ∀ l, d ≠ .list l) : BtD n d := ⟨h.mono (by decide) (by decide), fun l e => (no l e).elim⟩
theorem RowB.leaf {d : PyData} (h : FX d 4 8) (no : ∀ l, d ≠ .list l) : RowB d := ⟨h.mono (by decide) (by decide), fun l e => (no l e).elim⟩
/-- [..][_law_draw(well, m)] -/
theorem pick_ten {K : PySem.W.Frag} {te : TE} {Av : Addr → Prop} {ds : List PyData} {m : Int} {σ : L2.St} {H : Hp} {wl cl : Addr} {Q : VK} (t : TEn Av te σ H (.list ds)) (hw : σ[0]? = some (some (.ref wl))) (W : Well H wl cl) (aw : Av wl) (ac : Av cl) (em : (ds.length : Int) = m) (m1 : 1 ≤ m) (m2 : m ≤ 1000)
    (q : ∀ H' v d, Drawn wl cl H H' → d ∈ ds → An Av H' v d → Q v H') : tOp (rIxL K) te (tCall spDraw [] E0 (tCons (tVar 0) (tCons (tC (.int m)) tNil))) σ H Q := by
  refine t H _ (Same.refl H) fun H1 v s1 an => ?_
  refine ⟨.ref wl, hw, wl, cl, m, rfl, W.same s1, m1, log_small (by omega) (by omega), fun H2 d D2 d0 d1 => ?_⟩
  have D := (Drawn.refl W).same s1 |>.trans D2
  cases an with
  | dct l => cases l
  | @lst b xs _ hb nb al =>
    have lx := al.len
    obtain ⟨x, ex⟩ : ∃ x, xs[d.toNat]? = some x := ⟨_, List.getElem?_eq_getElem (by omega)⟩
    obtain ⟨y, ey, ay⟩ := al.get ex
    have e9 : ((d.toNat : Nat) : Int) = d := by omega
    have hat : atI xs d = some x := by rw [← e9]; exact atI_nat ex
    have hb2 := D2.lst ((Drawn.refl W).same s1 |>.2 |> fun _ => (show b ≠ wl ∧ b ≠ cl from ⟨fun z => nb (by rw [z]; exact aw), fun z => nb (by rw [z]; exact ac)⟩)) hb
    exact ⟨b, xs, d, x, rfl, rfl, .inl (.inl hb2), hat, q _ _ _ D (List.mem_of_getElem? ey) (ay.up (D2.noTb (W.same s1) aw ac))⟩
def spBtA : Sp := fun vs H Q _ => ∃ (Av : Addr → Prop) (wl cl : Addr) (vt vh : V) (dt dh : PyData) (n : Nat), vs = [.ref wl, vt, vh] ∧ Well H wl cl ∧ (∀ b, Av b → Old H b) ∧ Av wl ∧ Av cl ∧ An Av H vt dt ∧ An Av H vh dh ∧ BtD n dt ∧ n ≤ 8 ∧
  ∀ H' v' dt', Drawn wl cl H H' → An Av H' v' dt' → BtD (n + 1) dt' → Q v' H'
structure TxtBt (P : Program) (w : World) (K : PySem.W.Frag) (mg : Str → Option Value) (base : Heap) : Prop where
  m_isinstance : mg "isinstance" = none
  m_list : mg "list" = none
  m_tuple : mg "tuple" = none
  m_int : mg "int" = none
  m_len : mg "len" = none
  c__law_draw : Cal P w K mg base 1 "_law_draw" ["well", "many"] spDraw
  c__law_odd : Cal P w K mg base 2 "_law_odd" ["well", "high"] spOdA
section
variable {P : Program} {w : World} {K : PySem.W.Frag} {mg : Str → Option Value} {base : Heap}
theorem bent_any {Av : Addr → Prop} {D : Ends} {σ : L2.St} {H : Hp} {wl cl : Addr} {n : Nat} (hw : σ[0]? = some (some (.ref wl))) (W : Well H wl cl) (hav : ∀ b, Av b → Old H b) (aw : Av wl) (ac : Av cl) (n1 : 1 ≤ n) (n9 : n ≤ 9)
    (q : ∀ H' v d, Drawn wl cl H H' → An Av H' v d → BtD n d → D.rt v H') :
    tRet (tOp (rIxL K) (tLst (tCons (tC .non) (tCons (tTup tNil) (tCons (tLst tNil) (tCons (tC (.str (Str.ofString "0"))) (tCons (tC (.int 5)) (tCons (tC (.bl true)) (tCons tDNewK (tCons (tLst (tCons (tLst tNil) tNil)) (tCons (tLst (tCons (tC .non) tNil)) tNil)))))))))) (tCall spDraw [] E0 (tCons (tVar 0) (tCons (tC (.int 9)) tNil)))) D σ H := by
  show tOp _ _ _ σ H D.rt
  have e0 : TEn Av (tLst tNil) σ H (.list []) := ten_lst hav tan_nil (by decide)
  refine pick_ten (Av := Av) (ds := [.none, .tuple [], .list [], .str (Str.ofString "0"), .int 5, .bool true, .dict [], .list [.list []], .list [.none]])
    (ten_lst hav (tan_cons ten_non <| tan_cons (ten_tup tan_nil (by decide)) <| tan_cons e0 <| tan_cons (ten_str _) <| tan_cons (ten_int 5) <| tan_cons (ten_bl true) <| tan_cons ten_d0 <| tan_cons (ten_lst hav (tan_cons e0 tan_nil) (by decide)) <| tan_cons (ten_lst hav (tan_cons ten_non tan_nil) (by decide)) tan_nil) (by decide))
    hw W aw ac rfl (by decide) (by decide) (fun H' v d D hd an => q H' v d D an ?_)
  have rn : RowB .none := RowB.leaf (FX.non.mono (by decide) (by decide)) (fun _ z => nomatch z)
  simp only [List.mem_cons, List.not_mem_nil, or_false] at hd
  rcases hd with rfl | rfl | rfl | rfl | rfl | rfl | rfl | rfl | rfl
  · exact BtD.leaf (FX.non.mono (by decide) (by decide)) (fun _ z => nomatch z)
  · exact BtD.leaf ((FX.tuple (FXA.nil 0)).mono (by decide) (by decide)) (fun _ z => nomatch z)
  · exact BtD.of n9 (Nat.zero_le _) (fun _ z => nomatch z)
  · exact BtD.leaf ((FX.str (w := 1) (by decide +kernel) (by decide +kernel)).mono (by decide) (by decide)) (fun _ z => nomatch z)
  · exact BtD.leaf ((FX.int (by decide)).mono (by decide) (by decide)) (fun _ z => nomatch z)
  · exact BtD.leaf ((FX.bl _).mono (by decide) (by decide)) (fun _ z => nomatch z)
  · exact BtD.leaf (FX.d0.mono (by decide) (by decide)) (fun _ z => nomatch z)
  · exact BtD.of n9 n1 (fun x hx => by rw [List.mem_singleton.mp hx]; exact RowB.of (Nat.zero_le _) (fun _ z => nomatch z))
  · exact BtD.of n9 n1 (fun x hx => by rw [List.mem_singleton.mp hx]; exact rn)
theorem row_any {Av : Addr → Prop} {σ : L2.St} {H : Hp} {wl cl : Addr} {Q : VK} (hw : σ[0]? = some (some (.ref wl))) (W : Well H wl cl) (hav : ∀ b, Av b → Old H b) (aw : Av wl) (ac : Av cl)
    (q : ∀ H' v d, Drawn wl cl H H' → An Av H' v d → RowB d → Q v H') :
    tOp (rIxL K) (tLst (tCons (tC .non) (tCons (tLst tNil) (tCons (tTup (tCons (tC (.int 0)) tNil)) (tCons (tC (.int 0)) (tCons (tC (.str (Str.ofString "0"))) tNil)))))) (tCall spDraw [] E0 (tCons (tVar 0) (tCons (tC (.int 5)) tNil))) σ H Q := by
  refine pick_ten (Av := Av) (ds := [.none, .list [], .tuple [.int 0], .int 0, .str (Str.ofString "0")])
    (ten_lst hav (tan_cons ten_non <| tan_cons (ten_lst hav tan_nil (by decide)) <| tan_cons (ten_tup (tan_cons (ten_int 0) tan_nil) (by decide)) <| tan_cons (ten_int 0) <| tan_cons (ten_str _) tan_nil) (by decide))
    hw W aw ac rfl (by decide) (by decide) (fun H' v d D hd an => q H' v d D an ?_)
  simp only [List.mem_cons, List.not_mem_nil, or_false] at hd
  rcases hd with rfl | rfl | rfl | rfl | rfl
  · exact RowB.leaf (FX.non.mono (by decide) (by decide)) (fun _ z => nomatch z)
  · exact RowB.of (Nat.zero_le _) (fun _ z => nomatch z)
  · exact RowB.leaf ((FX.tuple (FXA.cons fx0 (FXA.nil _))).mono (by decide) (by decide)) (fun _ z => nomatch z)
  · exact RowB.leaf (fx0.mono (by decide) (by decide)) (fun _ z => nomatch z)
  · exact RowB.leaf ((FX.str (w := 1) (by decide +kernel) (by decide +kernel)).mono (by decide) (by decide)) (fun _ z => nomatch z)
theorem small2000 {n : Nat} (h : n ≤ 2002) : n ≤ sizeLine := Nat.le_trans h (by decide)
theorem cut_in {K : PySem.W.Frag} {σ : L2.St} {H : Hp} {da : Addr} {ys : List V} {j : Nat} {v : V} {Q : VK} (h6 : σ[6]? = some (some (.ref da))) (h7 : σ[7]? = some (some (.int j))) (h8 : σ[8]? = some (some v)) (hda : H da = some (.lst ys)) (few : ys.length ≤ 1000)
    (q : ∀ H' p, Same H H' → H p = none → H' p = some (.lst (ys.take j ++ [v] ++ ys.drop (j + 1))) → Q (.ref p) H') :
    tOp rCat (tOp rCat (tSl (rSlL K) (tVar 6) tNoPart (tPart (tVar 7))) (tLst (tCons (tVar 8) tNil))) (tSl (rSlL K) (tVar 6) (tPart (tOp (rI0 fun i j => V.int (i + j)) (tVar 7) (tC (V.int 1)))) tNoPart) σ H Q := by
  have ej : ((j : Nat) : Int) + 1 = ((j + 1 : Nat) : Int) := by omega
  refine ⟨.ref da, h6, .int j, h7, j, rfl, da, ys, rfl, .inl (.inl hda), fun p1 np1 => ?_⟩
  rw [cutI_to]
  have s1 := same_upd (o := .lst (ys.take j)) np1
  have e1 : upd H p1 (.lst (ys.take j)) p1 = _ := upd_same
  generalize upd H p1 (.lst (ys.take j)) = H1 at s1 e1
  refine ⟨v, h8, (by show 0 + 1 ≤ sizeLine; decide), fun p2 np2 => ?_⟩
  have s2 := same_upd (o := .lst [v]) np2
  refine ⟨p1, p2, _, _, rfl, rfl, s2 _ _ e1, upd_same, by rw [List.length_take]; exact small2000 (by show _ + 1 ≤ 2002; omega), fun p3 np3 => ?_⟩
  have s3 := s2.trans (same_upd (o := .lst (ys.take j ++ [v])) np3)
  have e3 : upd (upd H1 p2 (.lst [v])) p3 (.lst (ys.take j ++ [v])) p3 = _ := upd_same
  generalize upd (upd H1 p2 (.lst [v])) p3 (.lst (ys.take j ++ [v])) = H3 at s3 e3
  refine ⟨.ref da, h6, .int j, h7, j, 1, rfl, rfl, (j : Int) + 1, rfl, da, ys, rfl, .inl (.inl ((s1.trans s3) _ _ hda)), fun p4 np4 => ?_⟩
  rw [ej, cutI_from]
  have s4 := same_upd (o := .lst (ys.drop (j + 1))) np4
  refine ⟨p3, p4, _, _, rfl, rfl, s4 _ _ e3, upd_same, by rw [List.length_append, List.length_take, List.length_drop]; exact small2000 (by show _ + 1 + _ ≤ 2002; omega), fun p5 np5 => ?_⟩
  have sN := (s1.trans s3).trans s4
  exact q _ p5 (sN.trans (same_upd np5)) (sN.free np5) upd_same
theorem retZ {te : TE} {D : Ends} {σ : L2.St} {H : Hp} (h : te σ H D.rt) : tRet te D σ H := h
theorem set_mem {α : Type} {l : List α} {i : Nat} {a x : α} (h : x ∈ l.set i a) : x ∈ l ∨ x = a := List.mem_or_eq_of_mem_set h
set_option maxHeartbeats 16000000 in
theorem ok_btA {f : Addr} {fd : FuncData} {k : Nat} (F : Fun K "_law_bent_table" "_law_bent_table" sBtt f fd) (T : TxtBt P w K mg base) : FnOk P w K mg base CX0 (k + 3) f fd ["well", "table", "hues"] spBtA := by
  refine F.ok scBtt (fun vs H Q E h => ?_) (fun cdv A outer s H vs Q E hr h => ?_)
  · obtain ⟨Av, wl, cl, vt, vh, dt, dh, n, rfl, _⟩ := h
    rfl
  · obtain ⟨Av, wl, cl, vt, vh, dt, dh, n, rfl, hW, hav, aw, ac, at_, ah, bt, n8, q⟩ := h
    refine ⟨_, (pss_cons (ps_set (i := 3) scBtt.nd rfl (Or.inl rfl) (pe_cal T.c__law_draw (hr.mono (by omega)) (by rfl) (pa_cons (pv 0) (pa_cons pe_int pa_nil))))
  (pss_cons (ps_if (PW.pt (pw_or (pt_not (pt_val (pe_callB call_isi (by rfl) T.m_isinstance (by decide +kernel) (pa_cons (pv 1) (pa_cons (pe_bltn (v := .ty "list") (by rfl) T.m_list (by decide +kernel) rfl) pa_nil))))) (pw_or (pt_cmpR (op_eqE hr.units) (pv 1) (pe_lst pa_nil) (nomark _)) (pw_or1 (pt_cmpR op_eq (pv 3) pe_int (nomark _))))))
  (pss_one (ps_ret (pe_ix ix_list (pe_lst (pa_cons pe_non (pa_cons (pe_tup pa_nil) (pa_cons (pe_lst pa_nil) (pa_cons pe_str (pa_cons pe_int (pa_cons pe_bl (pa_cons pe_dnewK (pa_cons (pe_lst (pa_cons (pe_lst pa_nil) pa_nil)) (pa_cons (pe_lst (pa_cons pe_non pa_nil)) pa_nil)))))))))) (pe_cal T.c__law_draw (hr.mono (by omega)) (by rfl) (pa_cons (pv 0) (pa_cons pe_int pa_nil))) (fun _ _ => rfl)))) pss_nil)
  (pss_cons (ps_set (i := 4) scBtt.nd rfl (Or.inl rfl) (pe_cal T.c__law_draw (hr.mono (by omega)) (by rfl) (pa_cons (pv 0) (pa_cons (pe_callB call_len_seq (by rfl) T.m_len (by decide +kernel) (pa_cons (pv 1) pa_nil)) pa_nil))))
  (pss_cons (ps_if (pt_cmpR op_eq (pv 3) pe_int (nomark _))
  (pss_one (ps_ret (pe_ix ix_list (pe_lst (pa_cons (pe_callTy call_tuple_of (by rfl) T.m_tuple (by decide +kernel) (pa_cons (pv 1) pa_nil)) (pa_cons (pe_op op_cat (pe_slice sl_list (pv 1) po_none (po_some (pv 4))) (pe_slice sl_list (pv 1) (po_some (pe_op op_add (pv 4) pe_int)) po_none)) (pa_cons (pe_op op_cat (pv 1) (pe_lst (pa_cons (pe_lst (pa_cons pe_int pa_nil)) pa_nil))) pa_nil)))) (pe_cal T.c__law_draw (hr.mono (by omega)) (by rfl) (pa_cons (pv 0) (pa_cons pe_int pa_nil))) (fun _ _ => rfl)))) pss_nil)
  (pss_cons (ps_set (i := 5) scBtt.nd rfl (Or.inl rfl) (pe_callTy call_list_of (by rfl) T.m_list (by decide +kernel) (pa_cons (pv 1) pa_nil)))
  (pss_cons (ps_set (i := 6) scBtt.nd rfl (Or.inl rfl) (pe_ix ix_list (pv 1) (pv 4) (fun _ _ => rfl)))
  (pss_cons (ps_if (PW.pt (pw_or (pt_not (pt_val (pe_callB call_isi (by rfl) T.m_isinstance (by decide +kernel) (pa_cons (pv 6) (pa_cons (pe_bltn (v := .ty "list") (by rfl) T.m_list (by decide +kernel) rfl) pa_nil))))) (pw_or (pt_cmpR (op_eqE hr.units) (pv 6) (pe_lst pa_nil) (nomark _)) (pw_or1 (pt_cmpR op_eq (pv 3) pe_int (nomark _))))))
  (pss_cons (ps_asg (pe_ix ix_list (pe_lst (pa_cons pe_non (pa_cons (pe_lst pa_nil) (pa_cons (pe_tup (pa_cons pe_int pa_nil)) (pa_cons pe_int (pa_cons pe_str pa_nil)))))) (pe_cal T.c__law_draw (hr.mono (by omega)) (by rfl) (pa_cons (pv 0) (pa_cons pe_int pa_nil))) (fun _ _ => rfl)) (pg_sub (pv 5) (pv 4) set_list))
  (pss_one (ps_ret (pv 5)))) pss_nil)
  (pss_cons (ps_set (i := 7) scBtt.nd rfl (Or.inl rfl) (pe_cal T.c__law_draw (hr.mono (by omega)) (by rfl) (pa_cons (pv 0) (pa_cons (pe_callB call_len_seq (by rfl) T.m_len (by decide +kernel) (pa_cons (pv 6) pa_nil)) pa_nil))))
  (pss_cons (ps_set (i := 8) scBtt.nd rfl (Or.inl rfl) (pe_cal T.c__law_odd (hr.mono (by omega)) (by rfl) (pa_cons (pv 0) (pa_cons pe_int pa_nil))))
  (pss_cons (ps_if (PW.pt (pw_and (pt_val (pe_callB call_isi (by rfl) T.m_isinstance (by decide +kernel) (pa_cons (pv 2) (pa_cons (pe_bltn (v := .ty "int") (by rfl) T.m_int (by decide +kernel) rfl) pa_nil)))) (pw_and1 (pt_chain op_ltB op_ltB pe_int (pv 2) pe_int))))
  (pss_one (ps_set (i := 8) scBtt.nd rfl (Or.inl rfl) (pe_cal T.c__law_odd (hr.mono (by omega)) (by rfl) (pa_cons (pv 0) (pa_cons (pe_op op_subB (pv 2) pe_int) pa_nil))))) pss_nil)
  (pss_cons (ps_asg (pe_op op_cat (pe_op op_cat (pe_slice sl_list (pv 6) po_none (po_some (pv 7))) (pe_lst (pa_cons (pv 8) pa_nil))) (pe_slice sl_list (pv 6) (po_some (pe_op op_add (pv 7) pe_int)) po_none)) (pg_sub (pv 5) (pv 4) set_list))
  (pss_one (ps_ret (pv 5)))))))))))))), ?_⟩
    have hav' : ∀ {H'}, Drawn wl cl H H' → ∀ b, Av b → Old H' b := fun {H'} D b hb z => hav b hb (D.free hW z)
    have fin : ∀ H1, Drawn wl cl H H1 → ∀ H' v d, Drawn wl cl H1 H' → An Av H' v d → BtD (n + 1) d → Q v H' := fun H1 D1 H' v d D a b => q H' v d (D1.trans D) a b
    refine ⟨.ref wl, rfl, wl, cl, 9, rfl, hW, by decide, by decide, fun H1 way D1 w0 w1 => ?_⟩
    refine ⟨vt, rfl, vt, .ty "list", _, .type "list", _, rfl, .ty _, (at_.up (D1.noTb hW aw ac)).ty, kit_ty (kit_self (by decide)), _, rfl, ?_⟩
    cases dt with
    | list l =>
      refine iteF ?_
      obtain ⟨ll, rb⟩ := bt.el l rfl
      cases at_ with
      | dct l => cases l
      | @lst ta xs _ hta nta al =>
        have lx := al.len
        have wn : ta ≠ wl ∧ ta ≠ cl := ⟨fun z => nta (by rw [z]; exact aw), fun z => nta (by rw [z]; exact ac)⟩
        have hta1 := D1.lst wn hta
        refine ⟨.ref ta, rfl, (by show 0 ≤ sizeLine; decide), fun e ne => ⟨ta, e, xs, rfl, rfl, .inl (.inl (same_upd ne _ _ hta1)), .inl (.inl upd_same), _, rfl, ?_⟩⟩
        have D2 := D1.same (same_upd (o := .lst []) ne)
        have hta2 := same_upd (o := .lst []) ne _ _ hta1
        generalize upd H1 e (.lst []) = H2 at D2 hta2
        cases ez : xs.isEmpty with
        | true => exact iteT (bent_any rfl D2.2 (hav' D2) aw ac (by omega) (by omega) (fin _ D2))
        | false =>
        refine iteF ⟨.int way, rfl, rfl, _, rfl, ite2 (fun e => bent_any rfl D2.2 (hav' D2) aw ac (by omega) (by omega) (fin _ D2)) (fun e => ?_)⟩
        have pos : 0 < xs.length := by
          cases xs with
          | nil => cases ez
          | cons => exact Nat.zero_lt_succ _
        refine ⟨.ref wl, rfl, .ref ta, rfl, ta, xs, rfl, .inl (.inl (.inl hta2)), wl, cl, _, rfl, D2.2, by omega, log_small (by omega) (by omega), fun H3 at3 D3 a0 a1 => ?_⟩
        have D4 := D2.trans D3
        have al4 := al.up (D4.noTb hW aw ac)
        have hta4 := D4.lst wn hta
        obtain ⟨j, rfl⟩ : ∃ j : Nat, at3 = j := ⟨at3.toNat, by omega⟩
        have jl : j < xs.length := by omega
        have ej : ((j : Nat) : Int) + 1 = ((j + 1 : Nat) : Int) := by omega
        have lle : l.length ≤ 8 := by omega
        refine ⟨.int way, rfl, rfl, _, rfl, ite2 (fun e => ?_) (fun e => ?_)⟩
        · refine retZ (pick_ten (Av := Av) (ds := [.tuple l, .list (l.take j ++ l.drop (j + 1)), .list (l ++ [.list [.int 0]])])
            (ten_lst (hav' D4) (tan_cons (fun H' Q' s' q' => ?_) <| tan_cons (fun H' Q' s' q' => ?_) <| tan_cons (fun H' Q' s' q' => ?_) tan_nil) (by show 3 ≤ 1000; decide)) rfl D4.2 aw ac rfl (by decide) (by decide) (fun H' v d D' hd an => fin _ D4 H' v d D' an ?_))
          · refine ⟨.ref ta, rfl, ta, xs, rfl, .inl ⟨.inl (.inl (s' _ _ hta4)), fun t nt => ?_⟩⟩
            exact q' _ _ (same_upd nt) (.tup upd_same (al4.up (NoTb.same (s'.trans (same_upd nt)))))
          · refine ⟨.ref ta, rfl, .int j, rfl, j, rfl, ta, xs, rfl, .inl (.inl (s' _ _ hta4)), fun p1 np1 => ?_⟩
            rw [cutI_to]
            have s1 := same_upd (o := .lst (xs.take j)) np1
            have h1 : upd H' p1 (.lst (xs.take j)) p1 = _ := upd_same
            generalize upd H' p1 (.lst (xs.take j)) = H1' at s1 h1
            refine ⟨.ref ta, rfl, .int j, rfl, j, 1, rfl, rfl, (j : Int) + 1, rfl, ta, xs, rfl, .inl (.inl ((s'.trans s1) _ _ hta4)), fun p2 np2 => ?_⟩
            rw [ej, cutI_from]
            have s2 := same_upd (o := .lst (xs.drop (j + 1))) np2
            refine ⟨p1, p2, _, _, rfl, rfl, s2 _ _ h1, upd_same, by rw [List.length_take, List.length_drop]; exact Nat.le_of_lt (small1000 (by omega)), fun p3 np3 => ?_⟩
            have s3 := (s1.trans s2).trans (same_upd (o := .lst (xs.take j ++ xs.drop (j + 1))) np3)
            exact q' _ _ s3 (.lst upd_same (fun z => hav' D4 _ z (s'.free ((s1.trans s2).free np3))) (((al4.take j).append (al4.drop (j + 1))).up (NoTb.same (s'.trans s3))))
          · refine ⟨.ref ta, rfl, (by show 0 + 1 ≤ sizeLine; decide), fun p1 np1 => ?_⟩
            have s1 := same_upd (o := .lst [V.int 0]) np1
            have h1 : upd H' p1 (.lst [V.int 0]) p1 = _ := upd_same
            generalize upd H' p1 (.lst [V.int 0]) = H1' at s1 h1
            refine ⟨(by show 0 + 1 ≤ sizeLine; decide), fun p2 np2 => ?_⟩
            have s2 := same_upd (o := .lst [V.ref p1]) np2
            refine ⟨ta, p2, _, _, rfl, rfl, ((s'.trans s1).trans s2) _ _ hta4, upd_same, Nat.le_of_lt (small1000 (by show xs.length + 1 ≤ 1000; omega)), fun p3 np3 => ?_⟩
            have s3 := (s1.trans s2).trans (same_upd (o := .lst (xs ++ [V.ref p1])) np3)
            have av : ∀ {b}, H' b = none → ¬ Av b := fun {b} z y => hav' D4 _ y (s'.free z)
            exact q' _ _ s3 (.lst upd_same (av ((s1.trans s2).free np3)) ((al4.up (NoTb.same (s'.trans s3))).append (.cons (.lst ((s2.trans (same_upd np3)) _ _ h1) (av np1) (.cons (.int 0) .nil)) .nil)))
          · simp only [List.mem_cons, List.not_mem_nil, or_false] at hd
            rcases hd with rfl | rfl | rfl
            · exact ⟨((FX.tuple (FXA.all fun x hx => (rb x hx).fx)).mono (Nat.le_refl _) (by omega)), fun _ z => nomatch z⟩
            · refine BtD.of (by omega) (by rw [List.length_append, List.length_take, List.length_drop]; omega) fun x hx => ?_
              rcases List.mem_append.mp hx with z | z
              · exact rb x (List.mem_of_mem_take z)
              · exact rb x (List.mem_of_mem_drop z)
            · refine BtD.of (by omega) (by rw [List.length_append]; show l.length + 1 ≤ _; omega) fun x hx => ?_
              rcases List.mem_append.mp hx with z | z
              · exact rb x z
              · rw [List.mem_singleton.mp z]
                exact RowB.of (by decide) (fun y hy => by rw [List.mem_singleton.mp hy]; exact fx0.mono (by decide) (by decide))
        refine ⟨.ref ta, rfl, ta, xs, rfl, .inl (.inl (.inl hta4)), fun fa nfa => ?_⟩
        have s5 := same_upd (o := .lst xs) nfa
        have hfa5 : upd H3 fa (.lst xs) fa = some (.lst xs) := upd_same
        have wfa := D4.2.new nfa
        have nfa0 := D4.free hW nfa
        have D5 := D4.same s5
        have hta5 := s5 _ _ hta4
        generalize upd H3 fa (.lst xs) = H5 at hfa5 D5 hta5
        have avf : ¬ Av fa := fun z => hav _ z nfa0
        obtain ⟨x, hx⟩ : ∃ x, xs[j]? = some x := ⟨_, List.getElem?_eq_getElem jl⟩
        obtain ⟨d, ed, ad⟩ := al.get hx
        have rd := rb d (List.mem_of_getElem? ed)
        have ad5 := ad.up (D5.noTb hW aw ac)
        have fin2 : ∀ H6, Drawn wl cl H5 H6 → ∀ H' v d, Drawn wl cl H6 H' → An (fun b => Av b ∨ b = fa) H' v d → RowB d → Q (.ref fa) (upd H' fa (.lst (xs.set j v))) := fun H6 D6 H' v d D7 a r => by
          have D' := (D5.trans D6).trans D7
          have hfa' := (D6.trans D7).lst wfa hfa5
          have Dp : Drawn wl cl H (upd H' fa (.lst (xs.set j v))) := D'.put nfa0 wfa
          refine q _ _ (.list (l.set j d)) Dp (.lst upd_same avf (AnAll.set ((a.up (NoTb.put hfa' (.inr rfl))).weak (fun b z => .inl z) d v) j (al.up (Dp.noTb hW aw ac)))) (BtD.of (by omega) (by rw [List.length_set]; omega) fun y hy => ?_)
          rcases set_mem hy with z | z
          · exact rb y z
          · rw [z]; exact r
        have havf : ∀ {H'}, Drawn wl cl H5 H' → ∀ b, (Av b ∨ b = fa) → Old H' b := fun {H'} D b hb => by
          rcases hb with z | z
          · exact hav' (D5.trans D) b z
          · intro y
            rw [z, D.lst wfa hfa5] at y
            cases y
        refine ⟨.ref ta, rfl, .int j, rfl, ta, xs, j, x, rfl, rfl, .inl (.inl hta5), atI_nat hx, ?_⟩
        refine ⟨x, rfl, x, .ty "list", _, .type "list", _, rfl, .ty _, ad5.ty, kit_ty (kit_self (by decide)), _, rfl, ?_⟩
        have D55 := Drawn.refl D5.2
        cases d with
        | none => exact iteT (seqZ (row_any rfl D55.2 (havf D55) (.inl aw) (.inl ac) (fun H' v d D' a r => ⟨.ref fa, rfl, .int j, rfl, fa, xs, j, j, rfl, rfl, (D55.trans D').lst wfa hfa5, ixN_of (by omega) (by omega), .ref fa, rfl, fin2 _ D55 H' v d D' a r⟩)))
        | bool b => exact iteT (seqZ (row_any rfl D55.2 (havf D55) (.inl aw) (.inl ac) (fun H' v d D' a r => ⟨.ref fa, rfl, .int j, rfl, fa, xs, j, j, rfl, rfl, (D55.trans D').lst wfa hfa5, ixN_of (by omega) (by omega), .ref fa, rfl, fin2 _ D55 H' v d D' a r⟩)))
        | int i => exact iteT (seqZ (row_any rfl D55.2 (havf D55) (.inl aw) (.inl ac) (fun H' v d D' a r => ⟨.ref fa, rfl, .int j, rfl, fa, xs, j, j, rfl, rfl, (D55.trans D').lst wfa hfa5, ixN_of (by omega) (by omega), .ref fa, rfl, fin2 _ D55 H' v d D' a r⟩)))
        | str z => exact iteT (seqZ (row_any rfl D55.2 (havf D55) (.inl aw) (.inl ac) (fun H' v d D' a r => ⟨.ref fa, rfl, .int j, rfl, fa, xs, j, j, rfl, rfl, (D55.trans D').lst wfa hfa5, ixN_of (by omega) (by omega), .ref fa, rfl, fin2 _ D55 H' v d D' a r⟩)))
        | tuple l => exact iteT (seqZ (row_any rfl D55.2 (havf D55) (.inl aw) (.inl ac) (fun H' v d D' a r => ⟨.ref fa, rfl, .int j, rfl, fa, xs, j, j, rfl, rfl, (D55.trans D').lst wfa hfa5, ixN_of (by omega) (by omega), .ref fa, rfl, fin2 _ D55 H' v d D' a r⟩)))
        | dict l => exact iteT (seqZ (row_any rfl D55.2 (havf D55) (.inl aw) (.inl ac) (fun H' v d D' a r => ⟨.ref fa, rfl, .int j, rfl, fa, xs, j, j, rfl, rfl, (D55.trans D').lst wfa hfa5, ixN_of (by omega) (by omega), .ref fa, rfl, fin2 _ D55 H' v d D' a r⟩)))
        | list r =>
          refine iteF ?_
          obtain ⟨lr, fr⟩ := rd.el r rfl
          cases ad with
          | dct l => cases l
          | @lst da ys _ hda nda al1 =>
            have ly := al1.len
            have wda : da ≠ wl ∧ da ≠ cl := ⟨fun z => nda (by rw [z]; exact aw), fun z => nda (by rw [z]; exact ac)⟩
            have hda5 := D5.lst wda hda
            refine ⟨.ref da, rfl, (by show 0 ≤ sizeLine; decide), fun e ne => ⟨da, e, ys, rfl, rfl, .inl (.inl (same_upd ne _ _ hda5)), .inl (.inl upd_same), _, rfl, ?_⟩⟩
            have D6 := D55.same (same_upd (o := .lst []) ne)
            have hda6 := same_upd (o := .lst []) ne _ _ hda5
            generalize upd H5 e (.lst []) = H6 at D6 hda6
            cases ez : ys.isEmpty with
            | true => exact iteT (seqZ (row_any rfl D6.2 (havf D6) (.inl aw) (.inl ac) (fun H' v d D' a r => ⟨.ref fa, rfl, .int j, rfl, fa, xs, j, j, rfl, rfl, (D6.trans D').lst wfa hfa5, ixN_of (by omega) (by omega), .ref fa, rfl, fin2 _ D6 H' v d D' a r⟩)))
            | false =>
            refine iteF ⟨.int way, rfl, rfl, _, rfl, ite2 (fun e => seqZ (row_any rfl D6.2 (havf D6) (.inl aw) (.inl ac) (fun H' v d D' a r => ⟨.ref fa, rfl, .int j, rfl, fa, xs, j, j, rfl, rfl, (D6.trans D').lst wfa hfa5, ixN_of (by omega) (by omega), .ref fa, rfl, fin2 _ D6 H' v d D' a r⟩))) (fun e => ?_)⟩
            have posr : 0 < ys.length := by
              cases ys with
              | nil => cases ez
              | cons => exact Nat.zero_lt_succ _
            refine ⟨.ref wl, rfl, .ref da, rfl, da, ys, rfl, .inl (.inl (.inl hda6)), wl, cl, _, rfl, D6.2, by omega, log_small (by omega) (by omega), fun H7 sp D7 p0 p1 => ?_⟩
            obtain ⟨j2, rfl⟩ : ∃ j : Nat, sp = j := ⟨sp.toNat, by omega⟩
            have D67 := D6.trans D7
            refine ⟨.ref wl, rfl, fun b => Av b ∨ b = fa, wl, cl, 3, rfl, D7.2, by decide, by decide, havf D67, .inl aw, .inl ac, fun H8 v8 d8 D8 a8 o8 => ?_⟩
            have last : ∀ H9 v9 d9, Drawn wl cl H5 H9 → An (fun b => Av b ∨ b = fa) H9 v9 d9 → OddD d9 → ∀ H' p, Same H9 H' → H9 p = none → H' p = some (.lst (ys.take j2 ++ [v9] ++ ys.drop (j2 + 1))) → Q (.ref fa) (upd H' fa (.lst (xs.set j (.ref p)))) ∧ H' fa = some (.lst xs) := fun H9 v9 d9 D9 a9 o9 H' p s np hp => by
              have more1 : AnAll (fun b => Av b ∨ b = fa) H ys r := An.moreAll (fun b z => z.elim .inl fun y => .inr (by rw [y]; exact nfa0)) r ys al1
              have more9 := more1.up (((D5.trans D9).noTb hW aw ac).weak fun b z => .inl z)
              have more9' := more9.up (NoTb.same s)
              refine ⟨fin2 _ (D9.same s) _ _ (.list (r.take j2 ++ [d9] ++ r.drop (j2 + 1))) (Drawn.refl (D9.same s).2) (.lst hp (fun z => havf D9 p z np) (((more9'.take j2).append (.cons (a9.up (NoTb.same s)) .nil)).append (more9'.drop (j2 + 1)))) (RowB.of ?_ fun y hy => ?_), (D9.same s).lst wfa hfa5⟩
              · simp only [List.length_append, List.length_take, List.length_drop, List.length_singleton]
                omega
              · rcases List.mem_append.mp hy with z | z
                · rcases List.mem_append.mp z with z | z
                  · exact fr y (List.mem_of_mem_take z)
                  · rw [List.mem_singleton.mp z]
                    exact o9.fx
                · exact fr y (List.mem_of_mem_drop z)
            have tail : ∀ H9 v9 d9 (σ : L2.St), Drawn wl cl H5 H9 → An (fun b => Av b ∨ b = fa) H9 v9 d9 → OddD d9 → σ[5]? = some (some (.ref fa)) → σ[4]? = some (some (.int j)) → σ[6]? = some (some (.ref da)) → σ[7]? = some (some (.int j2)) → σ[8]? = some (some v9) → ∀ {D : Ends}, D.rt = Q →
                tSeq (tAsg (tOp rCat (tOp rCat (tSl (rSlL K) (tVar 6) tNoPart (tPart (tVar 7))) (tLst (tCons (tVar 8) tNil))) (tSl (rSlL K) (tVar 6) (tPart (tOp (rI0 fun i j => V.int (i + j)) (tVar 7) (tC (V.int 1)))) tNoPart)) (gSub (tVar 5) (tVar 4) rSetL)) (tRet (tVar 5)) D σ H9 := fun H9 v9 d9 σ D9 a9 o9 e5 e4 e6 e7 e8 D eD => by
              refine seqZ (cut_in e6 e7 e8 (D9.lst wda hda5) (by omega) fun H' p s np hp => ?_)
              obtain ⟨z1, z2⟩ := last H9 v9 d9 D9 a9 o9 H' p s np hp
              exact ⟨.ref fa, e5, .int j, e4, fa, xs, j, j, rfl, rfl, z2, ixN_of (by omega) (by omega), .ref fa, e5, by rw [eD]; exact z1⟩
            have ah8 := ah.up (((D5.trans D67).trans D8).noTb hW aw ac)
            refine ⟨vh, rfl, vh, .ty "int", _, .type "int", _, rfl, .ty _, ah8.ty, kit_ty (kit_self (by decide)), _, rfl, ?_⟩
            generalize hb : (tyD dh == "int" || (tyD dh == "bool" && "int" == "int")) = b
            cases b with
            | false => exact iteF (tail H8 v8 d8 _ (D67.trans D8) a8 o8 rfl rfl rfl rfl rfl rfl)
            | true =>
              obtain ⟨i, num⟩ : ∃ i, NumV vh i := by
                cases dh with
                | int i =>
                  cases ah with
                  | int => exact ⟨i, .inl rfl⟩
                  | dct l => cases l
                | bool b =>
                  cases ah with
                  | bl => exact ⟨bI b, .inr ⟨b, rfl, rfl⟩⟩
                  | dct l => cases l
                | _ => exact absurd hb (by simp [tyD])
              have keep := tail H8 v8 d8
              refine iteT ⟨vh, rfl, 0, i, .inl ⟨rfl, num⟩, _, rfl, ite2 (fun e1 => ?_) (fun e1 => ?_)⟩
              · refine ⟨i, 9, .inr ⟨num, rfl⟩, _, rfl, ite2 (fun e2 => ?_) (fun e2 => tail H8 v8 d8 _ (D67.trans D8) a8 o8 rfl rfl rfl rfl rfl rfl)⟩
                have e1 : 0 < i := by simpa using e1
                have e2 : i < 9 := by simpa using e2
                refine ⟨.ref wl, rfl, vh, rfl, i, 1, num, rfl, fun b => Av b ∨ b = fa, wl, cl, i - 1, rfl, D8.2, by omega, by omega, havf (D67.trans D8), .inl aw, .inl ac, fun H9 v9 d9 D9 a9 o9 => ?_⟩
                exact tail H9 v9 d9 _ ((D67.trans D8).trans D9) a9 o9 rfl rfl rfl rfl rfl rfl
              · exact ⟨_, rfl, iteF (tail H8 v8 d8 _ (D67.trans D8) a8 o8 rfl rfl rfl rfl rfl rfl)⟩
    | none => exact iteT (bent_any rfl D1.2 (hav' D1) aw ac (by omega) (by omega) (fin _ D1))
    | bool b => exact iteT (bent_any rfl D1.2 (hav' D1) aw ac (by omega) (by omega) (fin _ D1))
    | int i => exact iteT (bent_any rfl D1.2 (hav' D1) aw ac (by omega) (by omega) (fin _ D1))
    | str z => exact iteT (bent_any rfl D1.2 (hav' D1) aw ac (by omega) (by omega) (fin _ D1))
    | tuple l => exact iteT (bent_any rfl D1.2 (hav' D1) aw ac (by omega) (by omega) (fin _ D1))
    | dict l => exact iteT (bent_any rfl D1.2 (hav' D1) aw ac (by omega) (by omega) (fin _ D1))
end
end Rd

set_option Elab.async false
set_option linter.all false
set_option maxRecDepth 100000
set_option maxHeartbeats 4000000
namespace Rd
open PySem PySem.Spec PyProof.Rows L2 Dt TL
abbrev sRfs : Stmt := topS 53
abbrev nRfs : List Str := ["many", "hues", "table", "caught", "e"]
theorem scRfs : FnScope nRfs ["many", "hues", "table"] (defScope sRfs) := ⟨rfl, rfl, rfl, by decide +kernel, rfl, by decide +kernel, by decide +kernel⟩
def spRfA (C : Addr) (Ps : List Addr) : Sp := fun vs H Q _ => ∃ (vm vh vt : V) (dm dh dt : PyData), vs = [vm, vh, vt] ∧ Tabs Ps H ∧ Any H vm dm ∧ Any H vh dh ∧ Any H vt dt ∧ FewT dt ∧ begD dm dh dt = false ∧ ∀ H', FrS Ps H H' → Q (.bl true) H'
structure TxtRf (P : Program) (w : World) (K : PySem.W.Frag) (mg : Str → Option Value) (base : Heap) (Ps : List Addr) (C : Addr) (Cs : Nat → Addr) : Prop extends ClsX K mg Cs where
  c_Keeper : MkCalX P w K mg base C 6 "Keeper" ["self", "many", "hues", "table"] (spKiA C Ps (Cs 5))
section
variable {P : Program} {w : World} {K : PySem.W.Frag} {mg : Str → Option Value} {base : Heap}
theorem ok_rfA {f C : Addr} {Cs : Nat → Addr} {Ps : List Addr} {fd : FuncData} {k : Nat} (F : Fun K "_law_refused" "_law_refused" sRfs f fd) (T : TxtRf P w K mg base Ps C Cs) : FnOk P w K mg base CX0 (k + 8) f fd ["many", "hues", "table"] (spRfA C Ps) := by
  refine F.ok scRfs (fun vs H Q E h => ?_) (fun cdv A outer s H vs Q E hr h => ?_)
  · obtain ⟨vm, vh, vt, dm, dh, dt, rfl, _⟩ := h
    rfl
  · obtain ⟨vm, vh, vt, dm, dh, dt, rfl, hT, am, ah, at_, few, bad, q⟩ := h
    refine ⟨_, (pss_cons (ps_set (i := 3) scRfs.nd rfl (Or.inl rfl) pe_non)
  (pss_cons (ps_try_keep (i := 4) rfl rfl rfl scRfs.nd rfl rfl ⟨by rfl, by decide, .inl T.g_DrawError⟩ takes0
  (fun W pn xe tk _ => (pss_one (ps_expr (pe_mkcalX T.c_Keeper (hr.mono (by omega)) tk (by rfl) (pa_cons (pv 0) (pa_cons (pv 1) (pa_cons (pv 2) pa_nil)))))))
  (fun a pn => (pss_one (ps_set (i := 3) scRfs.nd rfl (Or.inl rfl) (pv 4)))))
  (pss_cons (ps_if (pt_val (pe_callB call_isDT (by rfl) T.m_isinstance (by decide +kernel) (pa_cons (pv 3) (pa_cons (pe_tup (pa_cons (pe_gref (by rfl) T.g_NoEnd) (pa_cons (pe_gref (by rfl) T.g_NoLog) (pa_cons (pe_gref (by rfl) T.g_NoName) (pa_cons (pe_gref (by rfl) T.g_NoRow) (pa_cons (pe_gref (by rfl) T.g_NoStep) (pa_cons (pe_gref (by rfl) T.g_NoText) (pa_cons (pe_gref (by rfl) T.g_NoWish) (pa_cons (pe_gref (by rfl) T.g_Spent) (pa_cons (pe_gref (by rfl) T.g_Told) (pa_cons (pe_gref (by rfl) T.g_TooMany) pa_nil))))))))))) pa_nil))))
  (pss_one (ps_ret pe_bl)) pss_nil)
  (pss_one (ps_ret (pe_and (pe_callB call_isD (by rfl) T.m_isinstance (by decide +kernel) (pa_cons (pv 3) (pa_cons (pe_gref (by rfl) T.g_NoTable) pa_nil))) (pe_one (pe_callB call_isD (by rfl) T.m_isinstance (by decide +kernel) (pa_cons (pv 3) (pa_cons (pe_bltn (v := .ty "ValueError") (by rfl) T.m_ValueError (by decide +kernel) rfl) pa_nil)))))))))), ?_⟩
    refine ⟨vm, rfl, vh, rfl, vt, rfl, fun p dx np ndx ne => ?_⟩
    have s1 := same_upd (o := .own p) ndx
    have np1 : upd H dx (.own p) p = none := by rw [upd_ne (Ne.symm ne)]; exact np
    have s2 := s1.trans (same_upd (o := .ins C dx []) np1)
    have f2 : FrS Ps H (upd (upd H dx (.own p)) p (.ins C dx [])) := FrS.of hT s2
    have hp2 : upd (upd H dx (.own p)) p (.ins C dx []) p = some (.ins C dx []) := upd_same
    generalize upd (upd H dx (.own p)) p (.ins C dx []) = H2 at s2 f2 hp2
    refine ⟨p, dx, vm, vh, vt, dm, dh, dt, rfl, hp2, f2.2, am.up (NoTb.same s2), ah.up (NoTb.same s2), at_.up (NoTb.same s2), few, fun _ H3 f3 => ?_, fun z => ?_⟩
    · refine ⟨true, T.exm 5 (by decide), fun _ a na => ?_, fun z => nomatch z⟩
      have s4 := same_upd (o := ExD (.ref (Cs 5)) none a) na
      have f4 : FrS Ps H (upd H3 a (ExD (.ref (Cs 5)) none a)) := (f2.trans f3).trans (FrS.of f3.2 s4)
      have ha : upd H3 a (ExD (.ref (Cs 5)) none a) a = some (ExD (.ref (Cs 5)) none a) := upd_same
      generalize upd H3 a (ExD (.ref (Cs 5)) none a) = H4 at s4 f4 ha
      refine ⟨.ref a, rfl, ?_⟩
      refine ⟨.ref a, rfl, (by show 10 ≤ sizeLine; decide), fun tp ntp => ?_⟩
      have s5 := same_upd (o := .tup ([Cs 0, Cs 1, Cs 2, Cs 3, Cs 4, Cs 6, Cs 7, Cs 8, Cs 9, Cs 10].map V.ref)) ntp
      refine ⟨a, Cs 5, tp, [Cs 0, Cs 1, Cs 2, Cs 3, Cs 4, Cs 6, Cs 7, Cs 8, Cs 9, Cs 10], false, rfl, s5 _ _ ha, T.e 5 (by decide), .inl (.inl upd_same), kit_none fun c hc => ?_, false, rfl, iteF ?_⟩
      · simp only [List.map_cons, List.map_nil, List.mem_cons, List.not_mem_nil, or_false] at hc
        rcases hc with rfl | rfl | rfl | rfl | rfl | rfl | rfl | rfl | rfl | rfl
        · exact T.kit 5 (by decide) 0 (by decide)
        · exact T.kit 5 (by decide) 1 (by decide)
        · exact T.kit 5 (by decide) 2 (by decide)
        · exact T.kit 5 (by decide) 3 (by decide)
        · exact T.kit 5 (by decide) 4 (by decide)
        · exact T.kit 5 (by decide) 6 (by decide)
        · exact T.kit 5 (by decide) 7 (by decide)
        · exact T.kit 5 (by decide) 8 (by decide)
        · exact T.kit 5 (by decide) 9 (by decide)
        · exact T.kit 5 (by decide) 10 (by decide)
      have ha5 := s5 _ _ ha
      have f5 := f4.trans (FrS.of f4.2 s5)
      refine ⟨.ref a, rfl, a, Cs 5, _, _, true, rfl, ha5, T.e 5 (by decide), .own _, T.kit 5 (by decide) 5 (by decide), true, rfl, iteT ?_⟩
      refine ⟨.ref a, rfl, a, Cs 5, _, _, true, rfl, ha5, T.e 5 (by decide), .ty _, T.kitV 5 (by decide), ?_⟩
      exact q _ f5
    · rw [show (sizD dm dh && tabD (intD dm) (intD dh) dt) = false from bad] at z
      cases z
end
end Rd

set_option Elab.async false
set_option linter.all false
set_option maxRecDepth 100000
set_option maxHeartbeats 4000000
namespace Rd
open PySem PySem.Spec PyProof.Rows L2 Dt TL
abbrev sLaw : Stmt := topS 54
abbrev nLaw : List Str := ["script", "well", "turn", "times", "many", "hues", "table", "again", "way", "kept", "keeper", "draws"]
theorem scLaw : FnScope nLaw ["script"] (defScope sLaw) := ⟨rfl, rfl, rfl, by decide +kernel, rfl, by decide +kernel, by decide +kernel⟩
abbrev AvW (wl cl : Addr) : Addr → Prop := fun b => b = wl ∨ b = cl
theorem old_well {H : Hp} {wl cl : Addr} (W : Well H wl cl) : ∀ b, AvW wl cl b → Old H b := fun b hb => by
  obtain ⟨_, _, _, v1, v2, _⟩ := id W
  rcases hb with z | z
  · rw [z]; intro y; rw [y] at v1; cases v1
  · rw [z]; intro y; rw [y] at v2; cases v2
/-- places, hues and a table of any kind, and the well -/
structure St6 (Ps : List Addr) (wl cl : Addr) (n : Nat) (vm vh vt : V) (dm dh dt : PyData) (H : Hp) : Prop where
  well : Well H wl cl
  tabs : Tabs Ps H
  am : An (AvW wl cl) H vm dm
  ah : An (AvW wl cl) H vh dh
  at_ : An (AvW wl cl) H vt dt
  fm : FX dm 4 8
  fh : FX dh 4 8
  bt : BtD n dt
section
variable {Ps : List Addr} {wl cl : Addr} {n : Nat} {vm vh vt : V} {dm dh dt : PyData} {H H' : Hp}
theorem St6.noTb (S : St6 Ps wl cl n vm vh vt dm dh dt H) (w : Well H' wl cl) (t : Tabs Ps H') (k : NoTb (AvW wl cl) H H') : St6 Ps wl cl n vm vh vt dm dh dt H' := ⟨w, t, S.am.up k, S.ah.up k, S.at_.up k, S.fm, S.fh, S.bt⟩
theorem St6.drawn (S : St6 Ps wl cl n vm vh vt dm dh dt H) (D : Drawn wl cl H H') : St6 Ps wl cl n vm vh vt dm dh dt H' := S.noTb D.2 (D.tabs S.well S.tabs) (D.noTb S.well (.inl rfl) (.inr rfl))
theorem St6.same (S : St6 Ps wl cl n vm vh vt dm dh dt H) (s : Same H H') : St6 Ps wl cl n vm vh vt dm dh dt H' := S.noTb (S.well.same s) (S.tabs.same s) (NoTb.same s)
theorem St6.frs (S : St6 Ps wl cl n vm vh vt dm dh dt H) (f : FrS Ps H H') : St6 Ps wl cl n vm vh vt dm dh dt H' := S.noTb (f.well S.tabs S.well) f.2 (f.noTb S.tabs)
theorem BtD.few (b : BtD n dt) : FewT dt := by
  cases dt with
  | list l => exact fun x hx r e => (((b.el l rfl).2 x hx).el r e).1
  | _ => exact True.intro
theorem tab_an {Av : Addr → Prop} {ta : Addr} {tb : List (List Int)} (h : IsTab Av H ta tb) : An Av H (.ref ta) (listsD tb) := by
  obtain ⟨das, h1, h2, h3, h4⟩ := h
  refine .lst h1 h2 ?_
  clear h1 h2
  induction h4 with
  | nil => exact .nil
  | cons e t ih => exact .cons (.lst e (h3 _ List.mem_cons_self) (AnAll.ints _)) (ih fun d hd => h3 d (List.mem_cons_of_mem _ hd))
theorem tab_bt {many hues : Int} {tb : List (List Int)} (g : GoodT many hues tb) (m6 : many ≤ 6) (h4 : hues ≤ 4) : ∀ x ∈ tb.map (fun l : List Int => PyData.list (l.map .int)), RowB x := fun x hx => by
  obtain ⟨r, hr, rfl⟩ := List.mem_map.mp hx
  refine RowB.of (by rw [List.length_map]; exact g.few r hr) fun y hy => ?_
  obtain ⟨i, hi, rfl⟩ := List.mem_map.mp hy
  have := g.hue r hr i hi
  exact (FX.int (by omega)).mono (by decide) (by decide)
/-- [_law_odd(well, hi), 1 + _law_draw(well, m)][_law_draw(well, 2)] -/
theorem pick_odd {K : PySem.W.Frag} {σ : L2.St} {Q : VK} {hi m : Int} (hw : σ[1]? = some (some (.ref wl))) (W : Well H wl cl) (h0 : 0 ≤ hi) (h1 : hi ≤ 20) (m0 : 1 ≤ m) (m1 : m ≤ 100)
    (q : ∀ H' v d, Drawn wl cl H H' → An (AvW wl cl) H' v d → FX d 4 8 → Q v H') :
    tOp (rIxL K) (tLst (tCons (tCall spOdA [] E0 (tCons (tVar 1) (tCons (tC (.int hi)) tNil))) (tCons (tOp (rI0 fun i j => .int (i + j)) (tC (.int 1)) (tCall spDraw [] E0 (tCons (tVar 1) (tCons (tC (.int m)) tNil)))) tNil))) (tCall spDraw [] E0 (tCons (tVar 1) (tCons (tC (.int 2)) tNil))) σ H Q := by
  refine ⟨.ref wl, hw, AvW wl cl, wl, cl, hi, rfl, W, h0, h1, old_well W, .inl rfl, .inr rfl, fun H1 v1 d1 D1 a1 o1 => ?_⟩
  refine ⟨.ref wl, hw, wl, cl, m, rfl, D1.2, m0, log_small (by omega) (by omega), fun H2 i2 D2 i20 i21 => ⟨1, i2, rfl, rfl, (by show 2 ≤ sizeLine; decide), fun l nl => ?_⟩⟩
  have s3 := same_upd (o := .lst [v1, .int (1 + i2)]) nl
  have hl : upd H2 l (.lst [v1, .int (1 + i2)]) l = some (.lst [v1, .int (1 + i2)]) := upd_same
  have nw := D2.2.new nl
  have D3 := D2.same s3
  generalize upd H2 l (.lst [v1, .int (1 + i2)]) = H3 at s3 hl D3
  refine ⟨.ref wl, hw, wl, cl, 2, rfl, D3.2, by decide, by decide, fun H4 d4 D4 c0 c1 => ?_⟩
  have hl4 := D4.lst nw hl
  have D34 := D3.trans D4
  have : d4 = 0 ∨ d4 = 1 := by omega
  rcases this with rfl | rfl
  · exact ⟨l, _, 0, _, rfl, rfl, .inl (.inl hl4), atI_nat (j := 0) rfl, q _ _ _ (D1.trans D34) (a1.up (D34.noTb D1.2 (.inl rfl) (.inr rfl))) o1.fx⟩
  · exact ⟨l, _, 1, _, rfl, rfl, .inl (.inl hl4), atI_nat (j := 1) rfl, q _ _ _ (D1.trans D34) (.int _) ((FX.int (by omega)).mono (by decide) (by decide))⟩
end
theorem rep1 {α : Type} (n : Nat) (x : α) : (List.replicate n [x]).flatten = List.replicate n x := by
  induction n with
  | zero => rfl
  | succ n ih => rw [List.replicate_succ, List.flatten_cons, ih, List.replicate_succ]; rfl
theorem AnAll.rep {Av : Addr → Prop} {H : Hp} {v : V} {d : PyData} (a : An Av H v d) : ∀ n : Nat, AnAll Av H (List.replicate n v) (List.replicate n d)
  | 0 => .nil
  | n + 1 => .cons a (AnAll.rep a n)
theorem asgZ {te : TE} {g : TG} {D : Ends} {σ : L2.St} {H : Hp} (h : te σ H fun x H1 => g x σ H1 D.nx) : tAsg te g D σ H := h
theorem BtD.mono {n m : Nat} {d : PyData} (b : BtD n d) (h : n ≤ m) : BtD m d := ⟨b.fx, fun l e => ⟨Nat.le_trans (b.el l e).1 h, (b.el l e).2⟩⟩
theorem an_rows_tab {H : Hp} : ∀ {tb : List (List Int)} {xs : List V}, AnyAll H xs (tb.map fun l : List Int => PyData.list (l.map .int)) → ∃ das : List Addr, xs = das.map V.ref ∧ Paired (IsInts H) das tb
  | [], _, h => by cases h; exact ⟨[], rfl, .nil⟩
  | r :: t, _, h => by
    cases h with
    | cons a q =>
      obtain ⟨das, e1, e2⟩ := an_rows_tab q
      cases a with
      | dct l => cases l
      | @lst b ys _ hb _ al =>
        have ey : ys = r.map V.int := an_ints al
        subst ey
        exact ⟨b :: das, by rw [e1]; rfl, .cons hb e2⟩
theorem an_tab {H : Hp} {v : V} {tb : List (List Int)} (h : Any H v (listsD tb)) : ∃ (ta : Addr) (das : List Addr), v = .ref ta ∧ H ta = some (.lst (das.map V.ref)) ∧ Paired (IsInts H) das tb := by
  unfold listsD at h
  cases h with
  | dct l => cases l
  | @lst b ys _ hb _ al =>
    obtain ⟨das, e1, e2⟩ := an_rows_tab al
    exact ⟨b, das, rfl, by rw [hb, e1], e2⟩
theorem stand_firsts (tb : List (List Int)) : stand tb (zerosI tb.length) = tb.map fun ds => atF ds 0 := by
  unfold stand zerosI
  induction tb with
  | nil => rfl
  | cons d r ih =>
    show atF d 0 :: List.zipWith atF r (List.replicate r.length 0) = _
    rw [ih]
    rfl
structure TxtLa (P : Program) (w : World) (K : PySem.W.Frag) (mg : Str → Option Value) (base : Heap) (Ps : List Addr) (C D : Addr) : Prop extends KpCls K C where
  m_range : mg "range" = none
  m_repr : mg "repr" = none
  m_tuple : mg "tuple" = none
  c__law_well : Cal P w K mg base 1 "_law_well" ["script"] (spWell K)
  c__law_draw : Cal P w K mg base 1 "_law_draw" ["well", "many"] spDraw
  c__law_sizes : Cal P w K mg base 2 "_law_sizes" ["well"] spLsz
  c__law_table : Cal P w K mg base 2 "_law_table" ["well", "many", "hues", "most"] spLtb
  c__law_odd : Cal P w K mg base 2 "_law_odd" ["well", "high"] spOdA
  c__law_bent_table : Cal P w K mg base 3 "_law_bent_table" ["well", "table", "hues"] spBtA
  c__law_good : Cal P w K mg base 2 "_law_good" ["many", "hues", "table"] spLgA
  c__law_refused : Cal P w K mg base 8 "_law_refused" ["many", "hues", "table"] (spRfA C Ps)
  c_Keeper : MkCalX P w K mg base C 6 "Keeper" ["self", "many", "hues", "table"] (spKiA C Ps D)
  c_filling : MCal CX0 P w K mg base C 4 "filling" ["self"] (spKfi C Ps)
  c_names : MCal CX0 P w K mg base C 1 "names" ["self"] (spKna C)
  c_taken : MCal CX0 P w K mg base C 1 "taken" ["self"] (spKta C)
section
variable {P : Program} {w : World} {K : PySem.W.Frag} {mg : Str → Option Value} {base : Heap}
set_option maxHeartbeats 32000000 in
theorem body_law {fa a C D : Addr} {Ps : List Addr} {s : Shared} {H : Hp} {cdv : Value} {ns : List Int} (T : TxtLa P w K mg base Ps C D) (hl : ns.length ≤ 63) (hb : ∀ z ∈ ns, Builtin.Int.intBits z ≤ 1048576) (hT : Tabs Ps H) (hS : SqL K H a (ns.map V.int))
    (hr : Room 9 (callerA.deeper (envOfC (Str.ofString "law") (defScope sLaw) s.heap.objs.size fa cdv))) :
    ∃ t, PSs (cxOf CX0 P w K mg base nLaw (Str.ofString "law") (defScope sLaw) fa cdv callerA [] s H (fun _ _ _ => False)).nox (defBody sLaw) t ∧ t { nx := fun _ _ => False, rt := fun v _ => v = .bl true } (start nLaw [.ref a]) H := by
  have hg : (callerA.deeper (envOfC (Str.ofString "law") (defScope sLaw) s.heap.objs.size fa cdv)).guards = some [] := rfl
  refine ⟨_, (pss_cons (ps_set (i := 1) scLaw.nd rfl (Or.inl rfl) (pe_cal T.c__law_well (hr.mono (by omega)) (by rfl) (pa_cons (pv 0) pa_nil)))
  (pss_cons (ps_for PassesOwn.never rfl (pi_range1 (by rfl) T.m_range (pa_cons pe_int pa_nil)) (pg_name (i := 2) scLaw.nd rfl (Or.inl rfl))
  (pss_cons (ps_set (i := 3) scLaw.nd rfl (Or.inl rfl) (pe_ix ix_list (pe_lst (pa_cons pe_int (pa_cons pe_int (pa_cons pe_int (pa_cons pe_int (pa_cons pe_int (pa_cons pe_int (pa_cons pe_int (pa_cons pe_int pa_nil))))))))) (pe_cal T.c__law_draw (hr.mono (by omega)) (by rfl) (pa_cons (pv 1) (pa_cons pe_int pa_nil))) (fun _ _ => rfl)))
  (pss_cons (ps_asg (pe_cal T.c__law_sizes (hr.mono (by omega)) (by rfl) (pa_cons (pv 1) pa_nil)) (pg_tup rfl (pgs_cons (pg_name (i := 4) scLaw.nd rfl (Or.inl rfl)) (pgs_cons (pg_name (i := 5) scLaw.nd rfl (Or.inl rfl)) pgs_nil))))
  (pss_cons (ps_set (i := 6) scLaw.nd rfl (Or.inl rfl) (pe_cal T.c__law_table (hr.mono (by omega)) (by rfl) (pa_cons (pv 1) (pa_cons (pv 4) (pa_cons (pv 5) (pa_cons (pe_op op_add pe_int (pe_cal T.c__law_draw (hr.mono (by omega)) (by rfl) (pa_cons (pv 1) (pa_cons pe_int pa_nil)))) pa_nil))))))
  (C8.pss_cut (ps_if (pt_cmpR op_eq (pe_cal T.c__law_draw (hr.mono (by omega)) (by rfl) (pa_cons (pv 1) (pa_cons pe_int pa_nil))) pe_int (nomark _))
  (pss_one (ps_set (i := 6) scLaw.nd rfl (Or.inl rfl) (pe_op op_rep (pe_lst (pa_cons (pe_ix ix_list (pv 6) pe_int (fun _ _ => rfl)) pa_nil)) (pv 4)))) pss_nil)
  (pss_cons (ps_for PassesOwn.never rfl (pi_range1 (by rfl) T.m_range (pa_cons (pv 3) pa_nil)) (pg_name (i := 7) scLaw.nd rfl (Or.inl rfl))
  (pss_cons (ps_set (i := 8) scLaw.nd rfl (Or.inl rfl) (pe_cal T.c__law_draw (hr.mono (by omega)) (by rfl) (pa_cons (pv 1) (pa_cons pe_int pa_nil))))
  (pss_one (ps_if (pt_cmpR op_eq (pv 8) pe_int (nomark _))
  (pss_one (ps_set (i := 4) scLaw.nd rfl (Or.inl rfl) (pe_ix ix_list (pe_lst (pa_cons (pe_cal T.c__law_odd (hr.mono (by omega)) (by rfl) (pa_cons (pv 1) (pa_cons pe_int pa_nil))) (pa_cons (pe_op op_add pe_int (pe_cal T.c__law_draw (hr.mono (by omega)) (by rfl) (pa_cons (pv 1) (pa_cons pe_int pa_nil)))) pa_nil))) (pe_cal T.c__law_draw (hr.mono (by omega)) (by rfl) (pa_cons (pv 1) (pa_cons pe_int pa_nil))) (fun _ _ => rfl)))) (pss_one (ps_if (pt_cmpR op_eq (pv 8) pe_int (nomark _))
  (pss_one (ps_set (i := 5) scLaw.nd rfl (Or.inl rfl) (pe_ix ix_list (pe_lst (pa_cons (pe_cal T.c__law_odd (hr.mono (by omega)) (by rfl) (pa_cons (pv 1) (pa_cons pe_int pa_nil))) (pa_cons (pe_op op_add pe_int (pe_cal T.c__law_draw (hr.mono (by omega)) (by rfl) (pa_cons (pv 1) (pa_cons pe_int pa_nil)))) pa_nil))) (pe_cal T.c__law_draw (hr.mono (by omega)) (by rfl) (pa_cons (pv 1) (pa_cons pe_int pa_nil))) (fun _ _ => rfl)))) (pss_one (ps_set (i := 6) scLaw.nd rfl (Or.inl rfl) (pe_cal T.c__law_bent_table (hr.mono (by omega)) (by rfl) (pa_cons (pv 1) (pa_cons (pv 6) (pa_cons (pv 5) pa_nil))))))))))))
  (pss_cons (ps_set (i := 9) scLaw.nd rfl (Or.inl rfl) (pe_callB (call_reprA hg hr.units) (by rfl) T.m_repr (by decide +kernel) (pa_cons (pe_tup (pa_cons (pv 4) (pa_cons (pv 5) (pa_cons (pv 6) pa_nil)))) pa_nil)))
  (C8.pss_cut (ps_if (pt_not (pt_val (pe_cal T.c__law_good (hr.mono (by omega)) (by rfl) (pa_cons (pv 4) (pa_cons (pv 5) (pa_cons (pv 6) pa_nil))))))
  (pss_one (ps_if (pt_not (pt_val (pe_cal T.c__law_refused (hr.mono (by omega)) (by rfl) (pa_cons (pv 4) (pa_cons (pv 5) (pa_cons (pv 6) pa_nil))))))
  (pss_one (ps_ret pe_bl)) pss_nil)) (pss_cons (ps_set (i := 10) scLaw.nd rfl (Or.inl rfl) (pe_mkcalX T.c_Keeper (hr.mono (by omega)) takes0 (by rfl) (pa_cons (pv 4) (pa_cons (pv 5) (pa_cons (pv 6) pa_nil)))))
  (pss_cons (ps_if (pt_cmpR op_ne (pe_callB (call_reprA hg hr.units) (by rfl) T.m_repr (by decide +kernel) (pa_cons (pe_mcal0 T.cl T.c_filling (hr.mono (by omega)) (pv 10)) pa_nil)) (pe_callB (call_reprA hg hr.units) (by rfl) T.m_repr (by decide +kernel) (pa_cons (pe_callTy call_tuple_of (by rfl) T.m_tuple (by decide +kernel) (pa_cons (pe_lc (te := tOp (rIxL K) (tVar 11) (tC (.int 0))) (own := [("draws", 11)]) rfl scLaw.nd  (pi_list (pv 6)) (blkOk_by (own := [("draws", 11)]) (N := nLaw) (sc := defScope sLaw) (by decide +kernel))
   (fun _ _ _ _ _ => (pg_name (i := 11) scLaw.nd rfl (Or.inl rfl))) (fun _ _ _ _ _ => pts_nil) (fun _ _ _ _ _ => (pe_ix ix_list (pv 11) pe_int (fun _ _ => rfl)))) pa_nil)) pa_nil)) (nomark _))
  (pss_one (ps_ret pe_bl)) pss_nil)
  (pss_one (ps_if (PW.pt (pw_or (pt_cmpR (op_neE hr.units) (pe_mcal0 T.cl T.c_names (hr.mono (by omega)) (pv 10)) (pe_lst pa_nil) (nomark _)) (pw_or1 (pt_cmpR (op_neD hr.units) (pe_mcal0 T.cl T.c_taken (hr.mono (by omega)) (pv 10)) (pe_op op_rep (pe_lst (pa_cons pe_int pa_nil)) (pv 4)) (nomark _)))))
  (pss_one (ps_ret pe_bl)) pss_nil)))))
  (pss_one (ps_if (pt_cmpR op_ne (pe_callB (call_reprA hg hr.units) (by rfl) T.m_repr (by decide +kernel) (pa_cons (pe_tup (pa_cons (pv 4) (pa_cons (pv 5) (pa_cons (pv 6) pa_nil)))) pa_nil)) (pv 9) (nomark _))
  (pss_one (ps_ret pe_bl)) pss_nil))))))))))
  (pss_one (ps_ret pe_bl)))), ?_⟩
  refine ⟨.ref a, rfl, a, ns, rfl, hS, hl, hb, fun H1 wl cl s1 nwl ncl hW => ?_⟩
  have hT1 := hT.same s1
  clear hT s1 nwl ncl
  refine ⟨8, rfl, by decide, by decide, for_range (lo := 0) (n := 8) (fun i σ H2 => Well H2 wl cl ∧ Tabs Ps H2 ∧ ∃ y2 y3 y4 y5 y6 y7 y8 y9 y10, σ = [some (.ref a), some (.ref wl), y2, y3, y4, y5, y6, y7, y8, y9, y10, none]) ⟨hW, hT1, none, none, none, none, none, none, none, none, none, rfl⟩ (fun i σ H2 hi p => ?_) (fun σ H2 p => ?_)⟩
  · clear hW hT1
    obtain ⟨hW, hT, y2, y3, y4, y5, y6, y7, y8, y9, y10, rfl⟩ := p
    -- times
    refine ⟨(by show 8 ≤ sizeLine; decide), fun l0 nl0 => ?_⟩
    have s0 := same_upd (o := .lst [V.int 0, .int 1, .int 1, .int 1, .int 1, .int 1, .int 2, .int 2]) nl0
    have hl0 : upd H2 l0 (.lst [V.int 0, .int 1, .int 1, .int 1, .int 1, .int 1, .int 2, .int 2]) l0 = some (.lst [V.int 0, .int 1, .int 1, .int 1, .int 1, .int 1, .int 2, .int 2]) := upd_same
    have nl0w := hW.new nl0
    have hW0 := hW.same s0
    have hT0 := hT.same s0
    generalize upd H2 l0 (.lst [V.int 0, .int 1, .int 1, .int 1, .int 1, .int 1, .int 2, .int 2]) = H0 at s0 hl0 hW0 hT0
    refine ⟨.ref wl, rfl, wl, cl, 8, rfl, hW0, by decide, by decide, fun H3 d D3 o0 o1 => ?_⟩
    obtain ⟨tm, mat, tm0, tm2⟩ : ∃ tm : Int, atI [V.int 0, .int 1, .int 1, .int 1, .int 1, .int 1, .int 2, .int 2] d = some (.int tm) ∧ 0 ≤ tm ∧ tm ≤ 2 := by
      have : d = 0 ∨ d = 1 ∨ d = 2 ∨ d = 3 ∨ d = 4 ∨ d = 5 ∨ d = 6 ∨ d = 7 := by omega
      rcases this with rfl | rfl | rfl | rfl | rfl | rfl | rfl | rfl
      · exact ⟨0, atI_nat (j := 0) rfl, by decide, by decide⟩
      · exact ⟨1, atI_nat (j := 1) rfl, by decide, by decide⟩
      · exact ⟨1, atI_nat (j := 2) rfl, by decide, by decide⟩
      · exact ⟨1, atI_nat (j := 3) rfl, by decide, by decide⟩
      · exact ⟨1, atI_nat (j := 4) rfl, by decide, by decide⟩
      · exact ⟨1, atI_nat (j := 5) rfl, by decide, by decide⟩
      · exact ⟨2, atI_nat (j := 6) rfl, by decide, by decide⟩
      · exact ⟨2, atI_nat (j := 7) rfl, by decide, by decide⟩
    refine ⟨l0, _, d, .int tm, rfl, rfl, .inl (.inl (D3.1 l0 _ nl0w.1 nl0w.2 hl0)), mat, ?_⟩
    have hT3 := D3.tabs hW0 hT0
    have hW3 := D3.2
    clear hl0 s0 mat o0 o1
    -- sizes
    refine ⟨.ref wl, rfl, wl, cl, rfl, hW3, fun H4 sz many hues D4 hsz m1 m6 h2 h4 so => ⟨sz, _, rfl, .inl (.inl hsz), rfl, _, _, rfl, _, _, rfl, rfl, ?_⟩⟩
    have hT4 := D4.tabs hW3 hT3
    have hW4 := D4.2
    -- table
    refine ⟨.ref wl, rfl, .int many, rfl, .int hues, rfl, .ref wl, rfl, wl, cl, 6, rfl, hW4, by decide, by decide, fun H5 d5 D5 c0 c1 => ⟨1, d5, rfl, rfl, wl, cl, many, hues, 1 + d5, rfl, D5.2, m1, m6, h2, h4, by omega, by omega, fun H6 ta tb D6 nta htab gt => ?_⟩⟩
    have hT5 := D5.tabs hW4 hT4
    have hT6 := D6.tabs D5.2 hT5
    have htab6 : IsTab (AvW wl cl) H6 ta tb := htab.weak (old_well D5.2)
    have tl := gt.len
    have rb := tab_bt gt m6 h4
    have S6 : St6 Ps wl cl 6 (.int many) (.int hues) (.ref ta) (.int many) (.int hues) (listsD tb) H6 := ⟨D6.2, hT6, .int _, .int _, tab_an htab6, (FX.int (by omega)).mono (by decide) (by decide), (FX.int (by omega)).mono (by decide) (by decide), BtD.of (by decide) (by rw [List.length_map]; omega) rb⟩
    refine ⟨fun σ H' => ∃ vt dt, St6 Ps wl cl 6 (.int many) (.int hues) vt (.int many) (.int hues) dt H' ∧ σ = [some (.ref a), some (.ref wl), some (.int (0 + (i : Int))), some (.int tm), some (.int many), some (.int hues), some vt, y7, y8, y9, y10, none], ?_, ?_⟩
    · refine ⟨.ref wl, rfl, wl, cl, 4, rfl, D6.2, by decide, by decide, fun H7 d7 D7 e0 e1 => ⟨rfl, _, rfl, ite2 (fun e => ?_) (fun e => ?_)⟩⟩
      · have S7 := S6.drawn D7
        obtain ⟨lx, al⟩ : ∃ xs, H7 ta = some (.lst xs) ∧ AnAll (AvW wl cl) H7 xs (tb.map fun l : List Int => PyData.list (l.map .int)) := by
          have z := S7.at_
          cases z with
          | dct l => cases l
          | lst e _ al => exact ⟨_, e, al⟩
        obtain ⟨hx, al⟩ := al
        have ll := al.len
        rw [List.length_map] at ll
        obtain ⟨x, ex⟩ : ∃ x, lx[0]? = some x := ⟨_, List.getElem?_eq_getElem (by omega)⟩
        obtain ⟨dx, ed, ax⟩ := al.get ex
        refine ⟨.ref ta, rfl, ta, lx, 0, x, rfl, rfl, .inl (.inl hx), atI_nat (j := 0) ex, (by show 1 ≤ sizeLine; decide), fun l nl => ?_⟩
        have s8 := same_upd (o := .lst [x]) nl
        refine ⟨.int many, rfl, l, _, _, rfl, rfl, upd_same, by omega, by omega, ?_, fun p np => ?_⟩
        · show 1 * _ ≤ sizeLine
          exact Nat.le_of_lt (small1000 (by omega))
        rw [rep1]
        have s9 := s8.trans (same_upd (o := .lst (List.replicate many.toNat x)) np)
        have S9 := S7.same s9
        exact ⟨_, .list (List.replicate many.toNat dx), ⟨S9.well, S9.tabs, S9.am, S9.ah, .lst upd_same (fun z => old_well S7.well _ z (s8.free np)) (AnAll.rep (ax.up (NoTb.same s9)) _), S9.fm, S9.fh, BtD.of (by decide) (by rw [List.length_replicate]; omega) fun y hy => by rw [(List.mem_replicate.mp hy).2]; exact rb _ (List.mem_of_getElem? ed)⟩, rfl⟩
      · exact ⟨_, _, S6.drawn D7, rfl⟩
    rintro σ H7 ⟨vt, dt, S7, rfl⟩
    clear S6 htab6 htab nta gt rb tl
    refine ⟨.int tm, rfl, tm, rfl, by omega, by omega, for_range (lo := 0) (n := tm.toNat) (fun i2 σ H' => ∃ vm vh vt dm dh dt y7 y8, St6 Ps wl cl (6 + i2) vm vh vt dm dh dt H' ∧ σ = [some (.ref a), some (.ref wl), some (.int (0 + (i : Int))), some (.int tm), some vm, some vh, some vt, y7, y8, y9, y10, none]) ⟨_, _, _, _, _, _, _, _, S7, rfl⟩ (fun i2 σ H8 hi2 p => ?_) (fun σ H8 p => ?_)⟩
    · obtain ⟨vm, vh, vt, dm, dh, dt, y7, y8, S, rfl⟩ := p
      refine ⟨.ref wl, rfl, wl, cl, 5, rfl, S.well, by decide, by decide, fun H9 way D9 w0 w1 => ?_⟩
      have S9 := S.drawn D9
      have bm : BtD (6 + (i2 + 1)) dt := S.bt.mono (by omega)
      refine ⟨.int way, rfl, rfl, _, rfl, ite2 (fun e => ?_) (fun e => ⟨.int way, rfl, rfl, _, rfl, ite2 (fun e => ?_) (fun e => ?_)⟩)⟩
      · refine asgZ (pick_odd rfl S9.well (by decide) (by decide) (by decide) (by decide) fun H' v d D' a f => ?_)
        have S' := S9.drawn D'
        exact ⟨v, vh, vt, d, dh, dt, _, _, ⟨S'.well, S'.tabs, a, S'.ah, S'.at_, f, S'.fh, bm⟩, rfl⟩
      · refine asgZ (pick_odd rfl S9.well (by decide) (by decide) (by decide) (by decide) fun H' v d D' a f => ?_)
        have S' := S9.drawn D'
        exact ⟨vm, v, vt, dm, d, dt, _, _, ⟨S'.well, S'.tabs, S'.am, a, S'.at_, S'.fm, f, bm⟩, rfl⟩
      · refine ⟨.ref wl, rfl, vt, rfl, vh, rfl, AvW wl cl, wl, cl, vt, vh, dt, dh, 6 + i2, rfl, S9.well, old_well S9.well, .inl rfl, .inr rfl, S9.at_, S9.ah, S9.bt, by omega, fun H' v d D' a b => ?_⟩
        have S' := S9.drawn D'
        exact ⟨vm, vh, v, dm, dh, d, _, _, ⟨S'.well, S'.tabs, S'.am, S'.ah, a, S'.fm, S'.fh, b⟩, rfl⟩
    obtain ⟨vm, vh, vt, dm, dh, dt, y7', y8', S, rfl⟩ := p
    -- kept
    have few := S.bt.few
    have ft : FX (.tuple [dm, dh, dt]) 7 100000 := (FX.tuple (FXA.cons (S.fm.mono (by decide) (Nat.le_refl _)) (FXA.cons (S.fh.mono (by decide) (Nat.le_refl _)) (FXA.cons S.bt.fx (FXA.nil _))))).mono (by decide) (by decide)
    refine ⟨vm, rfl, vh, rfl, vt, rfl, (by show 3 ≤ sizeLine; decide), fun p np => ?_⟩
    have s9 := same_upd (o := .tup [vm, vh, vt]) np
    have S9 := S.same s9
    refine ⟨AvW wl cl, .ref p, .tuple [dm, dh, dt], rfl, .tup upd_same (.cons S9.am (.cons S9.ah (.cons S9.at_ .nil))), ft.sho, Nat.lt_of_le_of_lt ft.dep (by decide), ft.shows (by decide), ?_⟩
    generalize upd H8 p (.tup [vm, vh, vt]) = H9 at s9 S9
    refine ⟨fun σ H' => St6 Ps wl cl (6 + tm.toNat) vm vh vt dm dh dt H' ∧ ∃ y10, σ = [some (.ref a), some (.ref wl), some (.int (0 + (i : Int))), some (.int tm), some vm, some vh, some vt, y7', y8', some (.str (PyData.tuple [dm, dh, dt]).shown), y10, none], ?_, ?_⟩
    · refine ⟨vm, rfl, vh, rfl, vt, rfl, vm, vh, vt, dm, dh, dt, rfl, S9.am.any, S9.ah.any, S9.at_.any, few, fun H10 s10 => ⟨_, rfl, ?_⟩⟩
      have S10 := S9.same s10
      cases bg : begD dm dh dt with
      | false =>
        refine iteT ⟨vm, rfl, vh, rfl, vt, rfl, vm, vh, vt, dm, dh, dt, rfl, S10.tabs, S10.am.any, S10.ah.any, S10.at_.any, few, bg, fun H11 f11 => ⟨_, rfl, iteF ⟨S10.frs f11, _, rfl⟩⟩⟩
      | true =>
        refine iteF ⟨vm, rfl, vh, rfl, vt, rfl, fun q dx nq ndx ne => ?_⟩
        have s1 := same_upd (o := .own q) ndx
        have np1 : upd H10 dx (.own q) q = none := by rw [upd_ne (Ne.symm ne)]; exact nq
        have s2 := s1.trans (same_upd (o := .ins C dx []) np1)
        have hp2 : upd (upd H10 dx (.own q)) q (.ins C dx []) q = some (.ins C dx []) := upd_same
        have SF := S10.same s2
        generalize upd (upd H10 dx (.own q)) q (.ins C dx []) = HF at s2 SF hp2
        refine ⟨q, dx, vm, vh, vt, dm, dh, dt, rfl, hp2, SF.tabs, SF.am.any, SF.ah.any, SF.at_.any, few, (fun z => by rw [show (sizD dm dh && tabD (intD dm) (intD dh) dt) = true from bg] at z; cases z), fun _ H11 ba wa many' hues' tb' em eh et fN nba nwa hk => ?_⟩
        subst em eh et
        refine ⟨rfl, ?_⟩
        have f11 : FrS Ps H10 H11 := ⟨fun b o n1 e => fN.1 b o n1 (fun z => by rw [z, nq] at e; cases e) (s2 b o e), fN.2⟩
        have S11 := S10.frs f11
        obtain ⟨dx', _, hins, _⟩ := id hk.ins
        -- filling
        refine ⟨.ref q, rfl, q, dx', _, rfl, hins, kfs_no (by decide +kernel) (by decide +kernel) (by decide +kernel) (by decide +kernel) (by decide +kernel), ?_⟩
        refine ⟨_, q, ba, wa, many', hues', tb', _, _, rfl, hk, S11.tabs, fun H12 fi f12 nfi hfi => ?_⟩
        have S12 := S11.frs f12
        have hk12 := hk.frs S11.tabs f12
        have tl := hk.gt.len
        have m6 := hk.m6
        have h4 := hk.h4
        have fs : ∀ z ∈ tb'.map (fun ds => atF ds 0), z.natAbs < 10 ^ 55 := fun z hz => by
          obtain ⟨ds, hd, rfl⟩ := List.mem_map.mp hz
          have o1 := hk.gt.one ds hd
          have := hk.gt.hue ds hd (atF ds 0) (by
            unfold atF
            exact Dt.getD_mem (show (0 : Int).toNat < ds.length from o1))
          omega
        have ff : FX (.tuple ((tb'.map fun ds => atF ds 0).map .int)) 1 100 := (FX.tuple (FX.ints fs)).mono (Nat.le_refl _) (by rw [List.length_map]; omega)
        rw [stand_firsts] at hfi
        refine ⟨AvW wl cl, .ref fi, _, rfl, .tup hfi (AnAll.ints _), ff.sho, Nat.lt_of_le_of_lt ff.dep (by decide), ff.shows (by decide), ?_⟩
        -- the first draws
        obtain ⟨ta, das, evt, hta, prs⟩ := an_tab S12.at_.any
        subst evt
        have dl := pairedLen prs
        refine ⟨.ref ta, rfl, ta, rfl, ⟨_, .inl (.inl hta)⟩, fun D1 nD1 => ?_⟩
        refine lc_list (K := K) (a := ta) (xs := das.map V.ref) (fun i H5 => Same H12 H5 ∧ H5 D1 = some (.lst (((tb'.take i).map fun ds => atF ds 0).map V.int))) ⟨same_upd nD1, upd_same⟩ (fun i H5 _ p => .inl (.inl (p.1 _ _ hta))) (fun i x H5 hx p => ?_) (fun H13 p => ?_)
        · obtain ⟨d, ed, rfl⟩ := map_get hx
          obtain ⟨ds, eds, hds⟩ := pairedGetL prs ed
          obtain ⟨s5, hD5⟩ := p
          have o1 := hk.gt.one ds (List.mem_of_getElem? eds)
          have h0 : (ds.map V.int)[0]? = some (.int (atF ds 0)) := by
            rw [List.getElem?_map, List.getElem?_eq_getElem (show 0 < ds.length by omega)]
            unfold atF
            rw [show (0 : Int).toNat = 0 from rfl, getD_get (show 0 < ds.length by omega)]
            rfl
          refine ⟨rfl, yes_if ?_⟩
          refine ⟨.ref d, rfl, d, _, 0, .int (atF ds 0), rfl, rfl, .inl (.inl (s5 _ _ hds)), atI_nat (j := 0) h0, _, hD5, ?_, fun b o e => ?_, ?_⟩
          · rw [List.length_map, List.length_map, List.length_take]
            exact small1000 (by omega)
          · rw [upd_ne (ne_of_none e nD1)]
            exact s5 b o e
          · rw [upd_same, take_snoc eds, List.map_append, List.map_append]
            rfl
        obtain ⟨s13, hD13⟩ := p
        rw [List.length_map, dl, List.take_length] at hD13
        refine ⟨D1, _, rfl, .inl ⟨.inl (.inl hD13), fun tp ntp => ?_⟩⟩
        have s14 := s13.trans (same_upd (o := .tup ((tb'.map fun ds => atF ds 0).map V.int)) ntp)
        have S14 := S12.same s14
        have hk14 := hk12.frs S12.tabs (FrS.of S12.tabs s14)
        refine ⟨AvW wl cl, .ref tp, _, rfl, .tup upd_same (AnAll.ints _), ff.sho, Nat.lt_of_le_of_lt ff.dep (by decide), ff.shows (by decide), ?_⟩
        generalize upd H13 tp (.tup ((tb'.map fun ds => atF ds 0).map V.int)) = H14 at s14 S14 hk14
        refine ⟨rfl, _, rfl, ?_⟩
        rw [decide_eq_true rfl]
        refine iteF ?_
        -- names
        obtain ⟨dx14, _, hins14, _⟩ := id hk14.ins
        refine ⟨.ref q, rfl, q, dx14, _, rfl, hins14, kfs_no (by decide +kernel) (by decide +kernel) (by decide +kernel) (by decide +kernel) (by decide +kernel), ?_⟩
        refine ⟨_, q, ba, wa, _, _, tb', _, _, rfl, hk14, fun ord H15 l perm so s15 nl hl => ?_⟩
        have eo : ord = [] := List.perm_nil.mp perm
        subst eo
        refine ⟨(by show 0 ≤ sizeLine; decide), fun e ne => ⟨l, e, [], rfl, rfl, .inl (.inl (same_upd ne _ _ hl)), .inl (.inl upd_same), _, rfl, iteF ?_⟩⟩
        have s16 := s15.trans (same_upd (o := .lst []) ne)
        have S16 := S14.same s16
        have hk16 := hk14.frs S14.tabs (FrS.of S14.tabs s16)
        generalize upd H15 e (.lst []) = H16 at s16 S16 hk16
        -- taken
        obtain ⟨dx16, _, hins16, _⟩ := id hk16.ins
        refine ⟨.ref q, rfl, q, dx16, _, rfl, hins16, kfs_no (by decide +kernel) (by decide +kernel) (by decide +kernel) (by decide +kernel) (by decide +kernel), ?_⟩
        refine ⟨_, q, ba, wa, _, _, tb', _, _, rfl, hk16, fun H17 l2 s17 nl2 hl2 => ?_⟩
        have evm : vm = .int many' := by
          cases S10.am with
          | int => rfl
          | dct l => cases l
        subst evm
        refine ⟨(by show 1 ≤ sizeLine; decide), fun l3 nl3 => ?_⟩
        have s18 := s17.trans (same_upd (o := .lst [V.int 0]) nl3)
        refine ⟨.int many', rfl, l3, _, _, rfl, rfl, upd_same, by omega, by omega, ?_, fun l4 nl4 => ?_⟩
        · show 1 * _ ≤ sizeLine
          exact Nat.le_of_lt (small1000 (by omega))
        have ez : (List.replicate many'.toNat [V.int 0]).flatten = (zerosI tb'.length).map V.int := by
          have e1 : many'.toNat = tb'.length := by omega
          rw [rep1, e1]
          unfold zerosI
          rw [List.map_replicate]
        rw [ez]
        have s19 := s18.trans (same_upd (o := .lst ((zerosI tb'.length).map V.int)) nl4)
        refine ne_ints (same_upd nl4 _ _ (same_upd nl3 _ _ hl2)) upd_same ⟨_, rfl, iteF ⟨S16.same s19, _, rfl⟩⟩
    rintro σ H10 ⟨S10, y10, rfl⟩
    refine ⟨vm, rfl, vh, rfl, vt, rfl, (by show 3 ≤ sizeLine; decide), fun p np => ?_⟩
    have s11 := same_upd (o := .tup [vm, vh, vt]) np
    have S11 := S10.same s11
    refine ⟨AvW wl cl, .ref p, .tuple [dm, dh, dt], rfl, .tup upd_same (.cons S11.am (.cons S11.ah (.cons S11.at_ .nil))), ft.sho, Nat.lt_of_le_of_lt ft.dep (by decide), ft.shows (by decide), ?_⟩
    refine ⟨.str (PyData.tuple [dm, dh, dt]).shown, rfl, rfl, _, rfl, ?_⟩
    rw [decide_eq_true rfl]
    exact iteF ⟨S11.well, S11.tabs, _, _, _, _, _, _, _, _, _, rfl⟩
  · rfl
end
end Rd

set_option Elab.async false
set_option linter.all false
set_option maxRecDepth 100000
set_option maxHeartbeats 4000000
namespace Rd
open PySem PySem.Spec PyProof.Rows L2 Dt
theorem all_mk {l : PySem.W.OpenLaw} {w : World} {K : PySem.W.Frag} {h : Heap} {mg : Str → Option Value} {fa : Addr} {tb : Str → Addr × Addr} (X : K.In h) (G : h.Ns mainGlobals mg) (hfa : mg "law" = some (.ref fa)) (ht : ∀ y ∈ [("standing" : Str), ("are_draws" : Str), ("is_table" : Str)], Lg.TabOf mg h y (tb y))
    {f1 f2 f3 f4 f5 f6 f7 f8 f9 f10 f11 f12 f13 f14 f15 f16 f17 : Addr} {od1 an1 od2 an2 od3 an3 od4 an4 od5 an5 od6 an6 od7 an7 od8 an8 od9 an9 od10 an10 od11 an11 od12 an12 od13 an13 od14 an14 od15 an15 od16 an16 od17 an17 : Option Addr} {sl1 sl2 sl3 sl4 sl5 sl6 sl7 sl8 sl9 sl10 sl11 sl12 sl13 sl14 sl15 sl16 sl17 : Array (Option Value)} {oc1 kV1 dc1 pm1 cd1 ct1 oc2 kV2 dc2 pm2 cd2 ct2 oc3 kV3 dc3 pm3 cd3 ct3 oc4 kV4 dc4 pm4 cd4 ct4 oc5 kV5 dc5 pm5 cd5 ct5 oc6 kV6 dc6 pm6 cd6 ct6 oc7 kV7 dc7 pm7 cd7 ct7 oc8 kV8 dc8 pm8 cd8 ct8 oc9 kV9 dc9 pm9 cd9 ct9 oc10 kV10 dc10 pm10 cd10 ct10 oc11 kV11 dc11 pm11 cd11 ct11 oc12 kV12 dc12 pm12 cd12 ct12 oc13 kV13 dc13 pm13 cd13 ct13 oc14 kV14 dc14 pm14 cd14 ct14 oc15 kV15 dc15 pm15 cd15 ct15 oc16 kV16 dc16 pm16 cd16 ct16 oc17 kV17 dc17 pm17 cd17 ct17 : Value} {tk_MOST_PLACES : Tok} {tk_LEAST_HUES : Tok} {tk_MOST_HUES : Tok} {tk_MOST_FILLINGS : Tok} {tk_MOST_WISHES : Tok} {tk_MOST_PLACES_OF_A_WISH : Tok} {tk_LETTERS : Tok} {tk_MOST_LETTERS : Tok} {q0 : Addr} {q1 : Addr} {q2 : Addr} {q3 : Addr} {q4 : Addr} {q5 : Addr} {q6 : Addr} {q7 : Addr} {q8 : Addr} {q9 : Addr} {q10 : Addr} {q11 : Addr} {C : Addr} {fm1 : Addr} {odm1 anm1 : Option Addr} {slm1 : Array (Option Value)} {ocm1 kVm1 dcm1 pmm1 ctm1 cdm1 : Value} {fm2 : Addr} {odm2 anm2 : Option Addr} {slm2 : Array (Option Value)} {ocm2 kVm2 dcm2 pmm2 ctm2 cdm2 : Value} {fm3 : Addr} {odm3 anm3 : Option Addr} {slm3 : Array (Option Value)} {ocm3 kVm3 dcm3 pmm3 ctm3 cdm3 : Value} {fm4 : Addr} {odm4 anm4 : Option Addr} {slm4 : Array (Option Value)} {ocm4 kVm4 dcm4 pmm4 ctm4 cdm4 : Value}
    (a1 : PySem.W.nsIn K mainGlobals "is_number" = some (some (.ref f1))) (l1 : K.lookup f1 = some ⟨oc1, od1, .func (PySem.W.fnOf "is_number" "is_number" (defArgs sNum) (defBody sNum) (defScope sNum) .none kV1 dc1 pm1 an1 cd1 ct1), sl1⟩) (c1 : PySem.W.codeIn K cd1 "is_number" = true) (k1 : PySem.W.keepIn K (.ref f1) = true)
    (a2 : PySem.W.nsIn K mainGlobals "fillings_number" = some (some (.ref f2))) (l2 : K.lookup f2 = some ⟨oc2, od2, .func (PySem.W.fnOf "fillings_number" "fillings_number" (defArgs sFnu) (defBody sFnu) (defScope sFnu) .none kV2 dc2 pm2 an2 cd2 ct2), sl2⟩) (c2 : PySem.W.codeIn K cd2 "fillings_number" = true) (k2 : PySem.W.keepIn K (.ref f2) = true)
    (a3 : PySem.W.nsIn K mainGlobals "is_size" = some (some (.ref f3))) (l3 : K.lookup f3 = some ⟨oc3, od3, .func (PySem.W.fnOf "is_size" "is_size" (defArgs sSiz) (defBody sSiz) (defScope sSiz) .none kV3 dc3 pm3 an3 cd3 ct3), sl3⟩) (c3 : PySem.W.codeIn K cd3 "is_size" = true) (k3 : PySem.W.keepIn K (.ref f3) = true)
    (a4 : PySem.W.nsIn K mainGlobals "standing" = some (some (.ref f4))) (l4 : K.lookup f4 = some ⟨oc4, od4, .func (PySem.W.fnOf "standing" "standing" (defArgs sSta) (defBody sSta) (defScope sSta) .none kV4 dc4 pm4 an4 cd4 ct4), sl4⟩) (c4 : PySem.W.codeIn K cd4 "standing" = true) (k4 : PySem.W.keepIn K (.ref f4) = true)
    (a5 : PySem.W.nsIn K mainGlobals "are_draws" = some (some (.ref f5))) (l5 : K.lookup f5 = some ⟨oc5, od5, .func (PySem.W.fnOf "are_draws" "are_draws" (defArgs sAdr) (defBody sAdr) (defScope sAdr) .none kV5 dc5 pm5 an5 cd5 ct5), sl5⟩) (c5 : PySem.W.codeIn K cd5 "are_draws" = true) (k5 : PySem.W.keepIn K (.ref f5) = true)
    (a6 : PySem.W.nsIn K mainGlobals "is_table" = some (some (.ref f6))) (l6 : K.lookup f6 = some ⟨oc6, od6, .func (PySem.W.fnOf "is_table" "is_table" (defArgs sIta) (defBody sIta) (defScope sIta) .none kV6 dc6 pm6 an6 cd6 ct6), sl6⟩) (c6 : PySem.W.codeIn K cd6 "is_table" = true) (k6 : PySem.W.keepIn K (.ref f6) = true)
    (a7 : PySem.W.nsIn K mainGlobals "_law_well" = some (some (.ref f7))) (l7 : K.lookup f7 = some ⟨oc7, od7, .func (PySem.W.fnOf "_law_well" "_law_well" (defArgs sWell) (defBody sWell) (defScope sWell) .none kV7 dc7 pm7 an7 cd7 ct7), sl7⟩) (c7 : PySem.W.codeIn K cd7 "_law_well" = true) (k7 : PySem.W.keepIn K (.ref f7) = true)
    (a8 : PySem.W.nsIn K mainGlobals "_law_draw" = some (some (.ref f8))) (l8 : K.lookup f8 = some ⟨oc8, od8, .func (PySem.W.fnOf "_law_draw" "_law_draw" (defArgs sDraw) (defBody sDraw) (defScope sDraw) .none kV8 dc8 pm8 an8 cd8 ct8), sl8⟩) (c8 : PySem.W.codeIn K cd8 "_law_draw" = true) (k8 : PySem.W.keepIn K (.ref f8) = true)
    (a9 : PySem.W.nsIn K mainGlobals "_law_power" = some (some (.ref f9))) (l9 : K.lookup f9 = some ⟨oc9, od9, .func (PySem.W.fnOf "_law_power" "_law_power" (defArgs sPow) (defBody sPow) (defScope sPow) .none kV9 dc9 pm9 an9 cd9 ct9), sl9⟩) (c9 : PySem.W.codeIn K cd9 "_law_power" = true) (k9 : PySem.W.keepIn K (.ref f9) = true)
    (a10 : PySem.W.nsIn K mainGlobals "_law_odd" = some (some (.ref f10))) (l10 : K.lookup f10 = some ⟨oc10, od10, .func (PySem.W.fnOf "_law_odd" "_law_odd" (defArgs sOdd) (defBody sOdd) (defScope sOdd) .none kV10 dc10 pm10 an10 cd10 ct10), sl10⟩) (c10 : PySem.W.codeIn K cd10 "_law_odd" = true) (k10 : PySem.W.keepIn K (.ref f10) = true)
    (a11 : PySem.W.nsIn K mainGlobals "_law_sizes" = some (some (.ref f11))) (l11 : K.lookup f11 = some ⟨oc11, od11, .func (PySem.W.fnOf "_law_sizes" "_law_sizes" (defArgs sSzs) (defBody sSzs) (defScope sSzs) .none kV11 dc11 pm11 an11 cd11 ct11), sl11⟩) (c11 : PySem.W.codeIn K cd11 "_law_sizes" = true) (k11 : PySem.W.keepIn K (.ref f11) = true)
    (a12 : PySem.W.nsIn K mainGlobals "_law_table" = some (some (.ref f12))) (l12 : K.lookup f12 = some ⟨oc12, od12, .func (PySem.W.fnOf "_law_table" "_law_table" (defArgs sTab) (defBody sTab) (defScope sTab) .none kV12 dc12 pm12 an12 cd12 ct12), sl12⟩) (c12 : PySem.W.codeIn K cd12 "_law_table" = true) (k12 : PySem.W.keepIn K (.ref f12) = true)
    (a13 : PySem.W.nsIn K mainGlobals "_law_whole" = some (some (.ref f13))) (l13 : K.lookup f13 = some ⟨oc13, od13, .func (PySem.W.fnOf "_law_whole" "_law_whole" (defArgs sLwh) (defBody sLwh) (defScope sLwh) .none kV13 dc13 pm13 an13 cd13 ct13), sl13⟩) (c13 : PySem.W.codeIn K cd13 "_law_whole" = true) (k13 : PySem.W.keepIn K (.ref f13) = true)
    (a14 : PySem.W.nsIn K mainGlobals "_law_good" = some (some (.ref f14))) (l14 : K.lookup f14 = some ⟨oc14, od14, .func (PySem.W.fnOf "_law_good" "_law_good" (defArgs sLgd) (defBody sLgd) (defScope sLgd) .none kV14 dc14 pm14 an14 cd14 ct14), sl14⟩) (c14 : PySem.W.codeIn K cd14 "_law_good" = true) (k14 : PySem.W.keepIn K (.ref f14) = true)
    (a15 : PySem.W.nsIn K mainGlobals "_law_bent_table" = some (some (.ref f15))) (l15 : K.lookup f15 = some ⟨oc15, od15, .func (PySem.W.fnOf "_law_bent_table" "_law_bent_table" (defArgs sBtt) (defBody sBtt) (defScope sBtt) .none kV15 dc15 pm15 an15 cd15 ct15), sl15⟩) (c15 : PySem.W.codeIn K cd15 "_law_bent_table" = true) (k15 : PySem.W.keepIn K (.ref f15) = true)
    (a16 : PySem.W.nsIn K mainGlobals "_law_refused" = some (some (.ref f16))) (l16 : K.lookup f16 = some ⟨oc16, od16, .func (PySem.W.fnOf "_law_refused" "_law_refused" (defArgs sRfs) (defBody sRfs) (defScope sRfs) .none kV16 dc16 pm16 an16 cd16 ct16), sl16⟩) (c16 : PySem.W.codeIn K cd16 "_law_refused" = true) (k16 : PySem.W.keepIn K (.ref f16) = true)
    (a17 : PySem.W.nsIn K mainGlobals "law" = some (some (.ref f17))) (l17 : K.lookup f17 = some ⟨oc17, od17, .func (PySem.W.fnOf "law" "law" (defArgs sLaw) (defBody sLaw) (defScope sLaw) .none kV17 dc17 pm17 an17 cd17 ct17), sl17⟩) (c17 : PySem.W.codeIn K cd17 "law" = true) (k17 : PySem.W.keepIn K (.ref f17) = true)
    (z_ValueError : PySem.W.nsIn K mainGlobals "ValueError" = some none)
    (z_abs : PySem.W.nsIn K mainGlobals "abs" = some none)
    (z_all : PySem.W.nsIn K mainGlobals "all" = some none)
    (z_bool : PySem.W.nsIn K mainGlobals "bool" = some none)
    (z_int : PySem.W.nsIn K mainGlobals "int" = some none)
    (z_isinstance : PySem.W.nsIn K mainGlobals "isinstance" = some none)
    (z_len : PySem.W.nsIn K mainGlobals "len" = some none)
    (z_list : PySem.W.nsIn K mainGlobals "list" = some none)
    (z_range : PySem.W.nsIn K mainGlobals "range" = some none)
    (z_repr : PySem.W.nsIn K mainGlobals "repr" = some none)
    (z_sorted : PySem.W.nsIn K mainGlobals "sorted" = some none)
    (z_str : PySem.W.nsIn K mainGlobals "str" = some none)
    (z_tuple : PySem.W.nsIn K mainGlobals "tuple" = some none)
    (z_zip : PySem.W.nsIn K mainGlobals "zip" = some none)
    (q_MOST_PLACES : PySem.W.nsIn K mainGlobals "MOST_PLACES" = some (some (.int 6 tk_MOST_PLACES)))
    (q_LEAST_HUES : PySem.W.nsIn K mainGlobals "LEAST_HUES" = some (some (.int 2 tk_LEAST_HUES)))
    (q_MOST_HUES : PySem.W.nsIn K mainGlobals "MOST_HUES" = some (some (.int 4 tk_MOST_HUES)))
    (q_MOST_FILLINGS : PySem.W.nsIn K mainGlobals "MOST_FILLINGS" = some (some (.int 256 tk_MOST_FILLINGS)))
    (q_MOST_WISHES : PySem.W.nsIn K mainGlobals "MOST_WISHES" = some (some (.int 8 tk_MOST_WISHES)))
    (q_MOST_PLACES_OF_A_WISH : PySem.W.nsIn K mainGlobals "MOST_PLACES_OF_A_WISH" = some (some (.int 3 tk_MOST_PLACES_OF_A_WISH)))
    (q_LETTERS : PySem.W.nsIn K mainGlobals "LETTERS" = some (some (.str "abcdefghijklmnopqrstuvwxyz" tk_LETTERS)))
    (q_MOST_LETTERS : PySem.W.nsIn K mainGlobals "MOST_LETTERS" = some (some (.int 8 tk_MOST_LETTERS)))
    (cl0 : PySem.W.nsIn K mainGlobals "NoEnd" = some (some (.ref q0)))
    (cl1 : PySem.W.nsIn K mainGlobals "NoLog" = some (some (.ref q1)))
    (cl2 : PySem.W.nsIn K mainGlobals "NoName" = some (some (.ref q2)))
    (cl3 : PySem.W.nsIn K mainGlobals "NoRow" = some (some (.ref q3)))
    (cl4 : PySem.W.nsIn K mainGlobals "NoStep" = some (some (.ref q4)))
    (cl5 : PySem.W.nsIn K mainGlobals "NoTable" = some (some (.ref q5)))
    (cl6 : PySem.W.nsIn K mainGlobals "NoText" = some (some (.ref q6)))
    (cl7 : PySem.W.nsIn K mainGlobals "NoWish" = some (some (.ref q7)))
    (cl8 : PySem.W.nsIn K mainGlobals "Spent" = some (some (.ref q8)))
    (cl9 : PySem.W.nsIn K mainGlobals "Told" = some (some (.ref q9)))
    (cl10 : PySem.W.nsIn K mainGlobals "TooMany" = some (some (.ref q10)))
    (cl11 : PySem.W.nsIn K mainGlobals "DrawError" = some (some (.ref q11)))
    (hA : allOkX K [q0, q1, q2, q3, q4, q5, q6, q7, q8, q9, q10, q11] = true)
    (hq0 : okC1 K q5 = true)
    (aC : PySem.W.nsIn K mainGlobals "Keeper" = some (some (.ref C)))
    (pg : PySem.W.plainGet K C Str.empty = true)
    (hd : PySem.W.hasDictIn K C = true)
    (po : PySem.W.plainOver K C = true)
    (sa : PySem.W.findIn K (.ref C) "__setattr__" = some (some (.builtin "object.__setattr__")))
    (mk : PySem.W.makesIn K C = true)
    (kc : PySem.W.keepIn K (.ref C) = true)
    (nf_many : PySem.W.findIn K (.ref C) "many" = some none)
    (nf_hues : PySem.W.findIn K (.ref C) "hues" = some none)
    (nf_table : PySem.W.findIn K (.ref C) "table" = some none)
    (nf_beyond : PySem.W.findIn K (.ref C) "beyond" = some none)
    (nf_wishes : PySem.W.findIn K (.ref C) "wishes" = some none)
    (am1 : PySem.W.findIn K (.ref C) "__init__" = some (some (.ref fm1))) (im1 : PySem.W.isFn K (.ref fm1) = true) (lm1 : K.lookup fm1 = some ⟨ocm1, odm1, .func (PySem.W.fnOf "__init__" "Keeper.__init__" (defArgs sKin) (defBody sKin) (defScope sKin) .none kVm1 dcm1 pmm1 anm1 cdm1 ctm1), slm1⟩) (cm1 : PySem.W.codeIn K cdm1 "Keeper.__init__" = true) (km1 : PySem.W.keepIn K (.ref fm1) = true)
    (am2 : PySem.W.findIn K (.ref C) "filling" = some (some (.ref fm2))) (im2 : PySem.W.isFn K (.ref fm2) = true) (lm2 : K.lookup fm2 = some ⟨ocm2, odm2, .func (PySem.W.fnOf "filling" "Keeper.filling" (defArgs sKfi) (defBody sKfi) (defScope sKfi) .none kVm2 dcm2 pmm2 anm2 cdm2 ctm2), slm2⟩) (cm2 : PySem.W.codeIn K cdm2 "Keeper.filling" = true) (km2 : PySem.W.keepIn K (.ref fm2) = true)
    (am3 : PySem.W.findIn K (.ref C) "names" = some (some (.ref fm3))) (im3 : PySem.W.isFn K (.ref fm3) = true) (lm3 : K.lookup fm3 = some ⟨ocm3, odm3, .func (PySem.W.fnOf "names" "Keeper.names" (defArgs sKna) (defBody sKna) (defScope sKna) .none kVm3 dcm3 pmm3 anm3 cdm3 ctm3), slm3⟩) (cm3 : PySem.W.codeIn K cdm3 "Keeper.names" = true) (km3 : PySem.W.keepIn K (.ref fm3) = true)
    (am4 : PySem.W.findIn K (.ref C) "taken" = some (some (.ref fm4))) (im4 : PySem.W.isFn K (.ref fm4) = true) (lm4 : K.lookup fm4 = some ⟨ocm4, odm4, .func (PySem.W.fnOf "taken" "Keeper.taken" (defArgs sKta) (defBody sKta) (defScope sKta) .none kVm4 dcm4 pmm4 anm4 cdm4 ctm4), slm4⟩) (cm4 : PySem.W.codeIn K cdm4 "Keeper.taken" = true) (km4 : PySem.W.keepIn K (.ref fm4) = true) :
    ∃ fd : FuncData, Fun K "law" "law" sLaw fa fd ∧ (∀ (s : Shared) (v : Value), BindsTo s fd ⟨[v], []⟩ [("script", v)]) ∧ ∀ (base : Heap) (H : Hp) (cdv : Value) (a : Addr) (ns : List Int) (s : Shared), K.In base → base.Ns mainGlobals mg → (∀ y ∈ [("standing" : Str), ("are_draws" : Str), ("is_table" : Str)], GxR.TabB base mg (tb y).1 (tb y).2) → GxR.TabB base mg 308 306 → (∀ y ∈ [("standing" : Str), ("are_draws" : Str), ("is_table" : Str)], H (tb y).2 = some (.tbl #[])) → H 306 = some (.tbl #[]) → ns.length ≤ 63 → (∀ z ∈ ns, Builtin.Int.intBits z ≤ 1048576) → SqL K H a (ns.map V.int) → Room 9 (callerA.deeper (envOfC "law" (defScope sLaw) s.heap.objs.size fa cdv)) →
        ∃ t, PSs (cxOf CX0 l.prog w K mg base nLaw "law" (defScope sLaw) fa cdv callerA [] s H (fun _ _ _ => False)).nox (defBody sLaw) t ∧ t { nx := fun _ _ => False, rt := fun v _ => v = .bl true } (start nLaw [.ref a]) H := by
  have e := hfa.symm.trans (PySem.W.mg_of X G a17)
  cases e
  have F1 := fun_mk (st := sNum) l1 c1 k1
  have F2 := fun_mk (st := sFnu) l2 c2 k2
  have F3 := fun_mk (st := sSiz) l3 c3 k3
  have F4 := fun_mk (st := sSta) l4 c4 k4
  have F5 := fun_mk (st := sAdr) l5 c5 k5
  have F6 := fun_mk (st := sIta) l6 c6 k6
  have F7 := fun_mk (st := sWell) l7 c7 k7
  have F8 := fun_mk (st := sDraw) l8 c8 k8
  have F9 := fun_mk (st := sPow) l9 c9 k9
  have F10 := fun_mk (st := sOdd) l10 c10 k10
  have F11 := fun_mk (st := sSzs) l11 c11 k11
  have F12 := fun_mk (st := sTab) l12 c12 k12
  have F13 := fun_mk (st := sLwh) l13 c13 k13
  have F14 := fun_mk (st := sLgd) l14 c14 k14
  have F15 := fun_mk (st := sBtt) l15 c15 k15
  have F16 := fun_mk (st := sRfs) l16 c16 k16
  have F17 := fun_mk (st := sLaw) l17 c17 k17
  have FM1 := fun_mk (st := sKin) lm1 cm1 km1
  have FM2 := fun_mk (st := sKfi) lm2 cm2 km2
  have FM3 := fun_mk (st := sKna) lm3 cm3 km3
  have FM4 := fun_mk (st := sKta) lm4 cm4 km4
  have b1 := F1.binds (ps := ["thing", "low", "high"]) fun _ _ _ _ _ _ us hl => match us, hl with | [_, _, _], _ => rfl
  have b2 := F2.binds (ps := ["many", "hues"]) fun _ _ _ _ _ _ us hl => match us, hl with | [_, _], _ => rfl
  have b3 := F3.binds (ps := ["many", "hues"]) fun _ _ _ _ _ _ us hl => match us, hl with | [_, _], _ => rfl
  have b4 := F4.binds (ps := ["table", "taken"]) fun _ _ _ _ _ _ us hl => match us, hl with | [_, _], _ => rfl
  have b5 := F5.binds (ps := ["thing", "hues"]) fun _ _ _ _ _ _ us hl => match us, hl with | [_, _], _ => rfl
  have b6 := F6.binds (ps := ["thing", "many", "hues"]) fun _ _ _ _ _ _ us hl => match us, hl with | [_, _, _], _ => rfl
  have b7 := F7.binds (ps := ["script"]) fun _ _ _ _ _ _ us hl => match us, hl with | [_], _ => rfl
  have b8 := F8.binds (ps := ["well", "many"]) fun _ _ _ _ _ _ us hl => match us, hl with | [_, _], _ => rfl
  have b9 := F9.binds (ps := ["number", "many"]) fun _ _ _ _ _ _ us hl => match us, hl with | [_, _], _ => rfl
  have b10 := F10.binds (ps := ["well", "high"]) fun _ _ _ _ _ _ us hl => match us, hl with | [_, _], _ => rfl
  have b11 := F11.binds (ps := ["well"]) fun _ _ _ _ _ _ us hl => match us, hl with | [_], _ => rfl
  have b12 := F12.binds (ps := ["well", "many", "hues", "most"]) fun _ _ _ _ _ _ us hl => match us, hl with | [_, _, _, _], _ => rfl
  have b13 := F13.binds (ps := ["thing", "low", "high"]) fun _ _ _ _ _ _ us hl => match us, hl with | [_, _, _], _ => rfl
  have b14 := F14.binds (ps := ["many", "hues", "table"]) fun _ _ _ _ _ _ us hl => match us, hl with | [_, _, _], _ => rfl
  have b15 := F15.binds (ps := ["well", "table", "hues"]) fun _ _ _ _ _ _ us hl => match us, hl with | [_, _, _], _ => rfl
  have b16 := F16.binds (ps := ["many", "hues", "table"]) fun _ _ _ _ _ _ us hl => match us, hl with | [_, _, _], _ => rfl
  have bm1 := FM1.binds (ps := ["self", "many", "hues", "table"]) fun _ _ _ _ _ _ us hl => match us, hl with | [_, _, _, _], _ => rfl
  have bm2 := FM2.binds (ps := ["self"]) fun _ _ _ _ _ _ us hl => match us, hl with | [_], _ => rfl
  have bm3 := FM3.binds (ps := ["self"]) fun _ _ _ _ _ _ us hl => match us, hl with | [_], _ => rfl
  have bm4 := FM4.binds (ps := ["self"]) fun _ _ _ _ _ _ us hl => match us, hl with | [_], _ => rfl
  have m_ValueError := PySem.W.mg_none_of X G z_ValueError
  have m_abs := PySem.W.mg_none_of X G z_abs
  have m_all := PySem.W.mg_none_of X G z_all
  have m_bool := PySem.W.mg_none_of X G z_bool
  have m_int := PySem.W.mg_none_of X G z_int
  have m_isinstance := PySem.W.mg_none_of X G z_isinstance
  have m_len := PySem.W.mg_none_of X G z_len
  have m_list := PySem.W.mg_none_of X G z_list
  have m_range := PySem.W.mg_none_of X G z_range
  have m_repr := PySem.W.mg_none_of X G z_repr
  have m_sorted := PySem.W.mg_none_of X G z_sorted
  have m_str := PySem.W.mg_none_of X G z_str
  have m_tuple := PySem.W.mg_none_of X G z_tuple
  have m_zip := PySem.W.mg_none_of X G z_zip
  have g1 := PySem.W.mg_of X G a1
  have g2 := PySem.W.mg_of X G a2
  have g3 := PySem.W.mg_of X G a3
  have g4 := PySem.W.mg_of X G a4
  have g5 := PySem.W.mg_of X G a5
  have g6 := PySem.W.mg_of X G a6
  have g7 := PySem.W.mg_of X G a7
  have g8 := PySem.W.mg_of X G a8
  have g9 := PySem.W.mg_of X G a9
  have g10 := PySem.W.mg_of X G a10
  have g11 := PySem.W.mg_of X G a11
  have g12 := PySem.W.mg_of X G a12
  have g13 := PySem.W.mg_of X G a13
  have g14 := PySem.W.mg_of X G a14
  have g15 := PySem.W.mg_of X G a15
  have g16 := PySem.W.mg_of X G a16
  have g17 := PySem.W.mg_of X G a17
  have tc4 := (ht "standing" (by decide)).code X g4 l4
  cases tc4
  have tc5 := (ht "are_draws" (by decide)).code X g5 l5
  cases tc5
  have tc6 := (ht "is_table" (by decide)).code X g6 l6
  cases tc6
  refine ⟨_, F17, fun s v => .of_eq rfl, fun base H cdv a ns s kb gb tB tBM tH tHM hl hb hS hrm => ?_⟩
  have TB4 := tB "standing" (by decide)
  have TH4 := tH "standing" (by decide)
  have TB5 := tB "are_draws" (by decide)
  have TH5 := tH "are_draws" (by decide)
  have TB6 := tB "is_table" (by decide)
  have TH6 := tH "is_table" (by decide)
  have hTs : Tabs [(tb "standing").2, (tb "are_draws").2, (tb "is_table").2, 306] H := fun P hP => by
    simp only [List.mem_cons, List.not_mem_nil, or_false] at hP
    rcases hP with rfl | rfl | rfl | rfl
    · exact ⟨#[], TH4, trivial⟩
    · exact ⟨#[], TH5, trivial⟩
    · exact ⟨#[], TH6, trivial⟩
    · exact ⟨#[], tHM, trivial⟩
  have KC : KpCls K C := ⟨⟨pg, hd, po, sa⟩, nf_many, nf_hues, nf_table, nf_beyond, nf_wishes⟩
  have CT0 : Cls1 K q5 := cls1_of hq0
  have CL := clsX_of X G cl0 cl1 cl2 cl3 cl4 cl5 cl6 cl7 cl8 cl9 cl10 cl11 m_isinstance m_ValueError hA
  have C2 : Cal l.prog w K mg base 1 "fillings_number" ["many", "hues"] spFno := ⟨_, _, ok_fno (k := 0) F2 { m_isinstance := m_isinstance, m_int := m_int, m_bool := m_bool, m_tuple := m_tuple, m_len := m_len, m_all := m_all, m_range := m_range, g_MOST_PLACES := ⟨_, PySem.W.mg_of X G q_MOST_PLACES, ⟨_, rfl⟩⟩, g_LEAST_HUES := ⟨_, PySem.W.mg_of X G q_LEAST_HUES, ⟨_, rfl⟩⟩, g_MOST_HUES := ⟨_, PySem.W.mg_of X G q_MOST_HUES, ⟨_, rfl⟩⟩, g_MOST_FILLINGS := ⟨_, PySem.W.mg_of X G q_MOST_FILLINGS, ⟨_, rfl⟩⟩, g_MOST_WISHES := ⟨_, PySem.W.mg_of X G q_MOST_WISHES, ⟨_, rfl⟩⟩, g_MOST_PLACES_OF_A_WISH := ⟨_, PySem.W.mg_of X G q_MOST_PLACES_OF_A_WISH, ⟨_, rfl⟩⟩ }, g2, k2, b2⟩
  have C1 : Cal l.prog w K mg base 1 "is_number" ["thing", "low", "high"] spNumA := ⟨_, _, ok_numA (k := 0) F1 { m_isinstance := m_isinstance, m_int := m_int, m_bool := m_bool, m_tuple := m_tuple, m_len := m_len, m_all := m_all, m_range := m_range, g_MOST_PLACES := ⟨_, PySem.W.mg_of X G q_MOST_PLACES, ⟨_, rfl⟩⟩, g_LEAST_HUES := ⟨_, PySem.W.mg_of X G q_LEAST_HUES, ⟨_, rfl⟩⟩, g_MOST_HUES := ⟨_, PySem.W.mg_of X G q_MOST_HUES, ⟨_, rfl⟩⟩, g_MOST_FILLINGS := ⟨_, PySem.W.mg_of X G q_MOST_FILLINGS, ⟨_, rfl⟩⟩, g_MOST_WISHES := ⟨_, PySem.W.mg_of X G q_MOST_WISHES, ⟨_, rfl⟩⟩, g_MOST_PLACES_OF_A_WISH := ⟨_, PySem.W.mg_of X G q_MOST_PLACES_OF_A_WISH, ⟨_, rfl⟩⟩ }, g1, k1, b1⟩
  have C3 : Cal l.prog w K mg base 2 "is_size" ["many", "hues"] spSizA := ⟨_, _, ok_sizA (k := 0) F3 { m_isinstance := m_isinstance, m_int := m_int, m_bool := m_bool, m_tuple := m_tuple, m_len := m_len, m_all := m_all, m_range := m_range, g_MOST_PLACES := ⟨_, PySem.W.mg_of X G q_MOST_PLACES, ⟨_, rfl⟩⟩, g_LEAST_HUES := ⟨_, PySem.W.mg_of X G q_LEAST_HUES, ⟨_, rfl⟩⟩, g_MOST_HUES := ⟨_, PySem.W.mg_of X G q_MOST_HUES, ⟨_, rfl⟩⟩, g_MOST_FILLINGS := ⟨_, PySem.W.mg_of X G q_MOST_FILLINGS, ⟨_, rfl⟩⟩, g_MOST_WISHES := ⟨_, PySem.W.mg_of X G q_MOST_WISHES, ⟨_, rfl⟩⟩, g_MOST_PLACES_OF_A_WISH := ⟨_, PySem.W.mg_of X G q_MOST_PLACES_OF_A_WISH, ⟨_, rfl⟩⟩, c_is_number := C1, c_fillings_number := C2 }, g3, k3, b3⟩
  have C4 : Cal l.prog w K mg base 3 "standing" ["table", "taken"] (spSta [(tb "standing").2, (tb "are_draws").2, (tb "is_table").2, 306]) := ⟨_, _, ok_sta (k := 0) ⟨⟨_, _, _, _, _, _, _, _, rfl, l4, c4⟩⟩ TB4 (by simp) { m_tuple := m_tuple, m_zip := m_zip, m_all := m_all, m_len := m_len }, g4, k4, b4⟩
  have C5 : Cal l.prog w K mg base 3 "are_draws" ["thing", "hues"] (spAdrA [(tb "standing").2, (tb "are_draws").2, (tb "is_table").2, 306]) := ⟨_, _, ok_adrA (k := 0) ⟨⟨_, _, _, _, _, _, _, _, rfl, l5, c5⟩⟩ TB5 (by simp) { m_isinstance := m_isinstance, m_list := m_list, m_str := m_str, m_len := m_len, m_all := m_all, c_is_number := C1 }, g5, k5, b5⟩
  have C6 : Cal l.prog w K mg base 5 "is_table" ["thing", "many", "hues"] (spItaA [(tb "standing").2, (tb "are_draws").2, (tb "is_table").2, 306]) := ⟨_, _, ok_itaA (k := 0) ⟨⟨_, _, _, _, _, _, _, _, rfl, l6, c6⟩⟩ TB6 (by simp) { m_isinstance := m_isinstance, m_list := m_list, m_str := m_str, m_len := m_len, m_all := m_all, c_are_draws := C5 }, g6, k6, b6⟩
  have M1 : MkCalX l.prog w K mg base C 6 "Keeper" ["self", "many", "hues", "table"] (spKiA C [(tb "standing").2, (tb "are_draws").2, (tb "is_table").2, 306] ((fun i => [q0, q1, q2, q3, q4, q5, q6, q7, q8, q9, q10, q11].getD i 0) 5)) := ⟨_, _, ⟨mk, am1, im1, kc⟩, ok_kinA (k := 0) FM1 { toKpCls := KC, toCls1 := CT0, m_list := m_list, g_NoTable := PySem.W.mg_of X G cl5, c_is_size := C3, c_is_table := C6 }, PySem.W.mg_of X G aC, bm1⟩
  have M4 : MCal CX0 l.prog w K mg base C 1 "taken" ["self"] (spKta C) := ⟨_, _, ok_kta (k := 0) FM4 { toKpCls := KC, m_sorted := m_sorted, m_list := m_list, c_standing := C4 }, ⟨am4, im4, km4⟩, bm4⟩
  have M3 : MCal CX0 l.prog w K mg base C 1 "names" ["self"] (spKna C) := ⟨_, _, ok_kna (k := 0) FM3 { toKpCls := KC, m_sorted := m_sorted, m_list := m_list, c_standing := C4 }, ⟨am3, im3, km3⟩, bm3⟩
  have M2 : MCal CX0 l.prog w K mg base C 4 "filling" ["self"] (spKfi C [(tb "standing").2, (tb "are_draws").2, (tb "is_table").2, 306]) := ⟨_, _, ok_kfi (k := 0) FM2 { toKpCls := KC, m_sorted := m_sorted, m_list := m_list, c_standing := C4 }, ⟨am2, im2, km2⟩, bm2⟩
  have C7 : Cal l.prog w K mg base 1 "_law_well" ["script"] (spWell K) := ⟨_, _, ok_well (k := 0) F7 m_abs, g7, k7, b7⟩
  have C8 : Cal l.prog w K mg base 1 "_law_draw" ["well", "many"] spDraw := ⟨_, _, ok_draw (k := 0) F8, g8, k8, b8⟩
  have C9 : Cal l.prog w K mg base 1 "_law_power" ["number", "many"] spPow := ⟨_, _, ok_pow (k := 0) F9 m_range, g9, k9, b9⟩
  have C11 : Cal l.prog w K mg base 2 "_law_sizes" ["well"] spLsz := ⟨_, _, ok_szs (k := 0) F11 { m_range := m_range, m_len := m_len, c__law_draw := C8 }, g11, k11, b11⟩
  have C12 : Cal l.prog w K mg base 2 "_law_table" ["well", "many", "hues", "most"] spLtb := ⟨_, _, ok_ltb (k := 0) F12 { m_range := m_range, m_len := m_len, c__law_draw := C8 }, g12, k12, b12⟩
  have C10 : Cal l.prog w K mg base 2 "_law_odd" ["well", "high"] spOdA := ⟨_, _, ok_odA (k := 0) F10 { c__law_draw := C8 }, g10, k10, b10⟩
  have C13 : Cal l.prog w K mg base 1 "_law_whole" ["thing", "low", "high"] spLwA := ⟨_, _, ok_lwA (k := 0) F13 { m_isinstance := m_isinstance, m_int := m_int, m_bool := m_bool }, g13, k13, b13⟩
  have C16 : Cal l.prog w K mg base 8 "_law_refused" ["many", "hues", "table"] (spRfA C [(tb "standing").2, (tb "are_draws").2, (tb "is_table").2, 306]) := ⟨_, _, ok_rfA (k := 0) F16 { toClsX := CL, c_Keeper := M1 }, g16, k16, b16⟩
  have C10 : Cal l.prog w K mg base 2 "_law_odd" ["well", "high"] spOdA := ⟨_, _, ok_odA (k := 0) F10 { c__law_draw := C8 }, g10, k10, b10⟩
  have C13 : Cal l.prog w K mg base 1 "_law_whole" ["thing", "low", "high"] spLwA := ⟨_, _, ok_lwA (k := 0) F13 { m_isinstance := m_isinstance, m_int := m_int, m_bool := m_bool }, g13, k13, b13⟩
  have C14 : Cal l.prog w K mg base 2 "_law_good" ["many", "hues", "table"] spLgA := ⟨_, _, ok_lgA (k := 0) F14 { m_isinstance := m_isinstance, m_list := m_list, m_len := m_len, c__law_whole := C13, c__law_power := C9 }, g14, k14, b14⟩
  have C15 : Cal l.prog w K mg base 3 "_law_bent_table" ["well", "table", "hues"] spBtA := ⟨_, _, ok_btA (k := 0) F15 { m_isinstance := m_isinstance, m_list := m_list, m_tuple := m_tuple, m_int := m_int, m_len := m_len, c__law_draw := C8, c__law_odd := C10 }, g15, k15, b15⟩
  have C16 : Cal l.prog w K mg base 8 "_law_refused" ["many", "hues", "table"] (spRfA C [(tb "standing").2, (tb "are_draws").2, (tb "is_table").2, 306]) := ⟨_, _, ok_rfA (k := 0) F16 { toClsX := CL, c_Keeper := M1 }, g16, k16, b16⟩
  exact body_law (Ps := [(tb "standing").2, (tb "are_draws").2, (tb "is_table").2, 306]) { toKpCls := KC, m_range := m_range, m_repr := m_repr, m_tuple := m_tuple, c__law_well := C7, c__law_draw := C8, c__law_sizes := C11, c__law_table := C12, c__law_odd := C10, c__law_bent_table := C15, c__law_good := C14, c__law_refused := C16, c_Keeper := M1, c_filling := M2, c_names := M3, c_taken := M4 } hl hb hTs hS hrm
end Rd

set_option Elab.async false
set_option linter.all false
set_option maxRecDepth 100000
set_option maxHeartbeats 4000000
open PySem PySem.W PyProof.Rows
local macro_rules | `(tactic| o_head ($f $k $a $e)) => `(tactic| o_head (PySem.W.kmHook $k $a $e [306]))
set_option maxHeartbeats 0 in
theorem PySem.Challenge.cw_redraw_k62_keepers_begun_holds : PySem.Challenge.rw_redraw_k62_keepers_begun.Holds := by
  w_on; o_law; k_head; (case hw => w_witness2)
  k_fill
  refine Lg.walk_ofM (l := PySem.Challenge.rw_redraw_k62_keepers_begun) (n := 63) (k := 9) (x := "law") (qual := "law") (par := "script") (st := Rd.sLaw) (N := Rd.nLaw) 308 306 ["standing", "are_draws", "is_table"] rfl (by decide) rfl ⟨rfl, by decide, by decide⟩ (by rfl) ?hK ?hC (fun w h Y => PySem.W.km_in_of Y) (fun w h Y => PySem.W.km_tabs_of Y 306 List.mem_cons_self) Rd.scLaw ?F
  case hK => intro w; kernel_rfl
  case hC => intro w; kernel_rfl
  case F =>
    intro w mg fa h tb KX G hmg ht
    refine' Rd.all_mk KX G hmg ht ?a1 ?l1 ?c1 ?k1 ?a2 ?l2 ?c2 ?k2 ?a3 ?l3 ?c3 ?k3 ?a4 ?l4 ?c4 ?k4 ?a5 ?l5 ?c5 ?k5 ?a6 ?l6 ?c6 ?k6 ?a7 ?l7 ?c7 ?k7 ?a8 ?l8 ?c8 ?k8 ?a9 ?l9 ?c9 ?k9 ?a10 ?l10 ?c10 ?k10 ?a11 ?l11 ?c11 ?k11 ?a12 ?l12 ?c12 ?k12 ?a13 ?l13 ?c13 ?k13 ?a14 ?l14 ?c14 ?k14 ?a15 ?l15 ?c15 ?k15 ?a16 ?l16 ?c16 ?k16 ?a17 ?l17 ?c17 ?k17 ?z_ValueError ?z_abs ?z_all ?z_bool ?z_int ?z_isinstance ?z_len ?z_list ?z_range ?z_repr ?z_sorted ?z_str ?z_tuple ?z_zip ?q_MOST_PLACES ?q_LEAST_HUES ?q_MOST_HUES ?q_MOST_FILLINGS ?q_MOST_WISHES ?q_MOST_PLACES_OF_A_WISH ?q_LETTERS ?q_MOST_LETTERS ?cl0 ?cl1 ?cl2 ?cl3 ?cl4 ?cl5 ?cl6 ?cl7 ?cl8 ?cl9 ?cl10 ?cl11 ?hA ?hq0 ?aC ?pg ?hd ?po ?sa ?mk ?kc ?nf_many ?nf_hues ?nf_table ?nf_beyond ?nf_wishes ?am1 ?im1 ?lm1 ?cm1 ?km1 ?am2 ?im2 ?lm2 ?cm2 ?km2 ?am3 ?im3 ?lm3 ?cm3 ?km3 ?am4 ?im4 ?lm4 ?cm4 ?km4
    (case a1 => k_is); (case l1 => k_is); (case c1 => k_is); (case k1 => k_is); (case a2 => k_is); (case l2 => k_is); (case c2 => k_is); (case k2 => k_is); (case a3 => k_is); (case l3 => k_is); (case c3 => k_is); (case k3 => k_is); (case a4 => k_is); (case l4 => k_is); (case c4 => k_is); (case k4 => k_is); (case a5 => k_is); (case l5 => k_is); (case c5 => k_is); (case k5 => k_is); (case a6 => k_is); (case l6 => k_is); (case c6 => k_is); (case k6 => k_is); (case a7 => k_is); (case l7 => k_is); (case c7 => k_is); (case k7 => k_is); (case a8 => k_is); (case l8 => k_is); (case c8 => k_is); (case k8 => k_is); (case a9 => k_is); (case l9 => k_is); (case c9 => k_is); (case k9 => k_is); (case a10 => k_is); (case l10 => k_is); (case c10 => k_is); (case k10 => k_is); (case a11 => k_is); (case l11 => k_is); (case c11 => k_is); (case k11 => k_is); (case a12 => k_is); (case l12 => k_is); (case c12 => k_is); (case k12 => k_is); (case a13 => k_is); (case l13 => k_is); (case c13 => k_is); (case k13 => k_is); (case a14 => k_is); (case l14 => k_is); (case c14 => k_is); (case k14 => k_is); (case a15 => k_is); (case l15 => k_is); (case c15 => k_is); (case k15 => k_is); (case a16 => k_is); (case l16 => k_is); (case c16 => k_is); (case k16 => k_is); (case a17 => k_is); (case l17 => k_is); (case c17 => k_is); (case k17 => k_is); (case z_ValueError => k_is); (case z_abs => k_is); (case z_all => k_is); (case z_bool => k_is); (case z_int => k_is); (case z_isinstance => k_is); (case z_len => k_is); (case z_list => k_is); (case z_range => k_is); (case z_repr => k_is); (case z_sorted => k_is); (case z_str => k_is); (case z_tuple => k_is); (case z_zip => k_is); (case q_MOST_PLACES => k_is); (case q_LEAST_HUES => k_is); (case q_MOST_HUES => k_is); (case q_MOST_FILLINGS => k_is); (case q_MOST_WISHES => k_is); (case q_MOST_PLACES_OF_A_WISH => k_is); (case q_LETTERS => k_is); (case q_MOST_LETTERS => k_is); (case cl0 => k_is); (case cl1 => k_is); (case cl2 => k_is); (case cl3 => k_is); (case cl4 => k_is); (case cl5 => k_is); (case cl6 => k_is); (case cl7 => k_is); (case cl8 => k_is); (case cl9 => k_is); (case cl10 => k_is); (case cl11 => k_is); (case hA => kernel_rfl); (case hq0 => kernel_rfl); (case aC => k_is); (case pg => k_is); (case hd => k_is); (case po => k_is); (case sa => k_is); (case mk => k_is); (case kc => k_is); (case nf_many => k_is); (case nf_hues => k_is); (case nf_table => k_is); (case nf_beyond => k_is); (case nf_wishes => k_is); (case am1 => k_is); (case im1 => k_is); (case lm1 => k_is); (case cm1 => k_is); (case km1 => k_is); (case am2 => k_is); (case im2 => k_is); (case lm2 => k_is); (case cm2 => k_is); (case km2 => k_is); (case am3 => k_is); (case im3 => k_is); (case lm3 => k_is); (case cm3 => k_is); (case km3 => k_is); (case am4 => k_is); (case im4 => k_is); (case lm4 => k_is); (case cm4 => k_is); (case km4 => k_is)

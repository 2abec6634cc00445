import PyProof.Rows.All
import Wide.All
import OpenK.AllK
import Wide.FinOn
import HandS.ForMost
import HandS.AnyAll
import PyProof.TupleOfGen
import PyProof.WalksMore
import HandS.Zip
import KE.GoesEnum
import HandS.Deep
import PyProof.Rows.RegFStrParts
import HandS.SortInts
import HandS.TupSets
import HandS.EndBits
import KE.KNest
import KE.DatumIndex
import HandS.GenList
import HandS.Wide
import HandS.Codes
import HandS.Conv
import HandS.TupAny
import HandS.IsInst
import HandS.Style
import HandS.JoinGen
import HandS.FStr
import KE.DataMinMax
import HandS.RevRange
import HandS.Small
import HandS.Dict
import HandS.Text
import HandS.Iter
import HandS.Exc
import HandS.ExcIs
import HandS.ExcValue
import HandS.WordsExc
import HandS.ExcOwn
import PyProof.StrBlock2
import HandS.Spec
import PySem.Challenge.RW_redraw_k71_riddles_read
set_option Elab.async false
set_option linter.all false
set_option maxRecDepth 100000
set_option maxHeartbeats 4000000
/-! generator expressions over a list or a tuple whose element keeps the heap: tuple(..), all(..), any(..) -/
namespace Gv
open PySem PySem.Spec PyProof.Rows L2
/-- a list or a tuple of these -/
def Sq (K : PySem.W.Frag) (H : Hp) (a : Addr) (xs : List V) : Prop := SqL K H a xs ∨ SqT K H a xs
section
variable {X : Cx} {pins : List (Addr × Obj)} {σ : L2.St} {H : Hp} {s : Shared}
/-- iter(a): its items, and a walk over them that writes its own new cell alone -/
theorem iter_sq {a : Addr} {xs : List V} (I : Inv X pins σ H s) (h : Sq X.K H a xs) :
    ∃ its : List Value, Vals xs its ∧ xs.length ≤ sizeLine ∧ a < s.heap.objs.size ∧ ∀ (Q : Value → Shared → Prop) (E : Value → Shared → Prop),
      (∀ (o : Obj) (St : Nat → Heap → Prop), (∀ A' : Around, A'.handled = none → Walks X.prog X.w A' s.heap.objs.size [s.heap.objs.size, a] [s.heap.objs.size] its.length (fun i v => its[i]? = some v) St) → St 0 (s.heap.push o) →
        Q (.ref s.heap.objs.size) { s with heap := s.heap.push o }) → wpAny (model X.prog X.w) X.A (pyIter (.ref a)) Q E s := by
  rcases h with h | h
  · obtain ⟨its, rv, pl, hz⟩ := I.list h
    have hL := pl.isList
    have hlt : a < s.heap.objs.size := let ⟨_, e, _⟩ := hL; Heap.lt_size e
    refine ⟨its, rv, hz, hlt, fun Q E k => wpAny_pyIter_list hL (k _ (fun i h => h.IsListIter s.heap.objs.size a i ∧ h.IsList a its.toArray) (fun A' hA => ?_) ⟨⟨_, Heap.get?_push_size _ rfl, rfl, rfl⟩, ?_⟩)⟩
    · have W := Walks.list (prog := X.prog) (w := X.w) hA s.heap.objs.size a (Nat.ne_of_lt hlt) its.toArray
      simpa using W
    · obtain ⟨o, e, r⟩ := hL
      exact ⟨o, Heap.get?_push_of_some _ e, r⟩
  · obtain ⟨its, rv, pl, hz⟩ := I.tuple h
    have hlt : a < s.heap.objs.size := pl.lt
    refine ⟨its, rv, hz, hlt, fun Q E k => wpAny_pyIter_tuple (show s.heap.IsTuple a its.toArray from pl) (k _ (fun i h => h.IsTupleIter s.heap.objs.size a i ∧ h.IsTuple a its.toArray) (fun A' hA => ?_) ⟨⟨_, Heap.get?_push_size _ rfl, rfl, rfl⟩, ?_⟩)⟩
    · have W := Walks.tuple (prog := X.prog) (w := X.w) hA s.heap.objs.size a (Nat.ne_of_lt hlt) its.toArray
      simpa using W
    · exact pl.push _
/-- the element, of the item x0 the value y0, with all that stood kept -/
def EltV (X : Cx) (pins : List (Addr × Obj)) (σ : L2.St) (scope : Scope) (x : Str) (elt : Expr) (P : Addr) (H1 : Hp) (xs ys : List V) : Prop :=
  ∀ (s1 t : Shared) (C : Addr) (code : Value) (bi : Addr) (A' : Around) (E' : Value → Shared → Prop) (i : Nat) (x0 : V) (u : Value) (m : Str → Option Value),
    Inv X pins σ H1 s1 → A'.handled = none → A'.units ≤ X.A.units + 8 → xs[i]? = some x0 → RelV x0 u → t.heap.Ns C m → m x = some u → (∀ b o, b ≠ P → s1.heap.get? b = some o → t.heap.get? b = some o) →
    wpAny (model X.prog X.w) A' (eval elt (genEnv scope (cloFrom X.env.cells scope.names []) C code bi X.env)) (fun y t' => (∃ y0, ys[i]? = some y0 ∧ RelV y0 y) ∧ Keeps t t') E' t
/-- the generator at g, about to give out the values ys -/
def Ready (X : Cx) (pins : List (Addr × Obj)) (σ : L2.St) (H1 : Hp) (P : Addr) (ys : List V) (g : Addr) (s5 : Shared) : Prop :=
  ∃ (fp wr : List Addr) (G : Array GenState → Array GenState → Prop) (F : Nat → Value → Prop) (St : Nat → Shared → Prop),
    WalksS X.prog X.w X.A.in4 g fp wr G ys.length F St ∧ St 0 s5 ∧ (∀ b ∈ fp, b < s5.heap.objs.size) ∧ g ∈ fp ∧ (∀ i s9, St i s9 → s9.TypeIs (.ref g) "generator") ∧
    (∀ j v, F j v → ∃ y, ys[j]? = some y ∧ RelV y v) ∧ ∀ s', Moved wr G s5 s' → ∃ H2, GxR.Tabbed P H1 H2 ∧ Inv X pins σ H2 s'
theorem gen_sq {c P : Addr} {elt iter : Expr} {x : Str} {px gpos : Pos} {scope : Scope} {te : TE} {k : Nat} {Q' : Value → Shared → Prop} {R : List V → Hp → Prop}
    (hr : Room k X.A) (TB : GxR.TabB X.base X.mg c P) (hcode : X.env.code = .ref c) (S : GxR.GenS X.env scope x) (hi : PE X iter te) (hs : ∀ v, genFold iter X.env v = pure v) (I : Inv X pins σ H s)
    (h : te σ H fun v H1 => ∃ (a : Addr) (xs ys : List V), v = .ref a ∧ Sq X.K H1 a xs ∧ ys.length = xs.length ∧ (∀ pins, EltV X pins σ scope x elt P H1 xs ys) ∧ GxR.TabG H1 P ∧ R ys H1)
    (hQ : ∀ ys H1 g s5, ys.length ≤ sizeLine → R ys H1 → Ready X pins σ H1 P ys g s5 → Q' (.ref g) s5) :
    wpAny (model X.prog X.w) X.A (eval (.GeneratorExp elt [⟨.Name x px, iter, [], 0⟩] scope gpos) X.env) Q' X.xe s := by
  refine wpAny_GeneratorExp_walksQD hr.hd S.co (closure_ok S.free) S.cell S.dot S.loc S.kind (by have := hr.dp; omega) (thn (hi.run pins s σ H _ I h) fun xv s1 ⟨v, H1, I1, r1, q1⟩ => ?_) hs
  obtain ⟨a, xs, ys, rfl, hsq, hyl, hel, ⟨ps, hP, ht⟩, q1⟩ := q1
  cases (show xv = Value.ref a from r1)
  obtain ⟨its, rv, hz, hlt, go⟩ := iter_sq I1 hsq
  refine go _ _ fun o St W st0 => ⟨I1.nolimit.push o, ?_⟩
  have tabS : s1.heap.get? P = some { cls := .none, data := .fields ps } := I1.hok P _ hP
  have ltP : P < s1.heap.objs.size := Heap.lt_size tabS
  have tab2 : (s1.heap.push o).get? P = some { cls := .none, data := .fields ps } := Heap.get?_push_of_some _ tabS
  have hd : PySem.W.CodeHd (s1.heap.push o) c P := TB.code.keeps fun b u e => Heap.get?_push_of_some _ (I1.bk b u e)
  have neI : s1.heap.objs.size ≠ P := fun z => Nat.lt_irrefl _ (z ▸ ltP)
  -- the code object of the expression, its table perhaps longer behind it
  have key : ∀ (REST : Value → Shared → Prop), (∀ (cv : Value) (h3 : Heap) (tk : Nat) (more : Array Value), Heap.ExtBut P (s1.heap.push o) h3 → (s1.heap.push o).objs.size ≤ h3.objs.size → h3.get? P = some { cls := .none, data := .fields (ps ++ more) } → TriplesOk (ps ++ more).toList → REST cv { s1 with heap := h3, toks := tk }) →
      wpAny (model X.prog X.w) X.A (genexprCode X.env gpos (X.env.qual ++ "<genexpr>") scope) REST X.xe { s1 with heap := s1.heap.push o } := fun REST fin => by
    cases hf : codeAmong gpos ps.toList with
    | some cv =>
      have e : ps = ps ++ #[] := by simp
      exact wpAny_genexprCode_hit hcode (hd.code tab2 ht) hf (fin cv _ s1.toks #[] (Heap.ExtBut.refl _ _) (Nat.le_refl _) (e ▸ tab2) (e ▸ ht))
    | none =>
      refine wpAny_genexprCodeX hcode (hd.code tab2 ht) (hd.tab tab2) hf fun c' h3 tk ex ge lt ic _ ta _ => ?_
      obtain ⟨_, _, _, _, _, _, _, _, _, _, _, _, _, _, _, _, _, _, _, tr, _⟩ := ic
      exact fin _ h3 tk _ ex (Nat.le_trans ge (Nat.le_of_lt lt)) ta.2 tr
  refine key _ fun cv h3 tk more ex ge tab3 tr3 => ?_
  obtain ⟨bm, ob, b1, b2, b3, b4, b5, b6, b7, b8⟩ := TB.bm
  have up : ∀ b u, b ≠ P → s1.heap.get? b = some u → h3.get? b = some u := fun b u n e => ex b u n (Heap.get?_push_of_some _ e)
  have sz : s1.heap.objs.size + 1 ≤ h3.objs.size := by rw [← Heap.size_push s1.heap o]; exact ge
  have nlS : cStatics ≠ P ∧ cStatics < s1.heap.objs.size := by
    obtain ⟨_, ns, _⟩ := I1.nolimit
    refine ⟨fun z => ?_, ns.lt⟩
    obtain ⟨o', es, ep, ho, hdd, _⟩ := ns
    rw [z, tabS] at ho
    cases ho
    cases hdd
  refine wpAny_builtinsFor (m := X.mg) (by rw [I1.ok.glob]; exact ((I1.mod.glob.keeps I1.bk).push o).extBut ex TB.gP) b1 b2 (up _ _ b4 (I1.bk _ _ b5)) b6 b7 b8 ?_
  refine ⟨s1.heap.objs.size, [s1.heap.objs.size, a], [s1.heap.objs.size], its.length, (fun i v => its[i]? = some v), St, (fun _ => true), (fun i y => ∃ y0, ys[i]? = some y0 ∧ RelV y0 y), rfl, W, ?_, ?_, (I1.nolimit.push o).extBut ex nlS.1, ?_, ?_, ?_⟩
  · refine (W X.A hr.hd).frame _ _ _ st0 fun b hb u e => ex b u (fun z => ?_) e
    rcases List.mem_cons.mp hb with q | q
    · exact neI (q.symm.trans z)
    · have q2 : b = a := by simpa using q
      exact absurd (q2.symm.trans z) (by
        intro az
        rcases hsq with hh | hh
        · obtain ⟨its', _, pl, _⟩ := I1.list hh
          obtain ⟨oo, _, e1, _, _, d1⟩ := pl
          rw [az, tabS] at e1
          cases e1
          cases d1
        · obtain ⟨its', _, pl, _⟩ := I1.tuple hh
          obtain ⟨oo, e1, _, _, d1⟩ := pl
          rw [az, tabS] at e1
          cases e1
          cases d1)
  · intro b hb
    show b < h3.objs.size
    rcases List.mem_cons.mp hb with q | q
    · rw [q]; exact Nat.lt_of_succ_le sz
    · have q2 : b = a := by simpa using q
      rw [q2]; exact Nat.lt_of_lt_of_le hlt (Nat.le_of_succ_le sz)
  · intro z
    have z2 : cStatics = s1.heap.objs.size := by simpa using z
    exact Nat.ne_of_lt nlS.2 z2
  · intro href hk
    refine ⟨fun A' E' i v t m hA _ _ hv hn hm hkp => ?_, fun A' E' i v t m hA _ hU hv _ hn hm hkp => ?_⟩
    · simp only [List.forIn_nil]
      exact wpAny_pure ⟨rfl, GxR.keeps_refl _⟩
    · have li : i < xs.length := by rw [rv.length]; exact (List.getElem?_eq_some_iff.mp hv).1
      obtain ⟨u, hu, ru⟩ := rv.get (List.getElem?_eq_getElem li)
      rw [hv] at hu
      cases hu
      refine wpAny_mono (hel pins s1 t _ cv _ A' E' i _ v m I1 hA hU (List.getElem?_eq_getElem li) ru hn hm fun b u n e => ?_) (fun y t' r => r) fun _ _ e => e
      have e3 := up b u n e
      refine hkp b (List.mem_range.mpr (Heap.lt_size e3)) (fun z => ?_) u (hk b u e3)
      have z2 : b = s1.heap.objs.size := by simpa using z
      exact Nat.lt_irrefl _ (z2 ▸ Heap.lt_size e)
  · intro g h5 tk5 gs hgb hag hsz5 hk5 W5 hat
    have el : its.length = ys.length := by rw [hyl, ← rv.length]
    simp only [GxR.passing_true, List.length_range, el] at W5 hat
    refine hQ ys H1 g _ (by rw [hyl]; exact hz) q1 ⟨_, _, _, _, _, W5, hat, ?_, List.mem_cons_self, fun i s9 st => st.1.typeIs, ?_, fun s' mv => ?_⟩
    · intro b hb
      show b < h5.objs.size
      rw [hsz5]
      rcases List.mem_cons.mp hb with q | q
      · rw [q]; exact Nat.lt_succ_self _
      · rcases List.mem_cons.mp q with q | q
        · rw [q]; exact Nat.lt_succ_of_lt hag
        · exact Nat.lt_succ_of_lt (Nat.lt_trans (List.mem_range.mp q) hag)
    · intro j v hv
      obtain ⟨i, hij, y0, hy, r⟩ := hv
      obtain ⟨hj, ej⟩ := List.getElem?_eq_some_iff.mp hij
      rw [List.getElem_range] at ej
      subst ej
      exact ⟨y0, hy, r⟩
    · have out : ∀ b u, s1.heap.get? b = some u → b ∉ h3.objs.size :: [s1.heap.objs.size] := fun b u e hb => by
        have l := Heap.lt_size e
        rcases List.mem_cons.mp hb with q | q
        · rw [q] at l
          exact absurd l (Nat.not_lt.mpr (Nat.le_of_succ_le sz))
        · have q2 : b = s1.heap.objs.size := by simpa using q
          exact Nat.lt_irrefl _ (q2 ▸ l)
      have J := GxR.inv_tab (more := more) (h' := s'.heap) (g' := s'.gens) (d' := s'.drawn) (t' := s'.toks) I1 hP (fun b u n e => mv.heap b u (out b u e) (hk5 b u (up b u n e))) (mv.heap P _ (out P _ tabS) (hk5 P _ tab3)) (AllBare.movedS (I1.bare.push hgb) mv)
      rw [GxR.sh_eta s1 s' mv.os] at J
      exact ⟨_, ⟨⟨ps ++ more, upd_same, tr3⟩, fun b hb => upd_ne hb⟩, J⟩
/-- tuple(elt for x in e) -/
def tTupG (X : Cx) (scope : Scope) (x : Str) (elt : Expr) (P : Addr) (te : TE) : TE := fun σ H Q => te σ H fun v H1 => ∃ (a : Addr) (xs ys : List V), v = .ref a ∧ Sq X.K H1 a xs ∧ ys.length = xs.length ∧ (∀ pins, EltV X pins σ scope x elt P H1 xs ys) ∧ GxR.TabG H1 P ∧
  ∀ H2, GxR.Tabbed P H1 H2 → ∀ p, H2 p = none → Q (.ref p) (upd H2 p (.tup ys))
theorem items_vals {ys : List V} {F : Nat → Value → Prop} {acc : Array Value} {n : Nat} (hn : ys.length = n) (hF : ∀ j v, F j v → ∃ y, ys[j]? = some y ∧ RelV y v) (h : ItemsOf F acc n) : Vals ys acc.toList := by
  have gen : ∀ (l : List Value) (zs : List V), zs.length = l.length → (∀ (j : Nat) (v : Value), l[j]? = some v → ∃ y, zs[j]? = some y ∧ RelV y v) → Vals zs l := by
    intro l
    induction l with
    | nil => intro zs e _; cases zs with
      | nil => exact .nil
      | cons z r => cases e
    | cons v r ih => intro zs e k; cases zs with
      | nil => cases e
      | cons z q =>
        obtain ⟨y, hy, ry⟩ := k 0 v rfl
        cases hy
        exact .cons ry (ih q (by simpa using e) fun j v hv => k (j + 1) v hv)
  refine gen acc.toList ys (by rw [hn, ← h.1]; simp) fun j v hv => hF j v (h.2 j v (by simpa using hv))
theorem pe_tupG {c P : Addr} {elt iter : Expr} {x : Str} {px p pos gpos : Pos} {scope : Scope} {te : TE} {k : Nat}
    (hr : Room k X.A) (hg : Gl X "tuple") (hm : X.mg "tuple" = none) (TB : GxR.TabB X.base X.mg c P) (hcode : X.env.code = .ref c) (S : GxR.GenS X.env scope x) (hi : PE X iter te) (hs : ∀ v, genFold iter X.env v = pure v)
    (he : starEach [.GeneratorExp elt [⟨.Name x px, iter, [], 0⟩] scope gpos] X.env = (false, eval (.GeneratorExp elt [⟨.Name x px, iter, [], 0⟩] scope gpos) X.env) :: starEach [] X.env := by rfl) :
    PE X (.Call (.Name "tuple" p) [.GeneratorExp elt [⟨.Name x px, iter, [], 0⟩] scope gpos] [] pos) (tTupG X scope x elt P te) := by
  refine ⟨fun pins s σ H Q I h => ?_⟩
  refine wpAny_Call_Name_kw (ld_blt I hg hm boot_tuple (PyProof.Rows.callWith_type1 ?_ he (by rfl)))
  rw [he]
  show wpAny _ _ (spliced ((false, _) :: backTo pos (starEach [] X.env))) _ _ s
  unfold tTupG at h
  refine Calls.spliced_cons (gen_sq (te := te) (R := fun ys H1 => ∀ H2, GxR.Tabbed P H1 H2 → ∀ p, H2 p = none → Q (.ref p) (upd H2 p (.tup ys))) hr TB hcode S hi hs I (H := H) h fun ys H1 g s5 hz hR hG => ?_)
  · obtain ⟨fp, wr, G, F, St, W, st, hfp, hgf, hty, hF, hI⟩ := hG
    refine Calls.spliced_nil (call_tuple_gen W.in4_3 hty st hfp hgf (fun s' acc mv ia => ?_) hz)
    obtain ⟨H2, hT, J⟩ := hI s' mv
    have rv := items_vals rfl hF ia
    refine ⟨.ref s'.heap.objs.size, _, J.laid (t' := s'.toks) (o := .tup ys) (fun b u e => Heap.get?_push_of_some _ e) (Nat.le_refl _) ⟨hz, acc.toList, rv, ?_⟩, rfl, hR H2 hT _ (J.hok.fresh (Nat.le_refl _))⟩
    have z := IsTup.new s'.heap acc
    simpa using z
/-- all(elt for x in e), any(elt for x in e), the element True or False -/
def tAllG (X : Cx) (scope : Scope) (x : Str) (elt : Expr) (P : Addr) (te : TE) : TE := fun σ H Q => te σ H fun v H1 => ∃ (a : Addr) (xs ys : List V), v = .ref a ∧ Sq X.K H1 a xs ∧ ys.length = xs.length ∧ (∀ pins, EltV X pins σ scope x elt P H1 xs ys) ∧ GxR.TabG H1 P ∧
  ∃ bs : List Bool, ys = bs.map V.bl ∧ ∀ H2, GxR.Tabbed P H1 H2 → Q (.bl (bs.all id)) H2
def tAnyG (X : Cx) (scope : Scope) (x : Str) (elt : Expr) (P : Addr) (te : TE) : TE := fun σ H Q => te σ H fun v H1 => ∃ (a : Addr) (xs ys : List V), v = .ref a ∧ Sq X.K H1 a xs ∧ ys.length = xs.length ∧ (∀ pins, EltV X pins σ scope x elt P H1 xs ys) ∧ GxR.TabG H1 P ∧
  ∃ bs : List Bool, ys = bs.map V.bl ∧ ∀ H2, GxR.Tabbed P H1 H2 → Q (.bl (bs.any id)) H2
theorem truth_bls {A : Around} {bs : List Bool} {F : Nat → Value → Prop} (hF : ∀ j v, F j v → ∃ y, (bs.map V.bl)[j]? = some y ∧ RelV y v) : TruthOf X.prog X.w A F (fun j => bs.getD j false) := by
  intro j v t Q E hv hq
  obtain ⟨y, hy, r⟩ := hF j v hv
  rw [List.getElem?_map] at hy
  cases e : bs[j]? with
  | none => rw [e] at hy; cases hy
  | some b =>
    rw [e] at hy
    cases hy
    cases (show v = Value.bool b from r)
    have e2 : bs.getD j false = b := by rw [List.getD_eq_getElem?_getD, e]; rfl
    exact wpAny_truthy_bool (by rw [← e2]; exact hq)
theorem all_range (bs : List Bool) : (List.range bs.length).all (fun j => bs.getD j false) = bs.all id := by
  rw [Bool.eq_iff_iff, List.all_eq_true, List.all_eq_true]
  constructor
  · intro h b hb
    obtain ⟨j, hj, e⟩ := List.getElem_of_mem hb
    have q := h j (List.mem_range.mpr hj)
    rw [List.getD_eq_getElem?_getD, List.getElem?_eq_getElem hj, e] at q
    exact q
  · intro h j hj
    have hj' := List.mem_range.mp hj
    rw [List.getD_eq_getElem?_getD, List.getElem?_eq_getElem hj']
    exact h _ (List.getElem_mem hj')
theorem any_range (bs : List Bool) : (List.range bs.length).any (fun j => bs.getD j false) = bs.any id := by
  rw [Bool.eq_iff_iff, List.any_eq_true, List.any_eq_true]
  constructor
  · intro ⟨j, hj, q⟩
    have hj' := List.mem_range.mp hj
    rw [List.getD_eq_getElem?_getD, List.getElem?_eq_getElem hj'] at q
    exact ⟨_, List.getElem_mem hj', q⟩
  · intro ⟨b, hb, q⟩
    obtain ⟨j, hj, e⟩ := List.getElem_of_mem hb
    refine ⟨j, List.mem_range.mpr hj, ?_⟩
    rw [List.getD_eq_getElem?_getD, List.getElem?_eq_getElem hj, e]
    exact q
theorem pe_allG {c P : Addr} {elt iter : Expr} {x : Str} {px p pos gpos : Pos} {scope : Scope} {te : TE} {k : Nat}
    (hr : Room k X.A) (hg : Gl X "all") (hm : X.mg "all" = none) (TB : GxR.TabB X.base X.mg c P) (hcode : X.env.code = .ref c) (S : GxR.GenS X.env scope x) (hi : PE X iter te) (hs : ∀ v, genFold iter X.env v = pure v)
    (he : starEach [.GeneratorExp elt [⟨.Name x px, iter, [], 0⟩] scope gpos] X.env = (false, eval (.GeneratorExp elt [⟨.Name x px, iter, [], 0⟩] scope gpos) X.env) :: starEach [] X.env := by rfl) :
    PE X (.Call (.Name "all" p) [.GeneratorExp elt [⟨.Name x px, iter, [], 0⟩] scope gpos] [] pos) (tAllG X scope x elt P te) := by
  refine ⟨fun pins s σ H Q I h => ?_⟩
  refine wpAny_Call_Name_kw (ld_blt I hg hm boot_all (PyProof.Rows.callWith_builtin1 ?_ he (by rfl)))
  rw [he]
  show wpAny _ _ (spliced ((false, _) :: backTo pos (starEach [] X.env))) _ _ s
  unfold tAllG at h
  refine Calls.spliced_cons (gen_sq (te := te) (R := fun ys H1 => ∃ bs : List Bool, ys = bs.map V.bl ∧ ∀ H2, GxR.Tabbed P H1 H2 → Q (.bl (bs.all id)) H2) hr TB hcode S hi hs I (H := H) h fun ys H1 g s5 hz hR hG => ?_)
  obtain ⟨bs, rfl, hR⟩ := hR
  obtain ⟨fp, wr, G, F, St, W, st, hfp, hgf, hty, hF, hI⟩ := hG
  refine Calls.spliced_nil (call_all_walkS (W.in4_1.self 0 _ _ _ st ⟨g, fp, wr, G, _, F, St, _, rfl, W.in4_1, st, truth_bls hF, fun s' mv => ?_⟩))
  obtain ⟨H2, hT, J⟩ := hI s' mv
  refine ⟨.bl _, H2, J, rfl, ?_⟩
  rw [List.length_map, all_range]
  exact hR H2 hT
theorem pe_anyG {c P : Addr} {elt iter : Expr} {x : Str} {px p pos gpos : Pos} {scope : Scope} {te : TE} {k : Nat}
    (hr : Room k X.A) (hg : Gl X "any") (hm : X.mg "any" = none) (TB : GxR.TabB X.base X.mg c P) (hcode : X.env.code = .ref c) (S : GxR.GenS X.env scope x) (hi : PE X iter te) (hs : ∀ v, genFold iter X.env v = pure v)
    (he : starEach [.GeneratorExp elt [⟨.Name x px, iter, [], 0⟩] scope gpos] X.env = (false, eval (.GeneratorExp elt [⟨.Name x px, iter, [], 0⟩] scope gpos) X.env) :: starEach [] X.env := by rfl) :
    PE X (.Call (.Name "any" p) [.GeneratorExp elt [⟨.Name x px, iter, [], 0⟩] scope gpos] [] pos) (tAnyG X scope x elt P te) := by
  refine ⟨fun pins s σ H Q I h => ?_⟩
  refine wpAny_Call_Name_kw (ld_blt I hg hm boot_any (PyProof.Rows.callWith_builtin1 ?_ he (by rfl)))
  rw [he]
  show wpAny _ _ (spliced ((false, _) :: backTo pos (starEach [] X.env))) _ _ s
  unfold tAnyG at h
  refine Calls.spliced_cons (gen_sq (te := te) (R := fun ys H1 => ∃ bs : List Bool, ys = bs.map V.bl ∧ ∀ H2, GxR.Tabbed P H1 H2 → Q (.bl (bs.any id)) H2) hr TB hcode S hi hs I (H := H) h fun ys H1 g s5 hz hR hG => ?_)
  obtain ⟨bs, rfl, hR⟩ := hR
  obtain ⟨fp, wr, G, F, St, W, st, hfp, hgf, hty, hF, hI⟩ := hG
  refine Calls.spliced_nil (call_any_walkS (W.in4_1.self 0 _ _ _ st ⟨g, fp, wr, G, _, F, St, _, rfl, W.in4_1, st, truth_bls hF, fun s' mv => ?_⟩))
  obtain ⟨H2, hT, J⟩ := hI s' mv
  refine ⟨.bl _, H2, J, rfl, ?_⟩
  rw [List.length_map, any_range]
  exact hR H2 hT
/-- an element f[x]: f a captured name of a tuple, x the walk's own -/
theorem elt_item {f x : Str} {scope : Scope} {P fa : Addr} {H1 : Hp} {xs ys zs : List V} {j : Nat} {p1 p2 p3 : Pos} (hk : scope.kind = .function) (hx : scope.names.lookup x = some .local) (hf : scope.names.lookup f = some .free)
    (hcl : (cloFrom X.env.cells scope.names []).lookup f = some ((X.env.cells.lookup f).getD 0)) (hj : X.N[j]? = some f) (hkf : X.env.kindOf f = some .cell) (hσ : σ[j]? = some (some (.ref fa))) (hq : SqT X.K H1 fa zs) (hT : GxR.TabG H1 P)
    (hv : ∀ (i : Nat) x0, xs[i]? = some x0 → ∃ (n : Int) (y : V), x0 = .int n ∧ atI zs n = some y ∧ ys[i]? = some y) (hdf : (f == ("__debug__" : Str)) = false := by decide) (hdx : (x == ("__debug__" : Str)) = false := by decide) (hcf : (f == ("__classdict__" : Str)) = false := by decide) :
    EltV X pins σ scope x (.Subscript (.Name f p1) (.Name x p2) p3) P H1 xs ys := by
  intro s1 t C code bi A' E' i x0 u m I hA hU hx0 ru hn hm hkp
  obtain ⟨n, y, rfl, hat, hy⟩ := hv i x0 hx0
  obtain ⟨tk, rfl⟩ := (show ∃ t, u = Value.int n t from ru)
  obtain ⟨ps, hP, _⟩ := hT
  have tabS : s1.heap.get? P = some { cls := .none, data := .fields ps } := I.hok P _ hP
  obtain ⟨m1, _, hl⟩ := I.loc
  obtain ⟨uf, rf, lk⟩ := hl j f _ hj hσ (.inr (.inl hkf))
  cases (show uf = Value.ref fa from rf)
  obtain ⟨c, hc, ic⟩ : ∃ c, X.env.cells.lookup f = some c ∧ s1.heap.IsCell c (some (.ref fa)) := by
    rcases lk with ⟨z, _⟩ | ⟨_, c, hc, ic⟩
    · rw [hkf] at z; cases z
    · exact ⟨c, hc, ic⟩
  have ic2 : t.heap.IsCell c (some (.ref fa)) := by
    obtain ⟨o, ho, hd⟩ := ic
    refine ⟨o, hkp c o (fun z => ?_) ho, hd⟩
    rw [z, tabS] at ho
    cases ho
    cases hd
  obtain ⟨its, rv, pl, hz⟩ := I.tuple hq
  have pl2 : IsTup t.heap fa its.toArray := by
    obtain ⟨o, ho, hcl', nn, hd⟩ := pl
    refine ⟨o, hkp fa o (fun z => ?_) ho, hcl', nn, hd⟩
    rw [z, tabS] at ho
    cases ho
    cases hd
  obtain ⟨jj, h1, h2, h3, h4, h5⟩ := atI_get hat
  obtain ⟨wv, ew, rw'⟩ := rv.get h2
  have hlen := rv.length
  have hn63 := line63
  have clf : (genEnv scope (cloFrom X.env.cells scope.names []) C code bi X.env).cells.lookup f = some c := by
    show (cloFrom X.env.cells scope.names []).lookup f = some c
    rw [hcl, hc]
    rfl
  refine Subscript_ (wpAny_Name (wpAny_loadName_free hk hf clf ic2 (wpAny_Name (wpAny_loadName_local hk hx hn hm ?_) hdx) hcf) hdf)
  exact subscriptTail_builtinR (x := wv) pl2.typeIs slot_tuple_getitem.lookup
    (getItem_tuple (j := jj) (Q := fun r s' => r = wv ∧ ((∃ y0, ys[i]? = some y0 ∧ RelV y0 r) ∧ Keeps t s')) pl2 (by omega) (by omega) (by rw [List.size_toArray, ← hlen]; exact h1) (by simpa using ew) ⟨rfl, ⟨y, hy, rw'⟩, GxR.keeps_refl _⟩) (by rfl)
end
end Gv

set_option Elab.async false
set_option linter.all false
set_option maxRecDepth 100000
set_option maxHeartbeats 4000000
/-! enumerate(t), t a tuple -/
namespace Et
open PySem PySem.Spec PyProof.Rows L2
theorem meets_one {v : Value} {o : Obj} {B : Heap → Prop} (hB : Begins v o B) :
    Meets (Builtin.«enumerate.__new__» ⟨[.type "enumerate", v], []⟩) (fun _ R s => B s.heap ∧
      R (.ok (.ret (.ref (s.heap.push o).objs.size))) { s with heap := (s.heap.push o).push { cls := .type "enumerate", data := .fields #[.none, .bool false, .ref s.heap.objs.size, rawInt 0, .none, .none] } }) :=
  .of_wp fun prog w A R s h => by
    obtain ⟨hp, g, d, tk, os⟩ := s
    obtain ⟨hb, h⟩ := h
    have hsub := sub_enumerate
    have begin1 : ∀ {A1 : Around} {E1 : Value → Shared → Prop} {Q1 : Value → Shared → Prop}, Q1 (.ref hp.objs.size) ⟨hp.push o, g, d, tk, os⟩ → wpAny (model prog w) A1 (pyIter v) Q1 E1 ⟨hp, g, d, tk, os⟩ := fun q => hB.iter prog w _ _ ⟨hp, g, d, tk, os⟩ _ hb q
    wp_walk using begin1
    refine wpAny_stack_any fun stk => wpAny_pure ?_
    split
    next c _ _ _ _ _ =>
      cases (c == Value.type "enumerate") <;> (wp_walk using begin1; exact ⟨_, rfl, h⟩)
    next => wp_walk using begin1; exact ⟨_, rfl, h⟩
theorem make {prog : Program} {w : World} {A : Around} {E : Value → Shared → Prop} {s : Shared} {v : Value} {o : Obj} {B : Heap → Prop} {Q : Value → Shared → Prop} (hB : Begins v o B) (hb : B s.heap)
    (k : ∀ h', IsEnum h' (s.heap.objs.size + 1) s.heap.objs.size 0 .none → h'.get? s.heap.objs.size = some o → (∀ b o, s.heap.get? b = some o → h'.get? b = some o) → Q (.ref (s.heap.objs.size + 1)) { s with heap := h' }) :
    wpAny (model prog w) A (call (.type "enumerate") [v]) Q E s := by
  refine callType_new F.called_enumerate (by decide) (F.typeCall_enumerate_1 _) (F.newCall_enumerate_1 _) (fun obj => F.args_object_init_2 obj _) F.entry_enumerate_new (meets_one hB) ⟨hb, ?_⟩
  have z : (s.heap.push o).objs.size = s.heap.objs.size + 1 := Heap.size_push ..
  generalize hn : ({ cls := .type "enumerate", data := .fields #[.none, .bool false, .ref s.heap.objs.size, rawInt 0, .none, .none] } : Obj) = en
  have e : ((s.heap.push o).push en).get? (s.heap.objs.size + 1) = some en := by
    have q := Heap.get?_push_size (s.heap.push o) (o := en) (by rw [← hn]; rfl)
    rw [z] at q
    exact q
  have ie : IsEnum ((s.heap.push o).push en) (s.heap.objs.size + 1) s.heap.objs.size 0 .none := by
    subst hn
    exact e
  show _ ∧ _
  rw [z]
  exact ⟨⟨_, e, by rw [← hn]⟩, k _ ie (Heap.get?_push_of_some _ (Heap.get?_push_size _ hB.free)) fun b u x => Heap.get?_push_of_some _ (Heap.get?_push_of_some _ x)⟩
/-- the tuple at a walked with its places -/
def ItE (K : PySem.W.Frag) (a : Addr) : It :=
  ⟨fun i H => ∃ (xs : List V) (x : V), SqT K H a xs ∧ xs[i]? = some x, fun i H v H' => ∃ T x, v = .ref T ∧ H T = none ∧ H' = upd H T (.tup [.int (i : Nat), x]) ∧ ∀ xs, SqT K H a xs → xs[i]? = some x,
    fun i H => ∃ xs : List V, SqT K H a xs ∧ xs.length = i⟩
theorem turn {P : Program} {w : World} {K : PySem.W.Frag} {elts : List Expr} {kk : Nat} {tpos : Pos} (a e it : Addr) (hei : e ≠ it) :
    Turn P w K (.Tuple elts kk tpos) (ItE K a) [e, it] e (fun i h => (∃ old, IsEnum h e it ((i : Nat) : Int) old) ∧ h.IsTupleIter it a i) where
  mem := List.mem_cons_self
  obj := fun i h st b hb => by
    obtain ⟨⟨old, he⟩, o, ho, _, hd⟩ := st
    rcases List.mem_cons.mp hb with z | z
    · rw [z]; exact ⟨_, he, fun v q => nomatch q⟩
    · rw [List.mem_singleton.mp z]; exact ⟨o, ho, fun v q => by rw [hd] at q; cases q⟩
  keep := fun i h h' st k => ⟨let ⟨old, he⟩ := st.1; ⟨old, k e (by simp) _ he⟩, st.2.at fun o q => k it (by simp) o q⟩
  item := by
    intro X hP hw hK hc i pins s σ H E I hf st hg
    subst hP hw hK
    obtain ⟨⟨old, he⟩, hit⟩ := st
    obtain ⟨xs, x, hq, hx⟩ := hg
    obtain ⟨its, rv, pl, hz⟩ := I.tuple hq
    obtain ⟨u, hu, ru⟩ := rv.get hx
    have le : e < s.heap.objs.size := Heap.lt_size he
    have li : it < s.heap.objs.size := by obtain ⟨_, q, _⟩ := hit; exact Heap.lt_size q
    have nai : a ≠ it := fun z => by
      obtain ⟨o, q, hcl, _⟩ := hit
      obtain ⟨o2, q2, hcl2, _⟩ := pl
      rw [z, q] at q2
      cases q2
      rw [hcl] at hcl2
      exact absurd (Value.type.inj hcl2) (by decide)
    have nea : e ≠ a := fun z => by
      obtain ⟨o2, q2, hcl2, _⟩ := pl
      rw [← z] at q2
      have q3 := Option.some.inj (he.symm.trans q2)
      rw [← q3] at hcl2
      exact absurd (Value.type.inj hcl2) (by decide)
    have D := Draws.tuple (prog := X.prog) (w := X.w) (A := X.A.in1) (I.ok.hd hc) it a nai its.toArray
    have hlt : i < its.toArray.size := by simpa using (List.getElem?_eq_some_iff.mp hu).1
    refine wpAny_pyNext_enum_itemD D he ⟨hit, pl⟩ hlt hei (by simp [hei, nea]) fun y h' tk hy ho st' hT hsz hk => ?_
    obtain rfl : y = u := by
      have q : its[i]? = some y := by simpa using hy
      exact Option.some.inj (q.symm.trans hu)
    refine ⟨_, rfl, wpAny_letOwnedTupleGo_enum (s := { s with heap := h', toks := tk + 1 }) ho fun h'' he' sb => ?_⟩
    have tT : h''.get? s.heap.objs.size = some { cls := .type "tuple", data := .seq #[.int i tk, y] } := (sb.2 _ (Nat.ne_of_gt le)).trans hT
    have J : Inv X pins σ (upd H s.heap.objs.size (.tup [.int (i : Nat), x])) { s with heap := h'', toks := tk + 1 } :=
      I.turnedNew (ch := [e, it]) (fun b ob nb q => (sb.2 b (fun z => nb (by simp [z]))).trans (hk b ob (fun z => nb (by simp [z])) (fun z => nb (by simp [z])) q)) hf (Nat.le_refl _)
        ⟨by show 2 ≤ sizeLine; decide, [.int i tk, y], .cons ⟨_, rfl⟩ (.cons ru .nil), ⟨_, tT, rfl, _, rfl⟩⟩
    refine ⟨.ref s.heap.objs.size, _, J, rfl, ⟨_, x, rfl, I.hok.fresh (Nat.le_refl _), rfl, fun ys hy => by rw [I.tuple_inj hy hq]; exact hx⟩, ⟨⟨y, ?_⟩, st'.1.at fun o q => (sb.2 it (Ne.symm hei)).trans q⟩, fun b hb => ?_⟩
    · have c1 : ((i + 1 : Nat) : Int) = (i : Int) + 1 := by omega
      rw [c1]; exact he'
    · have lb : b < s.heap.objs.size := by
        rcases List.mem_cons.mp hb with z | z
        · rw [z]; exact le
        · rw [List.mem_singleton.mp z]; exact li
      rw [upd_ne (Nat.ne_of_lt lb)]
      exact (hf b hb).1
  done := by
    intro X hP hw hK hc i pins s σ H E I hf st hg
    subst hP hw hK
    obtain ⟨⟨old, he⟩, hit⟩ := st
    obtain ⟨xs, hq, hx⟩ := hg
    obtain ⟨its, rv, pl, hz⟩ := I.tuple hq
    obtain ⟨f0, f1, f2, f3, f4, f5⟩ := hf it (by simp)
    have hl := rv.length
    have nai : a ≠ it := fun z => by
      obtain ⟨o, q, hcl, _⟩ := hit
      obtain ⟨o2, q2, hcl2, _⟩ := pl
      rw [z, q] at q2
      cases q2
      rw [hcl] at hcl2
      exact absurd (Value.type.inj hcl2) (by decide)
    have D := Draws.tuple (prog := X.prog) (w := X.w) (A := X.A.in1) (I.ok.hd hc) it a nai its.toArray
    have en : i = its.toArray.size := by rw [List.size_toArray, ← hl, hx]
    exact wpAny_pyNext_enum_endD D he (by rw [← en]; exact ⟨hit, pl⟩) fun h' eb => ⟨rfl, I.turned (t' := s.toks) (fun b o hb q => eb b o hb q) f0 f1 f3 f4 f5⟩
  self := fun A i s Q E st h => let ⟨⟨_, he⟩, _⟩ := st; wpAny_pyIter_enum he h
def iEnumT (K : PySem.W.Frag) (ta : TA) : TI := fun σ H R => ta σ H fun vs H1 => ∃ a xs, vs = [.ref a] ∧ SqT K H1 a xs ∧ R (ItE K a) H1
theorem pi_enumT {X : Cx} {e : Expr} {ta : TA} {p pos tpos : Pos} {elts : List Expr} {kk : Nat} (hg : Gl X "enumerate") (hm : X.mg "enumerate" = none) (ha : PA X [e] ta) (hs : starEach [e] X.env = [(false, eval e X.env)] := by rfl) :
    PI X (.Tuple elts kk tpos) (.Call (.Name "enumerate" p) [e] [] pos) (iEnumT X.K ta) := by
  refine ⟨fun pins s σ H R I h => ?_⟩
  refine Call_ (ld_blt I hg hm boot_enumerate (PyProof.Rows.callWith_type1 (thn (ha.run pos pins s σ H _ I h) fun us s1 ⟨vs, H1, I1, r1, q1⟩ => ?_) hs rfl))
  obtain ⟨a, xs, rfl, hq, q⟩ := q1
  obtain ⟨u, rfl, ru⟩ := vals1 r1
  cases (show u = Value.ref a from ru)
  obtain ⟨its, rv, pl, hz⟩ := I1.tuple hq
  refine make (begins_tuple a its.toArray) pl fun h' ie io kp => wpAny_pyIter_enum ie ?_
  refine ⟨s1.heap.objs.size + 1, [s1.heap.objs.size + 1, s1.heap.objs.size], _, _, H1, rfl, I1.kept (t' := s1.toks) kp, turn a (s1.heap.objs.size + 1) s1.heap.objs.size (Nat.succ_ne_self _), ⟨⟨.none, ie⟩, _, io, rfl, rfl⟩, fun b hb => ?_, q⟩
  have lb : s1.heap.objs.size ≤ b := by
    rcases List.mem_cons.mp hb with z | z
    · rw [z]; exact Nat.le_succ _
    · rw [List.mem_singleton.mp z]; exact Nat.le_refl _
  exact I1.fpOk lb (I1.hok.fresh lb)
/-- for (i, x) in enumerate(t): an invariant over the turns -/
theorem for_enumT {K : PySem.W.Frag} {a : Addr} {xs : List V} {g : TG} {tb : TS} {D : Ends} {σ : L2.St} {H : Hp} (Pv : Nat → L2.St → Hp → Prop) (h0 : Pv 0 σ H) (hl : ∀ i σ H, i ≤ xs.length → Pv i σ H → SqT K H a xs)
    (hs : ∀ i x σ H T, xs[i]? = some x → Pv i σ H → H T = none → g (.ref T) σ (upd H T (.tup [.int (i : Nat), x])) fun σ2 H2 => tb { D with nx := Pv (i + 1), ct := Pv (i + 1), bk := D.nx } σ2 H2) (hd : ∀ σ H, Pv xs.length σ H → D.nx σ H) :
    ∃ W : Nat → Nat → L2.St → Hp → Prop, (∃ m, W 0 m σ H) ∧ ∀ i m σ H, W i m σ H →
      ((ItE K a).stop i H ∧ D.nx σ H) ∨ ((ItE K a).go i H ∧ ∃ N : L2.St → Hp → Prop, (∀ σ' H', N σ' H' → ∃ m', m' < m ∧ W (i + 1) m' σ' H') ∧ ∀ x H', (ItE K a).yld i H x H' → g x σ H' fun σ2 H2 => tb { D with nx := N, ct := N, bk := D.nx } σ2 H2) := by
  refine ⟨fun i m σ H => i + m = xs.length ∧ Pv i σ H, ⟨xs.length, by omega, h0⟩, ?_⟩
  rintro i m σ H ⟨e, p⟩
  have q := hl i σ H (by omega) p
  by_cases c : i < xs.length
  · refine .inr ⟨⟨xs, xs[i], q, List.getElem?_eq_getElem c⟩, Pv (i + 1), fun σ' H' p' => ⟨m - 1, by omega, by omega, p'⟩, fun v H' hy => ?_⟩
    obtain ⟨T, x, rfl, nT, rfl, fx⟩ := hy
    exact hs i x σ H T (fx xs q) p nT
  · have e2 : i = xs.length := by omega
    subst e2
    exact .inl ⟨⟨xs, q, rfl⟩, hd σ H p⟩
theorem lc_enumT {K : PySem.W.Frag} {a : Addr} {xs : List V} {g : TG} {tt : TT} {te : TE} {vs : List Nat} {σ : L2.St} {H1 : Hp} {D : Addr} {Qd : Hp → Prop} (Pv : Nat → Hp → Prop) (h0 : Pv 0 (upd H1 D (.lst []))) (hl : ∀ i H, i ≤ xs.length → Pv i H → SqT K H a xs)
    (hs : ∀ i x H T, xs[i]? = some x → Pv i H → H T = none → g (.ref T) (wipe σ vs) (upd H T (.tup [.int (i : Nat), x])) fun σ2 H2 => wipe σ2 vs = wipe σ vs ∧ tt σ2 H2 fun b H3 =>
      if b = true then te σ2 H3 fun y H4 => ∃ acc, H4 D = some (.lst acc) ∧ acc.length < sizeLine ∧ Pv (i + 1) (upd H4 D (.lst (acc ++ [y]))) else Pv (i + 1) H3) (hd : ∀ H, Pv xs.length H → Qd H) :
    ∃ W : Nat → Nat → Hp → Prop, (∃ m, W 0 m (upd H1 D (.lst []))) ∧ ∀ i m H, W i m H →
      ((ItE K a).stop i H ∧ Qd H) ∨ ((ItE K a).go i H ∧ ∃ Nx : Hp → Prop, (∀ H', Nx H' → ∃ m', m' < m ∧ W (i + 1) m' H') ∧ ∀ x H', (ItE K a).yld i H x H' → g x (wipe σ vs) H' fun σ2 H2 => wipe σ2 vs = wipe σ vs ∧ tt σ2 H2 fun b H3 =>
        if b = true then te σ2 H3 fun y H4 => ∃ acc, H4 D = some (.lst acc) ∧ acc.length < sizeLine ∧ Nx (upd H4 D (.lst (acc ++ [y]))) else Nx H3) := by
  refine ⟨fun i m H => i + m = xs.length ∧ Pv i H, ⟨xs.length, by omega, h0⟩, ?_⟩
  rintro i m H ⟨e, p⟩
  have q := hl i H (by omega) p
  by_cases c : i < xs.length
  · refine .inr ⟨⟨xs, xs[i], q, List.getElem?_eq_getElem c⟩, Pv (i + 1), fun H' p' => ⟨m - 1, by omega, by omega, p'⟩, fun v H' hy => ?_⟩
    obtain ⟨T, x, rfl, nT, rfl, fx⟩ := hy
    exact hs i x H T (fx xs q) p nT
  · have e2 : i = xs.length := by omega
    subst e2
    exact .inl ⟨⟨xs, q, rfl⟩, hd H p⟩
end Et

set_option Elab.async false
set_option linter.all false
set_option maxRecDepth 100000
set_option maxHeartbeats 4000000
/-! riddles as they lie in the heap, their data, and what a filling breaks -/
namespace Dt
open PySem PySem.Spec PyProof.Rows L2
/-! ### in, of a tuple of data -/
def rInT (K : PySem.W.Frag) : R2 := fun x y H Q => ∃ d ds, Dp K H x d ∧ Dp K H y (.tuple ds) ∧ SeqAt.shaped d = true ∧ SeqAt.shaped (.tuple ds) = true ∧ Q (.bl (ds.any fun z => PyData.eqv z d)) H
theorem op_inT {X : Cx} (hu : X.A.units + 65 < cLine) : OpR X (compareOp .In) (rInT X.K) := by
  intro pins s σ H x y v u Q I rx ry h
  obtain ⟨d, ds, hd, he, sd, se, q⟩ := h
  obtain ⟨as, r1⟩ := Dp.reads I d x v hd rx
  obtain ⟨bs, r2⟩ := Dp.reads I (.tuple ds) y u he ry
  exact SeqAt.in_tuple_reads r2 r1 (SeqAt.canLay_of_shaped se) (SeqAt.canLay_of_shaped sd) (room_in_shaped sd hu) ⟨.bl _, H, I, rfl, q⟩
/-! ### wishes and riddles -/
abbrev Row := List Int
abbrev WD := List Int × List Row
def IsRow (H : Hp) (r : Addr) (row : Row) : Prop := H r = some (.tup (row.map V.int))
def IsWish (H : Hp) (wa : Addr) (wd : WD) : Prop := ∃ (pa ra : Addr) (rs : List Addr), H wa = some (.tup [.ref pa, .ref ra]) ∧ H pa = some (.tup (wd.1.map V.int)) ∧ H ra = some (.tup (rs.map V.ref)) ∧ Paired (IsRow H) rs wd.2
def IsRid (H : Hp) (ri : Addr) (many hues : Int) (wds : List WD) : Prop := ∃ (wt : Addr) (was : List Addr), H ri = some (.tup [.int many, .int hues, .ref wt]) ∧ H wt = some (.tup (was.map V.ref)) ∧ Paired (IsWish H) was wds
/-- tuples stay -/
def Tups (H H' : Hp) : Prop := ∀ b xs, H b = some (.tup xs) → H' b = some (.tup xs)
theorem Tups.refl (H : Hp) : Tups H H := fun _ _ e => e
theorem Tups.trans {H H1 H2 : Hp} (a : Tups H H1) (b : Tups H1 H2) : Tups H H2 := fun c xs e => b c xs (a c xs e)
theorem tups_same {H H' : Hp} (s : Same H H') : Tups H H' := fun b xs e => s b _ e
theorem tups_upd {H : Hp} {p : Addr} {o : HO} (h : ∀ xs, H p ≠ some (.tup xs)) : Tups H (upd H p o) := fun b xs e => by
  rw [upd_ne (fun z => h xs (by rw [← z]; exact e))]
  exact e
theorem pairedMap {α β : Type} {F G : α → β → Prop} : ∀ {l : List α} {m : List β}, (∀ a b, F a b → G a b) → Paired F l m → Paired G l m
  | _, _, _, .nil => .nil
  | _, _, k, .cons h t => .cons (k _ _ h) (pairedMap k t)
theorem pairedLen {α β : Type} {F : α → β → Prop} : ∀ {l : List α} {m : List β}, Paired F l m → l.length = m.length
  | _, _, .nil => rfl
  | _, _, .cons _ t => by rw [List.length_cons, List.length_cons, pairedLen t]
theorem pairedGet {α β : Type} {F : α → β → Prop} : ∀ {l : List α} {m : List β} {i : Nat} {b : β}, Paired F l m → m[i]? = some b → ∃ a, l[i]? = some a ∧ F a b
  | _, _, _, _, .nil, h => by simp at h
  | _, _, 0, _, .cons h _, e => by cases e; exact ⟨_, rfl, h⟩
  | _, _, i + 1, b, .cons _ t, e => pairedGet (i := i) (b := b) t e
theorem pairedGetL {α β : Type} {F : α → β → Prop} : ∀ {l : List α} {m : List β} {i : Nat} {a : α}, Paired F l m → l[i]? = some a → ∃ b, m[i]? = some b ∧ F a b
  | _, _, _, _, .nil, h => by simp at h
  | _, _, 0, _, .cons h _, e => by cases e; exact ⟨_, rfl, h⟩
  | _, _, i + 1, a, .cons _ t, e => pairedGetL (i := i) (a := a) t e
theorem IsWish.mono {H H' : Hp} {wa : Addr} {wd : WD} (t : Tups H H') (h : IsWish H wa wd) : IsWish H' wa wd := by
  obtain ⟨pa, ra, rs, h1, h2, h3, h4⟩ := h
  exact ⟨pa, ra, rs, t _ _ h1, t _ _ h2, t _ _ h3, pairedMap (fun a b e => t _ _ e) h4⟩
theorem IsRid.mono {H H' : Hp} {ri : Addr} {m h : Int} {wds : List WD} (t : Tups H H') (x : IsRid H ri m h wds) : IsRid H' ri m h wds := by
  obtain ⟨wt, was, h1, h2, h3⟩ := x
  exact ⟨wt, was, t _ _ h1, t _ _ h2, pairedMap (fun _ _ e => IsWish.mono t e) h3⟩
/-- what may come of the law's drawing -/
structure Good (many hues : Int) (wd : WD) : Prop where
  one : 1 ≤ wd.1.length
  three : wd.1.length ≤ 3
  pl : ∀ p ∈ wd.1, 0 ≤ p ∧ p < many
  some_ : 1 ≤ wd.2.length
  few : wd.2.length ≤ 64
  row : ∀ r ∈ wd.2, r.length = wd.1.length ∧ ∀ h ∈ r, 0 ≤ h ∧ h < hues
structure GoodR (many hues : Int) (wds : List WD) : Prop where
  m1 : 1 ≤ many
  m6 : many ≤ 6
  h2 : 2 ≤ hues
  h4 : hues ≤ 4
  eight : wds.length ≤ 8
  each : ∀ wd ∈ wds, Good many hues wd
structure GoodF (many hues : Int) (fs : List Int) : Prop where
  len : (fs.length : Int) = many
  hue : ∀ h ∈ fs, 0 ≤ h ∧ h < hues
/-! ### the data -/
def rowD (r : Row) : PyData := .tuple (r.map .int)
def wishD (wd : WD) : PyData := .tuple [rowD wd.1, .tuple (wd.2.map rowD)]
def ridD (many hues : Int) (wds : List WD) : PyData := .tuple [.int many, .int hues, .tuple (wds.map wishD)]
section
variable {K : PySem.W.Frag} {H : Hp}
theorem dpInts : ∀ ns : List Int, DpAll K H (ns.map V.int) (ns.map PyData.int)
  | [] => .nil
  | n :: r => .cons (.int n) (dpInts r)
theorem dpRow {r : Addr} {row : Row} (h : IsRow H r row) : Dp K H (.ref r) (rowD row) := .tup (.inl (.inl h)) (dpInts row)
theorem dpRows : ∀ {rs : List Addr} {rows : List Row}, Paired (IsRow H) rs rows → DpAll K H (rs.map V.ref) (rows.map rowD)
  | _, _, .nil => .nil
  | _, _, .cons h t => .cons (dpRow h) (dpRows t)
theorem dpWish {wa : Addr} {wd : WD} (h : IsWish H wa wd) : Dp K H (.ref wa) (wishD wd) := by
  obtain ⟨pa, ra, rs, h1, h2, h3, h4⟩ := h
  exact .tup (.inl (.inl h1)) (.cons (dpRow h2) (.cons (.tup (.inl (.inl h3)) (dpRows h4)) .nil))
theorem dpWishes : ∀ {was : List Addr} {wds : List WD}, Paired (IsWish H) was wds → DpAll K H (was.map V.ref) (wds.map wishD)
  | _, _, .nil => .nil
  | _, _, .cons h t => .cons (dpWish h) (dpWishes t)
theorem dpRid {ri : Addr} {m h : Int} {wds : List WD} (x : IsRid H ri m h wds) : Dp K H (.ref ri) (ridD m h wds) := by
  obtain ⟨wt, was, h1, h2, h3⟩ := x
  exact .tup (.inl (.inl h1)) (.cons (.int m) (.cons (.int h) (.cons (.tup (.inl (.inl h2)) (dpWishes h3)) .nil)))
end
/-! ### data of this kind is laid, shallow, light and shown -/
/-- a measure of data: laid, at most so deep, at most so heavy, ints short, no dict -/
structure Fine (d : PyData) (n w : Nat) : Prop where
  lay : d.canLay0 = true
  dep : d.depth ≤ n
  wei : d.weight ≤ w
  sho : d.showable = true
  noD : d.hasDict = false
  sh13 : d.intsShort 13 = true
structure FineAll (ds : List PyData) (n w : Nat) : Prop where
  lay : PyData.canLayAll0 ds = true
  dep : PyData.depthAll ds ≤ n
  wei : PyData.weightAll ds ≤ w
  sho : PyData.showableAll ds = true
  noD : PyData.hasDictAll ds = false
  sh13 : PyData.intsShortAll 13 ds = true
theorem FineAll.nil (n : Nat) : FineAll [] n 0 := ⟨rfl, Nat.zero_le _, Nat.le_refl _, rfl, rfl, rfl⟩
theorem FineAll.cons {d : PyData} {ds : List PyData} {n w u : Nat} (h : Fine d n w) (t : FineAll ds n u) : FineAll (d :: ds) n (w + 1 + u) := by
  refine ⟨?_, ?_, ?_, ?_, ?_, ?_⟩
  · simp only [PyData.canLayAll0, h.lay, t.lay, Bool.and_self]
  · have a := h.dep
    have b := t.dep
    simp only [PyData.depthAll]
    omega
  · have a := h.wei
    have b := t.wei
    simp only [PyData.weightAll]
    omega
  · simp only [PyData.showableAll, h.sho, t.sho, Bool.and_self]
  · simp only [PyData.hasDictAll, h.noD, t.noD, Bool.or_self]
  · simp only [PyData.intsShortAll, h.sh13, t.sh13, Bool.and_self]
theorem Fine.tuple {ds : List PyData} {n w : Nat} (t : FineAll ds n w) : Fine (.tuple ds) (n + 1) w := by
  refine ⟨by simp only [PyData.canLay0]; exact t.lay, ?_, by simp only [PyData.weight]; exact t.wei, by simp only [PyData.showable]; exact t.sho, by simp only [PyData.hasDict]; exact t.noD, by simp only [PyData.intsShort]; exact t.sh13⟩
  have a := t.dep
  simp only [PyData.depth]
  omega
theorem Fine.list {ds : List PyData} {n w : Nat} (t : FineAll ds n w) : Fine (.list ds) (n + 1) w := by
  refine ⟨by simp only [PyData.canLay0]; exact t.lay, ?_, by simp only [PyData.weight]; exact t.wei, by simp only [PyData.showable]; exact t.sho, by simp only [PyData.hasDict]; exact t.noD, by simp only [PyData.intsShort]; exact t.sh13⟩
  have a := t.dep
  simp only [PyData.depth]
  omega
theorem Fine.mono {d : PyData} {n w n' w' : Nat} (h : Fine d n w) (a : n ≤ n') (b : w ≤ w') : Fine d n' w' := ⟨h.lay, Nat.le_trans h.dep a, Nat.le_trans h.wei b, h.sho, h.noD, h.sh13⟩
theorem FineAll.mono {d : List PyData} {n w n' w' : Nat} (h : FineAll d n w) (a : n ≤ n') (b : w ≤ w') : FineAll d n' w' := ⟨h.lay, Nat.le_trans h.dep a, Nat.le_trans h.wei b, h.sho, h.noD, h.sh13⟩
theorem fineAll_map {α : Type} {f : α → PyData} {n w : Nat} : ∀ (l : List α), (∀ x ∈ l, Fine (f x) n w) → FineAll (l.map f) n (l.length * (w + 1))
  | [], _ => FineAll.nil n |>.mono (Nat.le_refl _) (Nat.zero_le _)
  | x :: r, h => by
    have t := fineAll_map r fun y hy => h y (List.mem_cons_of_mem _ hy)
    refine (FineAll.cons (h x List.mem_cons_self) t).mono (Nat.le_refl _) ?_
    rw [List.length_cons, Nat.succ_mul]
    omega
theorem fine_int {i : Int} (h0 : 0 ≤ i) (h1 : i < 64) : Fine (.int i) 1 7 := by
  obtain ⟨n, rfl⟩ : ∃ n : Nat, i = n := ⟨i.toNat, by omega⟩
  have hn : n < 64 := by omega
  have hl : n.log2 ≤ 5 := by
    by_cases e : n = 0
    · subst e; decide
    · have := (Nat.log2_lt e).mpr (show n < 2 ^ 6 by omega)
      omega
  refine ⟨rfl, by simp [PyData.depth], ?_, ?_, rfl, ?_⟩
  · simp only [PyData.weight]
    split
    · omega
    · have e : ((n : Int)).natAbs = n := by omega
      rw [e]
      omega
  · simp only [PyData.showable]
    have e : ((n : Int)).natAbs = n := by omega
    rw [e]
    exact decide_eq_true (by omega)
  · have all : ∀ m : Nat, m < 64 → PyData.intsShort 13 (.int (m : Int)) = true := by decide +kernel
    exact all n hn
theorem Fine.shaped {d : PyData} {n w : Nat} (h : Fine d n w) (hn : n ≤ 64) : SeqAt.shaped d = true := by
  show (d.canLay0 && decide (d.depth ≤ 64)) = true
  rw [h.lay, decide_eq_true (Nat.le_trans h.dep hn)]
  rfl
theorem Fine.shows {d : PyData} {n w : Nat} (h : Fine d n w) (hn : n ≤ 64) (hw : w ≤ 1048576) : d.shown.length ≤ sizeLine := by
  have l : d.layable0 = true := by
    show (d.canLay0 && decide (d.depth ≤ 64) && decide (d.weight ≤ 2 ^ 20)) = true
    rw [h.lay, decide_eq_true (Nat.le_trans h.dep hn), decide_eq_true (show d.weight ≤ 2 ^ 20 from Nat.le_trans h.wei (Nat.le_trans hw (by decide)))]
    rfl
  exact Nat.le_trans (shown_le13 l h.sh13) (by decide)
/-! ### equality of rows -/
theorem eqvAll_ints : ∀ a b : List Int, PyData.eqvAll (a.map .int) (b.map .int) = decide (a = b)
  | [], [] => by simp [PyData.eqvAll]
  | [], _ :: _ => by simp [PyData.eqvAll]
  | _ :: _, [] => by simp [PyData.eqvAll]
  | x :: r, y :: q => by
    simp only [List.map_cons, PyData.eqvAll, PyData.eqv, eqvAll_ints r q]
    by_cases h : x = y
    · subst h; simp
    · simp [h]
theorem eqv_row (a b : Row) : PyData.eqv (rowD a) (rowD b) = decide (a = b) := by
  unfold rowD
  rw [PyData.eqv]
  exact eqvAll_ints a b
theorem anyRows (r : Row) : ∀ rows : List Row, ((rows.map rowD).any fun z => PyData.eqv z (rowD r)) = decide (r ∈ rows)
  | [] => by simp
  | x :: q => by
    rw [List.map_cons, List.any_cons, anyRows r q, eqv_row]
    by_cases h : x = r
    · subst h; simp
    · have h2 : ¬ r = x := fun e => h e.symm
      simp [h, h2]
/-! ### what is broken -/
def atF (fs : List Int) (p : Int) : Int := fs.getD p.toNat 0
def huesA (fs ps : List Int) : List Int := ps.map (atF fs)
def brk (fs : List Int) (wd : WD) : Bool := decide (huesA fs wd.1 ∈ wd.2)
def brkAt (fs : List Int) (wds : List WD) (k : Nat) : Bool := match wds[k]? with
  | some wd => brk fs wd
  | none => false
def broL (fs : List Int) (wds : List WD) (i : Nat) : List Int := ((List.range i).filter (brkAt fs wds)).map fun (k : Nat) => (k : Int)
theorem brkAt_of {fs : List Int} {wds : List WD} {k : Nat} {wd : WD} (h : wds[k]? = some wd) : brkAt fs wds k = brk fs wd := by
  unfold brkAt
  rw [h]
theorem broL_yes {fs : List Int} {wds : List WD} {i : Nat} (h : brkAt fs wds i = true) : broL fs wds (i + 1) = broL fs wds i ++ [(i : Int)] := by
  unfold broL
  rw [List.range_succ, List.filter_append, List.map_append]
  simp [h]
theorem broL_no {fs : List Int} {wds : List WD} {i : Nat} (h : brkAt fs wds i = false) : broL fs wds (i + 1) = broL fs wds i := by
  unfold broL
  rw [List.range_succ, List.filter_append, List.map_append]
  simp [h]
theorem broL_len (fs : List Int) (wds : List WD) (i : Nat) : (broL fs wds i).length ≤ i := by
  unfold broL
  rw [List.length_map]
  have q := List.length_filter_le (brkAt fs wds) (List.range i)
  rw [List.length_range] at q
  exact q
theorem broL_mem {fs : List Int} {wds : List WD} {i : Nat} {z : Int} (h : z ∈ broL fs wds i) : 0 ≤ z ∧ z < i := by
  unfold broL at h
  obtain ⟨k, hk, rfl⟩ := List.mem_map.mp h
  have := List.mem_range.mp (List.mem_filter.mp hk).1
  omega
theorem at_some {fs : List Int} {many hues : Int} {p : Int} (h : GoodF many hues fs) (h0 : 0 ≤ p) (h1 : p < many) : fs[p.toNat]? = some (atF fs p) := by
  have hl := h.len
  have hp : p.toNat < fs.length := by omega
  unfold atF
  rw [List.getD_eq_getElem?_getD, List.getElem?_eq_getElem hp]
  rfl
theorem atI_fs {fs : List Int} {many hues : Int} {p : Int} (h : GoodF many hues fs) (h0 : 0 ≤ p) (h1 : p < many) : atI (fs.map V.int) p = some (.int (atF fs p)) := by
  have e : p = ((p.toNat : Nat) : Int) := by omega
  have g : (fs.map V.int)[p.toNat]? = some (.int (atF fs p)) := by rw [List.getElem?_map, at_some h h0 h1]; rfl
  rw [e]
  rw [← e]
  have q := atI_nat g
  rw [← e] at q
  exact q
/-! ### riddles are fine data -/
theorem fine_row {r : Row} (h : ∀ z ∈ r, 0 ≤ z ∧ z < 64) (hl : r.length ≤ 8) : Fine (rowD r) 2 64 :=
  (Fine.tuple (fineAll_map r fun z hz => fine_int (h z hz).1 (h z hz).2)).mono (by omega) (by omega)
theorem fine_wish {many hues : Int} {wd : WD} (g : Good many hues wd) (hm : many ≤ 6) (hh : hues ≤ 4) : Fine (wishD wd) 4 5000 := by
  have a : Fine (rowD wd.1) 2 64 := fine_row (fun z hz => ⟨(g.pl z hz).1, by have := (g.pl z hz).2; omega⟩) (by have := g.three; omega)
  have b : Fine (.tuple (wd.2.map rowD)) 3 4200 := by
    refine (Fine.tuple (fineAll_map wd.2 fun r hr => fine_row (fun z hz => ⟨((g.row r hr).2 z hz).1, by have := ((g.row r hr).2 z hz).2; omega⟩) (by have := (g.row r hr).1; have := g.three; omega))).mono (Nat.le_refl _) ?_
    have := g.few
    omega
  exact (Fine.tuple (FineAll.cons (a.mono (by omega) (Nat.le_refl _)) (FineAll.cons b (FineAll.nil _)))).mono (Nat.le_refl _) (by omega)
theorem fine_rid {many hues : Int} {wds : List WD} (g : GoodR many hues wds) : Fine (ridD many hues wds) 6 50000 := by
  have c : Fine (.tuple (wds.map wishD)) 5 40100 := by
    refine (Fine.tuple (fineAll_map wds fun wd hw => fine_wish (g.each wd hw) g.m6 g.h4)).mono (Nat.le_refl _) ?_
    have := g.eight
    omega
  have m := fine_int (i := many) (by have := g.m1; omega) (by have := g.m6; omega)
  have h := fine_int (i := hues) (by have := g.h2; omega) (by have := g.h4; omega)
  exact (Fine.tuple (FineAll.cons (m.mono (by omega) (Nat.le_refl _)) (FineAll.cons (h.mono (by omega) (Nat.le_refl _)) (FineAll.cons c (FineAll.nil _))))).mono (Nat.le_refl _) (by omega)
theorem fine_fill {many hues : Int} {fs : List Int} (g : GoodF many hues fs) (hm : many ≤ 6) (hh : hues ≤ 4) : Fine (rowD fs) 2 64 :=
  fine_row (fun z hz => ⟨(g.hue z hz).1, by have := (g.hue z hz).2; omega⟩) (by have := g.len; omega)
theorem fine_bro (fs : List Int) (wds : List WD) {i : Nat} (h : i ≤ 8) : Fine (.list ((broL fs wds i).map .int)) 2 64 := by
  refine (Fine.list (fineAll_map (broL fs wds i) fun z hz => fine_int (broL_mem hz).1 (by have := (broL_mem hz).2; omega))).mono (by omega) ?_
  have := broL_len fs wds i
  omega
end Dt

set_option Elab.async false
set_option linter.all false
set_option maxRecDepth 100000
set_option maxHeartbeats 4000000
/-! sorted(xs) of tuples of small ints, any number of them -/
namespace Tt
open PySem PySem.Spec PyProof.Rows L2
def rk (h : Heap) (B : Int) (v : Value) : Int := TS.code B (TS.intsOf h v)
theorem swo_rk (f : Value → Int) : SrtO.Swo fun v u => decide (f v < f u) := by
  refine ⟨fun x y h => ?_, fun x y z h1 h2 => ?_⟩
  · have a := of_decide_eq_true h
    exact decide_eq_false (by omega)
  · have a := of_decide_eq_false h1
    have b := of_decide_eq_false h2
    exact decide_eq_false (by omega)
section
variable {prog : Program} {w : World} {A : Around} {E : Value → Shared → Prop} {s : Shared}
theorem cmp_tups {d : Nat} {B : Int} {vs : List Value} (x : TS.TupsOk s.heap d B vs) (r : Value → Int) (hr : ∀ v, v ∈ vs → ∀ ns, TS.TupInts s.heap v ns → r v = TS.code B ns) :
    SrtO.Cmp prog w A s (tuples' true) (fun p => p.1 ∈ vs) (SrtO.lt2 fun v u => decide (r v < r u)) := by
  intro p q hp hq
  obtain ⟨ns, tp, lp, bp⟩ := x _ hp
  obtain ⟨ms, tq, lq, bq⟩ := x _ hq
  show wpAny (model prog w) A (keyLt' (tuples' true) p.1 q.1) (fun b s' => s' = s ∧ b = decide (r p.1 < r q.1)) (fun _ _ => False) s
  rw [hr _ hp _ tp, hr _ hq _ tq]
  obtain ⟨a, xs, e1, ⟨o, ho, hc, n, hdt⟩, i⟩ := tp
  obtain ⟨a', ys, e2, ⟨o', ho', hc', n', hdt'⟩, i'⟩ := tq
  rw [e1, e2]
  refine PySem.W.kat_lt ho hdt ho' hdt' ?_
  have l1 := i.length
  have l2 := i'.length
  rw [Array.length_toList] at l1 l2
  rw [show decide (xs.size < ys.size) = false from decide_eq_false (by omega)]
  exact TS.lex_ints 0 i i' (by omega) bp bq ⟨rfl, rfl⟩
theorem sortable {a : Addr} {d : Nat} {B : Int} {vs : List Value} (hd : 1 ≤ d) (h2 : 2 ≤ vs.length) (x : TS.TupsOk s.heap d B vs) (ha : ∀ o, s.heap.get? a = some o → o.cls ≠ .type "tuple") (r : Value → Int) (hr : ∀ v, v ∈ vs → ∀ ns, TS.TupInts s.heap v ns → r v = TS.code B ns) :
    SrtO.SortableO prog w A s a vs fun v u => decide (r v < r u) := by
  intro h' keep
  have k2 : ∀ b o, s.heap.get? b = some o → o.cls = .type "tuple" → h'.get? b = some o := fun b o e c => keep b o (fun z => by subst z; exact ha o e c) e
  have x' := x.keeps k2
  obtain ⟨fs, kt, hl, hi⟩ := TS.firsts_of hd vs x'
  refine ⟨tuples' true, fun Q E hq => ?_, cmp_tups (s := { s with heap := h' }) x' r fun v hv ns t => ?_⟩
  · refine PySem.W.kat_kind (T := .type "int") kt (by omega) (fun f hm => ?_) (by rfl) ?_
    · obtain ⟨n, t, rfl⟩ := hi f hm
      exact PySem.W.Looks.of_pure rfl
    · rw [show (Value.type "int" != Value.type "tuple") = true by decide +kernel]
      exact hq
  · obtain ⟨n0, t0, _⟩ := x v hv
    rw [show ns = n0 from t.ints.symm.trans (t0.keeps k2).ints]
    exact hr v hv n0 t0
end
/-- sorted(xs): ts the tuples' places, k what stands at each -/
def rSortedT (K : PySem.W.Frag) : List V → Hp → VK → Prop := fun vs H Q => ∃ (a : Addr) (ts : List Addr) (k : Addr → List Int) (d : Nat) (B : Int), vs = [.ref a] ∧ SqL K H a (ts.map V.ref) ∧ 1 ≤ d ∧ (∀ t ∈ ts, H t = some (.tup ((k t).map V.int)) ∧ (k t).length = d ∧ TS.Bd B (k t)) ∧
  ∀ (ts' : List Addr) (p : Addr), ts'.Perm ts → ts'.Pairwise (fun u v => TS.code B (k u) ≤ TS.code B (k v)) → H p = none → Q (.ref p) (upd H p (.lst (ts'.map V.ref)))
theorem vals_refs : ∀ {ts : List Addr} {us : List Value}, Vals (ts.map V.ref) us → us = ts.map Value.ref
  | [], _, .nil => rfl
  | t :: r, _, .cons h q => by
    cases h
    rw [vals_refs q]
    rfl
theorem refs_vals : ∀ ts : List Addr, Vals (ts.map V.ref) (ts.map Value.ref)
  | [] => .nil
  | t :: r => .cons rfl (refs_vals r)
theorem cr_sortedT {X : Cx} : CallR X (.builtin "sorted") (rSortedT X.K) := by
  intro pins s σ H vs us Q I r h
  obtain ⟨a, ts, k, d, B, rfl, hs, hd, ht, q⟩ := h
  obtain ⟨its, rv, hl, hz⟩ := I.list hs
  obtain ⟨u, rfl, ru⟩ := vals1 r
  cases (show u = Value.ref a from ru)
  obtain rfl := vals_refs rv
  have tup : ∀ t ∈ ts, TS.TupInts s.heap (.ref t) (k t) := fun t hm => by
    obtain ⟨_, its, rr, hT⟩ := I.hok t _ (ht t hm).1
    exact ⟨t, its.toArray, rfl, hT, by simpa using rr.ints⟩
  have ok : TS.TupsOk s.heap d B (ts.map Value.ref) := fun v hv => by
    obtain ⟨t, hm, rfl⟩ := List.mem_map.mp hv
    exact ⟨k t, tup t hm, (ht t hm).2.1, (ht t hm).2.2⟩
  have rk_at : ∀ v ∈ ts.map Value.ref, ∀ ns, TS.TupInts s.heap v ns → rk s.heap B v = TS.code B ns := fun v _ ns t => by
    unfold rk
    rw [t.ints]
  refine SrtO.sorted_ord (swo_rk (rk s.heap B)) hl.isList (by rw [← rv.length]; exact hz) (fun h2 h₁ a' ha' kk => ?_) fun out so sb => ?_
  · have keep : ∀ b o, s.heap.get? b = some o → o.cls = .type "tuple" → h₁.get? b = some o := fun b o e _ => (kk b o e).2
    refine sortable (s := { s with heap := h₁ }) hd h2 (ok.keeps keep) (fun o e c => ?_) (rk s.heap B) fun v hv ns t => ?_
    · have e' := Option.some.inj (e.symm.trans ha')
      rw [e'] at c
      exact absurd (Value.type.inj c) (by decide)
    · obtain ⟨n0, t0, _⟩ := ok v hv
      rw [show ns = n0 from t.ints.symm.trans (t0.keeps keep).ints]
      exact rk_at v hv n0 t0
  · obtain ⟨ep, he⟩ := PyProof.Rows.sortedAll_at s.heap (ts.map Value.ref) out.toArray
    have pm := sb.perm
    obtain ⟨ts', rfl, pt⟩ : ∃ ts' : List Addr, out = ts'.map Value.ref ∧ ts'.Perm ts := by
      have back : ∀ v ∈ out, ∃ t, v = Value.ref t := fun v hv => by
        obtain ⟨t, _, e⟩ := List.mem_map.mp (pm.mem_iff.mp hv)
        exact ⟨t, e.symm⟩
      have g : ∀ l : List Value, (∀ v ∈ l, ∃ t, v = Value.ref t) → ∃ m : List Addr, l = m.map Value.ref := by
        intro l
        induction l with
        | nil => intro _; exact ⟨[], rfl⟩
        | cons v r ih =>
          intro hv
          obtain ⟨t, rfl⟩ := hv v List.mem_cons_self
          obtain ⟨m, rfl⟩ := ih fun z hz => hv z (List.mem_cons_of_mem _ hz)
          exact ⟨t :: m, rfl⟩
      obtain ⟨m, rfl⟩ := g out back
      let f : Value → Addr := fun v => match v with | .ref t => t | _ => 0
      have q2 := pm.map f
      rw [List.map_map, List.map_map] at q2
      have e1 : (f ∘ Value.ref) = id := by funext z; rfl
      rw [e1, List.map_id, List.map_id] at q2
      exact ⟨m, rfl, q2⟩
    refine ⟨.ref (s.heap.objs.size + 1), _, I.laid (t' := s.toks) (o := .lst (ts'.map V.ref)) (fun _ _ => PyProof.Rows.sortedAll_old) (Nat.le_succ _) ⟨?_, ts'.map Value.ref, ep, refs_vals ts', he⟩, rfl, q ts' _ pt ?_ (I.hok.fresh (Nat.le_succ _))⟩
    · rw [List.length_map, pt.length_eq]
      rw [List.length_map] at hz
      exact hz
    · have so2 := List.pairwise_map.mp so
      refine List.Pairwise.imp_of_mem (fun {x y} hx hy h => ?_) so2
      have h2 := of_decide_eq_false h
      unfold rk at h2
      rw [(tup x (pt.mem_iff.mp hx)).ints, (tup y (pt.mem_iff.mp hy)).ints] at h2
      omega
end Tt

set_option Elab.async false
set_option linter.all false
set_option maxRecDepth 100000
set_option maxHeartbeats 4000000
/-! the law's own call: tables of code objects tracked, and no repr under way around it -/
namespace Lg
open PySem PySem.Spec PyProof.Rows L2
/-- the def's body, run where A stands -/
theorem run_at {P : Program} {w : World} {K : PySem.W.Frag} {mg : Str → Option Value} {base : Heap} {k : Nat} {f : Addr} {x qual : Str} {st : Stmt} {fd : FuncData} {N ps : List Str} {A : Around} {outer : List Env} {s : Shared} {H : Hp} {args : Args} {us : List Value} {vs : List V} {Q : VK} {E : XK}
    (F : Fun K x qual st f fd) (S : FnScope N ps (defScope st)) (hr : Room (k + 1) A) (e0 : Env0 P w K mg base A outer s H) (hb : BindsTo s fd args (ps.zip us)) (r : Vals vs us) (hl : vs.length = ps.length)
    (body : ∀ cdv : Value, Room k (A.deeper (envOfC qual (defScope st) s.heap.objs.size f cdv)) → ∃ t, PSs (cxOf CX0 P w K mg base N qual (defScope st) f cdv A outer s H E).nox (defBody st) t ∧ t { nx := fun _ H' => Q .non H', rt := Q } (start N vs) H) :
    codeAny (model P w) A (.call (.ref f) args) (CR CX0 outer P w H s Q E) s := by
  obtain ⟨oc, od, kV, doc, pm, an, cdv, ct, osl, rfl, lk, hcd⟩ := F.ex
  have old : ∀ b o, base.get? b = some o → s.heap.get? b = some o := fun b o e => (e0.bs b o e).1
  have KX := e0.mod.kin.keeps old
  have lim := e0.mod.nolimit.keeps old
  obtain ⟨t, pt, ht⟩ := body cdv (hr.deeper _)
  refine codeAny_call_function hr.depth (KX _ _ lk) rfl S.co S.gen rfl (PySem.W.codeRec_of KX hcd) (hb _ _ _ _ (wpAny_newFunctionEnv_cells S.kind (fun y hy => ?_) fun env he s1 ic => ?_))
  · rcases S.par y.1 (List.of_mem_zip (show (y.1, y.2) ∈ ps.zip us from hy)).1 with z | z
    · exact .inl z
    · exact .inr ⟨z, PySem.W.cellsFrom_some _ _ _ (.inl z)⟩
  · subst he
    refine ⟨lim.keeps ic.toInCall.keep, codeAny_func (wpAny_mono (pt.nox.run [] s1 (start N vs) H _ (inv_start S hr.hd e0 hl r ic) ht) (fun fl s' q => ?_) fun _ _ q => q)⟩
    cases fl with
    | ret u => obtain ⟨v, σ', H', J, rv, q⟩ := q; exact ⟨v, H', J.os, J.bare, J.base, J.hok, rv, q⟩
    | next => obtain ⟨σ', H', J, q⟩ := q; exact ⟨.non, H', J.os, J.bare, J.base, J.hok, rfl, q⟩
    | brk => obtain ⟨_, _, _, q⟩ := q; exact q.elim
    | cont => obtain ⟨_, _, _, q⟩ := q; exact q.elim
/-- the abstract heap at the law's call: the tables, and the script where the top didn't write it -/
def H0 (K : PySem.W.Frag) (T : List Addr) (a : Addr) (o : Obj) (xs : List V) : Hp := fun b => if b ∈ T then some (.tbl #[]) else if b = a ∧ K.lookup a = none then some (.frz o (.lst xs)) else none
theorem H0_three (K : PySem.W.Frag) (T : List Addr) (a : Addr) (o : Obj) (xs : List V) (b : Addr) : (b ∈ T ∧ H0 K T a o xs b = some (.tbl #[])) ∨ (b = a ∧ K.lookup a = none ∧ H0 K T a o xs b = some (.frz o (.lst xs))) ∨ (H0 K T a o xs b = none ∧ b ∉ T) := by
  unfold H0
  by_cases h : b ∈ T
  · exact .inl ⟨h, if_pos h⟩
  · by_cases h2 : b = a ∧ K.lookup a = none
    · exact .inr (.inl ⟨h2.1, h2.2, by rw [if_neg h, if_pos h2]⟩)
    · exact .inr (.inr ⟨by rw [if_neg h, if_neg h2], h⟩)
theorem law_at {P : Program} {w : World} {K : PySem.W.Frag} {mg mb : Str → Option Value} {k : Nat} {fa a : Addr} {cs : List (Addr × Addr)} {x qual : Str} {st : Stmt} {fd : FuncData} {N : List Str} {par : Str} {s : Shared} {vs : List Value} {ns : List Int}
    (KX : K.In s.heap) (hns : s.heap.Ns mainGlobals mg) (hbl : s.heap.Ns builtinsNs mb) (hbb : ∀ x : Str, x ≠ "__name__" → mb x = bootBuiltins x) (hlim : s.heap.NoLimit) (hg : s.gens = #[])
    (hT : ∀ p ∈ cs, s.heap.get? p.2 = some { cls := .none, data := .fields #[] }) (nT : ∀ p ∈ cs, K.lookup p.2 = none) (hC : ∀ p ∈ cs, PySem.W.CodeHd s.heap p.1 p.2)
    (hbm : ∃ (bm : Addr) (ob : Obj), mg "__builtins__" = some (.ref bm) ∧ bm ≠ builtinsNs ∧ s.heap.get? bm = some ob ∧ ob.cls = .type "module" ∧ ob.dict = some builtinsNs ∧ ob.data = .plain)
    (ha : s.heap.get? a = some { cls := .type "list", data := .seq vs.toArray }) (hi : IntsAre vs ns) (hlen : ns.length ≤ sizeLine) (hr : Room (k + 1) callerA)
    (F : Fun K x qual st fa fd) (S : FnScope N [par] (defScope st)) (hb : ∀ (s : Shared) (u : Value), BindsTo s fd ⟨[u], []⟩ [(par, u)])
    (body : ∀ (base : Heap) (H : Hp) (cdv : Value), K.In base → base.Ns mainGlobals mg → (∀ p ∈ cs, GxR.TabB base mg p.1 p.2) → (∀ p ∈ cs, H p.2 = some (.tbl #[])) → SqL K H a (ns.map V.int) → Room k (callerA.deeper (envOfC qual (defScope st) s.heap.objs.size fa cdv)) →
      ∃ t, PSs (cxOf CX0 P w K mg base N qual (defScope st) fa cdv callerA [] s H (fun _ _ _ => False)).nox (defBody st) t ∧ t { nx := fun _ _ => False, rt := fun v _ => v = .bl true } (start N [.ref a]) H) :
    codeAny (model P w) callerA (.call (.ref fa) ⟨[.ref a], []⟩) (fun r s' => r = .ok (.ret (.bool true)) ∧ OldK s.heap s'.heap ∧ s'.os = s.os ∧ AllBare s'.gens) s := by
  have rv := vals_ints hi
  have lv := hi.length
  generalize hso : ({ cls := .type "list", data := .seq vs.toArray } : Obj) = so at ha
  have inT : ∀ b, b ∈ cs.map (·.2) → s.heap.get? b = some { cls := .none, data := .fields #[] } ∧ K.lookup b = none := fun b h => by
    obtain ⟨p, hp, rfl⟩ := List.mem_map.mp h
    exact ⟨hT p hp, nT p hp⟩
  generalize hH : H0 K (cs.map (·.2)) a so (ns.map V.int) = H
  have three := H0_three K (cs.map (·.2)) a so (ns.map V.int)
  rw [hH] at three
  -- an object of another kind isn't tracked
  have clean : ∀ b o, s.heap.get? b = some o → o.data ≠ .fields #[] → (∀ v n, o.data ≠ .seq v n) → H b = none := fun b o e h1 h2 => by
    rcases three b with ⟨z, _⟩ | ⟨z, _, _⟩ | ⟨z, _⟩
    · rw [(inT b z).1] at e; cases e; exact absurd rfl h1
    · rw [z, ha, ← hso] at e; cases e; exact absurd rfl (h2 _ _)
    · exact z
  have low : ∀ b o, s.heap.get? b = some o → o.data ≠ .fields #[] → (∀ v n, o.data ≠ .seq v n) → (hidT s.heap H).get? b = some o := fun b o e h1 h2 => hidT_get e (clean b o e h1 h2)
  have lowNs : ∀ b m, s.heap.Ns b m → (hidT s.heap H).Ns b m := fun b m ⟨o, es, ep, e, d, q⟩ => ⟨o, es, ep, low b o e (by rw [d]; exact fun z => nomatch z) (by rw [d]; exact fun _ _ z => nomatch z), d, q⟩
  have kb : K.In (hidT s.heap H) := fun b o e => hidT_get (KX b o e) (by
    rcases three b with ⟨z, _⟩ | ⟨z, q, _⟩ | ⟨z, _⟩
    · rw [(inT b z).2] at e; cases e
    · rw [z, q] at e; cases e
    · exact z)
  have hok : HOk P w H s.heap := fun b u e => by
    rcases three b with ⟨z, q⟩ | ⟨z, _, q⟩ | ⟨q, _⟩
    · rw [e] at q; cases q; exact (inT b z).1
    · rw [e] at q; cases q; rw [z]; exact ⟨ha, by rw [List.length_map]; exact hlen, vs, 0, rv, by rw [ha, ← hso]⟩
    · rw [e] at q; cases q
  have tb : ∀ p ∈ cs, GxR.TabB (hidT s.heap H) mg p.1 p.2 := fun p hp => by
    refine ⟨?_, ?_, fun z => ?_⟩
    · obtain ⟨o, us, fl, t1, fg, t2, b1, tx, t3, e1, e2, e3, e4, rest⟩ := hC p hp
      exact ⟨o, us, fl, t1, fg, t2, b1, tx, t3, low _ _ e1 (by rw [e3]; intro z; cases z; simp at e4) (by rw [e3]; exact fun _ _ z => nomatch z), e2, e3, e4, rest⟩
    · obtain ⟨bm, ob, m1, m2, m3, m4, m5, m6⟩ := hbm
      refine ⟨bm, ob, m1, m2, fun z => ?_, fun z => ?_, low _ _ m3 (by rw [m6]; exact fun z => nomatch z) (by rw [m6]; exact fun _ _ z => nomatch z), m4, m5, m6⟩
      · obtain ⟨o, es, ep, e, d, _⟩ := hns
        rw [z, e] at m3; cases m3; rw [d] at m6; cases m6
      · rw [z, hT p hp] at m3; cases m3; cases m6
    · obtain ⟨o, es, ep, e, d, _⟩ := hns
      rw [z, hT p hp] at e; cases e; cases d
  have tabH : ∀ p ∈ cs, H p.2 = some (.tbl #[]) := fun p hp => by
    have hm : p.2 ∈ cs.map (·.2) := List.mem_map.mpr ⟨p, hp, rfl⟩
    rcases three p.2 with ⟨_, q⟩ | ⟨z, _, _⟩ | ⟨_, q⟩
    · exact q
    · have e := (inT _ hm).1
      rw [z, ha, ← hso] at e; cases e
    · exact absurd hm q
  have hS : SqL K H a (ns.map V.int) := by
    rcases three a with ⟨z, _⟩ | ⟨_, _, q⟩ | ⟨q, nt⟩
    · have e := (inT a z).1
      rw [ha, ← hso] at e; cases e
    · exact .inl (.inr ⟨so, q⟩)
    · cases e : K.lookup a with
      | none => rw [← hH] at q; unfold H0 at q; rw [if_neg nt, if_pos ⟨rfl, e⟩] at q; cases q
      | some o =>
        have e2 := KX a o e
        rw [ha, ← hso] at e2; cases e2
        exact .inr ⟨_, vs.toArray, _, e, rfl, rfl, rfl, by rw [List.size_toArray, lv]; exact hlen, by simpa using rv⟩
  have e0 : Env0 P w K mg (hidT s.heap H) callerA [] s H := ⟨rfl, ⟨kb, lowNs _ _ hns, ⟨mb, lowNs _ _ hbl, hbb⟩, let ⟨mc, q1, q2⟩ := hlim; ⟨mc, lowNs _ _ q1, q2⟩⟩, fun b o e => of_hidT e, Nat.le_of_eq (hidT_size _ _), trivial, (fun b z => nomatch z), hok, .of_eq hg⟩
  refine codeAny_mono (run_at (vs := [.ref a]) (us := [.ref a]) (Q := fun v _ => v = .bl true) (E := fun _ _ _ => False) F S hr e0 (hb s (.ref a)) (.cons rfl .nil) rfl fun cdv hrm => ?_) fun r s' h => ?_
  · obtain ⟨t, p1, p2⟩ := body _ H cdv kb (lowNs _ _ hns) tb tabH hS hrm
    refine ⟨t, p1, ?_⟩
    have e : (fun (_ : L2.St) (H' : Hp) => (fun (v : V) (_ : Hp) => v = V.bl true) V.non H') = fun _ _ => False := by
      funext _ _
      exact propext ⟨(fun z => nomatch z), fun z => z.elim⟩
    rw [e]
    exact p2
  · match r, h with
    | .ok (.ret u), h =>
      obtain ⟨v, H', os, bare, un, hok', r', q⟩ := h
      obtain rfl : v = .bl true := q
      obtain rfl : u = Value.bool true := r'
      have grown : ∀ p ∈ cs, ∃ more : Array Value, s'.heap.get? p.2 = some { cls := .none, data := .fields more } := fun p hp => by
        obtain ⟨more, z⟩ := un.tbls p.2 #[] (tabH p hp)
        exact ⟨_, hok' p.2 _ z⟩
      have kept : ∀ b o, b ∉ cs.map (·.2) → s.heap.get? b = some o → s'.heap.get? b = some o := fun b o nb e => by
        rcases three b with ⟨z, _⟩ | ⟨z, _, q⟩ | ⟨q, _⟩
        · exact absurd z nb
        · have z2 := hok' b _ (un.frzs b so _ q)
          rw [z, ha] at e
          cases e
          exact z2.1
        · exact un.keep b o e q (by intro z; cases z) (by intro z; cases z)
      refine ⟨rfl, ⟨fun b o e => ?_, fun b o e => ?_⟩, os, bare⟩
      · by_cases hm : b ∈ cs.map (·.2)
        · obtain ⟨p, hp, rfl⟩ := List.mem_map.mp hm
          obtain ⟨more, z⟩ := grown p hp
          rw [hT p hp] at e
          cases e
          exact .inr (.inl ⟨((hC p hp).tab (hT p hp)).isCodeTable, rfl, #[], more, rfl, by rw [Array.empty_append]; exact z⟩)
        · exact .inl (kept b o hm e)
      · by_cases hm : b ∈ cs.map (·.2)
        · obtain ⟨p, hp, rfl⟩ := List.mem_map.mp hm
          obtain ⟨more, z⟩ := grown p hp
          exact ⟨_, z⟩
        · exact ⟨o, kept b o hm e⟩
/-! ### repr of data -/
/-- repr(x), x data -/
theorem call_repr {X : Cx} (hg : X.A.guards = some []) (hu : X.A.units + 64 < cLine) : CallR X (.builtin "repr") (fun xs H Q => ∃ (a : Addr) (d : PyData), xs = [.ref a] ∧ Dp X.K H (.ref a) d ∧ d.showable = true ∧ d.hasDict = false ∧ d.depth < 63 ∧ d.shown.length ≤ sizeLine ∧ Q (.str d.shown) H) := by
  intro pins s σ H xs us Q I r h
  obtain ⟨a, d, rfl, hd, h1, h2, h3, h4, q⟩ := h
  obtain ⟨u, rfl, ru⟩ := vals1 r
  obtain ⟨as, rd⟩ := Dp.reads I d _ u hd ru
  cases (show u = Value.ref a from ru)
  refine repr_of_reads' rd h1 (fun e => by rw [h2] at e; cases e) hg (by omega) (fun _ _ e => e) (fun h' u tk hk => ?_) h4
  exact ⟨.str d.shown, H, I.kept (t' := _) hk, ⟨_, rfl⟩, q⟩
end Lg

set_option Elab.async false
set_option linter.all false
set_option maxRecDepth 100000
set_option maxHeartbeats 4000000
namespace Lg
open PySem PySem.Spec PyProof.Rows L2
/-- the code object and the table of the def named x -/
def TabOf (mg : Str → Option Value) (h : Heap) (x : Str) (p : Addr × Addr) : Prop :=
  ∃ (a : Addr) (o : Obj) (fd : FuncData), mg x = some (.ref a) ∧ h.get? a = some o ∧ o.data = .func fd ∧ fd.code = .ref p.1 ∧ PySem.W.CodeHd h p.1 p.2 ∧ h.get? p.2 = some { cls := .none, data := .fields #[] }
theorem TabOf.code {K : PySem.W.Frag} {mg : Str → Option Value} {h : Heap} {x : Str} {p : Addr × Addr} {f : Addr} {cl : Value} {dd : Option Addr} {fd : FuncData} {sl : Array (Option Value)} (T : TabOf mg h x p) (X : K.In h) (hf : mg x = some (.ref f)) (l : K.lookup f = some ⟨cl, dd, .func fd, sl⟩) : fd.code = .ref p.1 := by
  obtain ⟨a, o, fd', h1, h2, h3, h4, _⟩ := T
  rw [hf] at h1
  cases h1
  rw [X _ _ l] at h2
  cases h2
  cases h3
  exact h4
theorem no_tab {K : PySem.W.Frag} {h : Heap} {P : Addr} (X : K.In h) (hK : PySem.W.noTabs K = true) (e : h.get? P = some { cls := .none, data := .fields #[] }) : K.lookup P = none := by
  cases z : K.lookup P with
  | none => rfl
  | some o =>
    have z2 := X _ _ z
    rw [e] at z2
    cases z2
    exact absurd (show false = true from List.all_eq_true.mp hK (P, _) (PySem.W.mem_of_lookupK z)) Bool.false_ne_true
theorem walk_of {l : PySem.W.OpenLaw} {n k : Nat} {q : Program} {loose : List Str} {XP : (Str → Option Value) → Heap → Prop} {YP : World → Heap → Prop} {d : DefRec} {K : Params → PySem.W.Frag} {x qual par : Str} {st : Stmt} {N : List Str} (names : List Str)
    (hn : l.most = some n) (hn2 : n ≤ sizeLine) (hdf : d.params.defaults = []) (hr : Room (k + 1) callerA) (hrec : (names.all fun y => (recsOf q).any fun e => e.name == y) = true) (hK : ∀ w : World, PySem.W.noTabs (K w.params) = true) (hY : ∀ (w : World) (h : Heap), YP w h → (K w.params).In h) (S : FnScope N [par] (defScope st))
    (F : ∀ (w : World) (mg : Str → Option Value) (fa : Addr) (h : Heap) (tb : Str → Addr × Addr), (K w.params).In h → h.Ns mainGlobals mg → mg d.name = some (.ref fa) → (∀ y ∈ names, TabOf mg h y (tb y)) →
      ∃ fd : FuncData, Fun (K w.params) x qual st fa fd ∧ (∀ (s : Shared) (u : Value), BindsTo s fd ⟨[u], []⟩ [(par, u)]) ∧ ∀ (base : Heap) (H : Hp) (cdv : Value) (a : Addr) (ns : List Int) (s : Shared), (K w.params).In base → base.Ns mainGlobals mg → (∀ y ∈ names, GxR.TabB base mg (tb y).1 (tb y).2) → (∀ y ∈ names, H (tb y).2 = some (.tbl #[])) → ns.length ≤ n → (∀ z ∈ ns, Builtin.Int.intBits z ≤ 1048576) → SqL (K w.params) H a (ns.map V.int) → Room k (callerA.deeper (envOfC qual (defScope st) s.heap.objs.size fa cdv)) →
        ∃ t, PSs (cxOf CX0 l.prog w (K w.params) mg base N qual (defScope st) fa cdv callerA [] s H (fun _ _ _ => False)).nox (defBody st) t ∧ t { nx := fun _ _ => False, rt := fun v _ => v = .bl true } (start N [.ref a]) H) :
    PySem.W.WalkO q loose XP YP l.row.toRowW d [] (fun f vs => PySem.call f vs) := by
  refine Att.attach_callB hn hdf fun w s₀ s₁ mg mb fa o pm cd doc a vs ns G Y ho hd hcd hmg hobj hints hlen hbits hg => ?_
  have KX := hY w _ Y
  have ex : ∀ y : Str, ∃ p : Addr × Addr, y ∈ names → TabOf mg s₁.heap y p := fun y => by
    by_cases hy : y ∈ names
    · obtain ⟨dL, hm, hn1⟩ := List.any_eq_true.mp (List.all_eq_true.mp hrec y hy)
      have hn2 : dL.name = y := beq_iff_eq.mp hn1
      obtain ⟨a', o', fd', c', P', h1, h2, h3, h4, h5, h6⟩ := G.T.tab dL hm
      rw [hn2] at h1
      exact ⟨(c', P'), fun _ => ⟨a', o', fd', h1, h2, h3, h4, PySem.W.CodeHd.of h5 h6, h6.2⟩⟩
    · exact ⟨(0, 0), fun z => absurd z hy⟩
  have tbx : ∃ tb : Str → Addr × Addr, ∀ y ∈ names, TabOf mg s₁.heap y (tb y) := ⟨fun y => Classical.choose (ex y), fun y => Classical.choose_spec (ex y)⟩
  obtain ⟨tb, ht⟩ := tbx
  obtain ⟨fd, hF, hb, body⟩ := F w mg fa _ tb KX G.T.g hmg ht
  have cm : ∀ p ∈ names.map tb, ∃ y ∈ names, tb y = p := fun p hp => List.mem_map.mp hp
  refine law_at (cs := names.map tb) KX G.T.g G.T.b G.T.builtins G.T.nolimit hg (fun p hp => ?_) (fun p hp => ?_) (fun p hp => ?_) G.T.bmain hobj hints (Nat.le_trans hlen hn2) hr hF S hb fun base H cdv kb gn tB tH hS hrm => body base H cdv a ns s₁ kb gn (fun y hy => tB _ (List.mem_map_of_mem hy)) (fun y hy => tH _ (List.mem_map_of_mem hy)) hlen hbits hS hrm
  · obtain ⟨y, hy, rfl⟩ := cm p hp
    obtain ⟨_, _, _, _, _, _, _, _, z⟩ := ht y hy
    exact z
  · obtain ⟨y, hy, rfl⟩ := cm p hp
    obtain ⟨_, _, _, _, _, _, _, _, z⟩ := ht y hy
    exact no_tab KX (hK w) z
  · obtain ⟨y, hy, rfl⟩ := cm p hp
    obtain ⟨_, _, _, _, _, _, _, z, _⟩ := ht y hy
    exact z
end Lg

set_option Elab.async false
set_option linter.all false
set_option maxRecDepth 100000
set_option maxHeartbeats 4000000
/-! fillings, counts, clashes: the data -/
namespace Dt
open PySem PySem.Spec PyProof.Rows L2
def longer (hues : Nat) (f : List Int) : List (List Int) := (List.range hues).map fun (h : Nat) => f ++ [(h : Int)]
def fillL (hues : Nat) : Nat → List (List Int)
  | 0 => [[]]
  | n + 1 => (fillL hues n).flatMap (longer hues)
theorem fill_good {hues : Nat} : ∀ {n : Nat} {f : List Int}, f ∈ fillL hues n → f.length = n ∧ ∀ h ∈ f, 0 ≤ h ∧ h < (hues : Int)
  | 0, f, h => by
    cases List.mem_singleton.mp h
    exact ⟨rfl, fun _ z => nomatch z⟩
  | n + 1, f, h => by
    obtain ⟨g, hg, hf⟩ := List.mem_flatMap.mp h
    obtain ⟨k, hk, rfl⟩ := List.mem_map.mp hf
    obtain ⟨l, a⟩ := fill_good hg
    have hk := List.mem_range.mp hk
    refine ⟨by simp [l], fun z hz => ?_⟩
    rcases List.mem_append.mp hz with q | q
    · exact a z q
    · cases List.mem_singleton.mp q
      omega
theorem longer_len (hues : Nat) (f : List Int) : (longer hues f).length = hues := by simp [longer]
theorem flat_len {hues : Nat} : ∀ l : List (List Int), (l.flatMap (longer hues)).length = l.length * hues
  | [] => by simp
  | f :: r => by rw [List.flatMap_cons, List.length_append, longer_len, flat_len r, List.length_cons, Nat.succ_mul, Nat.add_comm]
theorem fill_len (hues : Nat) : ∀ n : Nat, (fillL hues n).length = hues ^ n
  | 0 => by simp [fillL]
  | n + 1 => by rw [fillL, flat_len, fill_len hues n, Nat.pow_succ]
theorem fill_goodF {many hues : Int} (m0 : 0 ≤ many) (h0 : 0 ≤ hues) {f : List Int} (h : f ∈ fillL hues.toNat many.toNat) : GoodF many hues f := by
  obtain ⟨a, b⟩ := fill_good h
  exact ⟨by omega, fun z hz => by have := b z hz; omega⟩
theorem pow_le_4096 {h n : Nat} (hh : h ≤ 4) (hn : n ≤ 6) : h ^ n ≤ 4096 := by
  have a : h ^ n ≤ 4 ^ n := Nat.pow_le_pow_left hh n
  have b : 4 ^ n ≤ 4 ^ 6 := Nat.pow_le_pow_right (by decide) hn
  have c : (4 : Nat) ^ 6 = 4096 := by decide
  omega
/-! ### counts -/
def bump (ns : List Int) (i : Nat) : List Int := ns.set i (ns.getD i 0 + 1)
def cnt0 (wds : List WD) : List Int := List.replicate (wds.length + 1) 0
def cntL (wds : List WD) (fss : List (List Int)) : List Int := fss.foldl (fun ns f => bump ns (broL f wds wds.length).length) (cnt0 wds)
theorem cnt_snoc (wds : List WD) (fss : List (List Int)) (f : List Int) : cntL wds (fss ++ [f]) = bump (cntL wds fss) (broL f wds wds.length).length := by
  unfold cntL
  rw [List.foldl_append]
  rfl
theorem bump_len (ns : List Int) (i : Nat) : (bump ns i).length = ns.length := by simp [bump]
theorem foldl_len (wds : List WD) : ∀ (fss : List (List Int)) (ns : List Int), (fss.foldl (fun ns f => bump ns (broL f wds wds.length).length) ns).length = ns.length
  | [], _ => rfl
  | f :: r, ns => by rw [List.foldl_cons, foldl_len wds r, bump_len]
theorem cnt_len (wds : List WD) (fss : List (List Int)) : (cntL wds fss).length = wds.length + 1 := by
  unfold cntL
  rw [foldl_len]
  simp [cnt0]
theorem bump_mem {ns : List Int} {i : Nat} {b : Int} (h : ∀ z ∈ ns, 0 ≤ z ∧ z ≤ b) (hb : 0 ≤ b) : ∀ z ∈ bump ns i, 0 ≤ z ∧ z ≤ b + 1 := fun z hz => by
  unfold bump at hz
  rcases List.mem_or_eq_of_mem_set hz with q | q
  · have := h z q; omega
  · subst q
    rw [List.getD_eq_getElem?_getD]
    cases e : ns[i]? with
    | none => simp; omega
    | some x => have := h x (List.mem_of_getElem? e); simp; omega
theorem foldl_mem (wds : List WD) : ∀ (fss : List (List Int)) (ns : List Int) (b : Int), 0 ≤ b → (∀ z ∈ ns, 0 ≤ z ∧ z ≤ b) → ∀ z ∈ fss.foldl (fun ns f => bump ns (broL f wds wds.length).length) ns, 0 ≤ z ∧ z ≤ b + fss.length
  | [], _, b, _, h => fun z hz => by have := h z hz; simp; omega
  | f :: r, ns, b, hb, h => fun z hz => by
    have := foldl_mem wds r (bump ns (broL f wds wds.length).length) (b + 1) (by omega) (bump_mem h hb) z hz
    rw [List.length_cons]
    omega
theorem cnt_mem (wds : List WD) (fss : List (List Int)) : ∀ z ∈ cntL wds fss, 0 ≤ z ∧ z ≤ fss.length := fun z hz => by
  have := foldl_mem wds fss (cnt0 wds) 0 (by omega) (fun z hz => by
    have := List.eq_of_mem_replicate hz
    omega) z hz
  omega
theorem bump_eq {ns : List Int} {i : Nat} {x : Int} (h : ns[i]? = some x) : bump ns i = ns.set i (x + 1) := by
  unfold bump
  rw [List.getD_eq_getElem?_getD, h]
  rfl
/-! ### clashes -/
def clB (a b : WD) : Bool := a.1.any fun p => decide (p ∈ b.1)
theorem clB_comm (a b : WD) : clB a b = clB b a := by
  rw [Bool.eq_iff_iff]
  unfold clB
  simp only [List.any_eq_true, decide_eq_true_eq]
  exact ⟨fun ⟨x, h1, h2⟩ => ⟨x, h2, h1⟩, fun ⟨x, h1, h2⟩ => ⟨x, h2, h1⟩⟩
def clAt (wds : List WD) (a : WD) (k : Nat) : Bool := match wds[k]? with
  | some wd => clB a wd
  | none => false
def clsL (wds : List WD) (a : WD) (i : Nat) : List Int := ((List.range i).filter (clAt wds a)).map fun (k : Nat) => (k : Int)
theorem clAt_of {wds : List WD} {a wd : WD} {k : Nat} (h : wds[k]? = some wd) : clAt wds a k = clB a wd := by
  unfold clAt
  rw [h]
theorem clsL_yes {wds : List WD} {a : WD} {i : Nat} (h : clAt wds a i = true) : clsL wds a (i + 1) = clsL wds a i ++ [(i : Int)] := by
  unfold clsL
  rw [List.range_succ, List.filter_append, List.map_append]
  simp [h]
theorem clsL_no {wds : List WD} {a : WD} {i : Nat} (h : clAt wds a i = false) : clsL wds a (i + 1) = clsL wds a i := by
  unfold clsL
  rw [List.range_succ, List.filter_append, List.map_append]
  simp [h]
theorem clsL_len (wds : List WD) (a : WD) (i : Nat) : (clsL wds a i).length ≤ i := by
  unfold clsL
  rw [List.length_map]
  have q := List.length_filter_le (clAt wds a) (List.range i)
  rw [List.length_range] at q
  exact q
theorem clsL_mem {wds : List WD} {a : WD} {i : Nat} {z : Int} (h : z ∈ clsL wds a i) : 0 ≤ z ∧ z < i := by
  unfold clsL at h
  obtain ⟨k, hk, rfl⟩ := List.mem_map.mp h
  have := List.mem_range.mp (List.mem_filter.mp hk).1
  omega
def clsAll (wds : List WD) : List (List Int) := wds.map fun wd => clsL wds wd wds.length
/-! ### fine data -/
theorem short_int (m : Nat) (h : m < 10 ^ 10) : PyData.intsShort 13 (.int (m : Int)) = true := by
  have e := (Nat.length_repr_le_iff (n := m) (by decide : 0 < 10)).mpr h
  show decide ((Str.ofString (Nat.repr m)).length ≤ 13) = true
  rw [decide_eq_true_eq, Str.ofString_eq_toList]
  have z : (Str.mk ((Nat.repr m).toList.map Char.toNat).toArray).length = (Nat.repr m).length := by
    show ((Nat.repr m).toList.map Char.toNat).toArray.size = _
    rw [List.size_toArray, List.length_map, String.length_toList]
  omega
theorem fine_intM {i : Int} (h0 : 0 ≤ i) (h1 : i < 5000) : Fine (.int i) 1 14 := by
  obtain ⟨n, rfl⟩ : ∃ n : Nat, i = n := ⟨i.toNat, by omega⟩
  have hn : n < 5000 := by omega
  have hl : n.log2 ≤ 12 := by
    by_cases e : n = 0
    · subst e; decide
    · have := (Nat.log2_lt e).mpr (show n < 2 ^ 13 by omega)
      omega
  refine ⟨rfl, by simp [PyData.depth], ?_, ?_, rfl, short_int n (by omega)⟩
  · simp only [PyData.weight]
    split
    · omega
    · have e : ((n : Int)).natAbs = n := by omega
      rw [e]
      omega
  · simp only [PyData.showable]
    have e : ((n : Int)).natAbs = n := by omega
    rw [e]
    exact decide_eq_true (by omega)
theorem fine_ints {ns : List Int} (h : ∀ z ∈ ns, 0 ≤ z ∧ z < 5000) : Fine (.list (ns.map .int)) 2 (ns.length * 15) :=
  (Fine.list (fineAll_map ns fun z hz => fine_intM (h z hz).1 (h z hz).2)).mono (by omega) (by omega)
def listsD (ls : List (List Int)) : PyData := .list (ls.map fun l => .list (l.map .int))
theorem fine_lists {ls : List (List Int)} (hl : ls.length ≤ 300) (h : ∀ l ∈ ls, l.length ≤ 20 ∧ ∀ z ∈ l, 0 ≤ z ∧ z < 5000) : Fine (listsD ls) 3 100000 := by
  refine (Fine.list (fineAll_map (n := 2) (w := 300) ls fun l hl => (fine_ints (h l hl).2).mono (Nat.le_refl _) (by have := (h l hl).1; omega))).mono (by omega) (by omega)
end Dt

set_option Elab.async false
set_option linter.all false
set_option maxRecDepth 100000
set_option maxHeartbeats 4000000
/-! elements of generator expressions: x in f[0] -/
namespace Gv
open PySem PySem.Spec PyProof.Rows L2
variable {X : Cx} {pins : List (Addr × Obj)} {σ : L2.St}
theorem reads_ints (h : Heap) : ∀ (ns : List Int) (us : List Value), Vals (ns.map V.int) us → ∃ as, ReadsAll h us (ns.map PyData.int) as
  | [], _, r => by cases r; exact ⟨_, .nil⟩
  | n :: q, _, r => by
    cases r with
    | cons r1 r2 =>
      obtain ⟨as, z⟩ := reads_ints h q _ r2
      obtain ⟨t, rfl⟩ := r1
      exact ⟨_, .cons (.int n t) z⟩
theorem canAll_ints : ∀ ns : List Int, PyData.canLayAll0 (ns.map PyData.int) = true
  | [] => rfl
  | n :: q => by simp only [List.map_cons, PyData.canLayAll0, PyData.canLay0, canAll_ints q, Bool.and_self]
theorem any_ints (n : Int) : ∀ ns : List Int, ((ns.map PyData.int).any fun y => PyData.eqv y (.int n)) = decide (n ∈ ns)
  | [] => by simp
  | m :: q => by
    rw [List.map_cons, List.any_cons, any_ints n q]
    by_cases e : m = n
    · subst e; simp [PyData.eqv]
    · have e2 : ¬ n = m := fun z => e z.symm
      simp [PyData.eqv, e, e2]
theorem elt_in0 {f x : Str} {scope : Scope} {P fa pa : Addr} {H1 : Hp} {xs ys zs : List V} {ns : List Int} {j jj : Nat} {p1 p2 p3 p4 p5 : Pos} (hk : scope.kind = .function) (hx : scope.names.lookup x = some .local) (hf : scope.names.lookup f = some .free)
    (hcl : (cloFrom X.env.cells scope.names []).lookup f = some ((X.env.cells.lookup f).getD 0)) (hj : X.N[j]? = some f) (hkf : X.env.kindOf f = some .cell) (hσ : σ[j]? = some (some (.ref fa))) (hq : SqT X.K H1 fa (.ref pa :: zs)) (hp : SqT X.K H1 pa (ns.map V.int)) (hT : GxR.TabG H1 P) (hu : X.A.units + 64 < cLine)
    (hv : ∀ (i : Nat) x0, xs[i]? = some x0 → ∃ (n : Int), x0 = .int n ∧ ys[i]? = some (.bl (decide (n ∈ ns)))) (hdf : (f == ("__debug__" : Str)) = false := by decide) (hdx : (x == ("__debug__" : Str)) = false := by decide) (hcf : (f == ("__classdict__" : Str)) = false := by decide) :
    EltV X pins σ scope x (.Compare (.Name x p1) [.In] [.Subscript (.Name f p2) (.Constant (.int 0) jj p3) p4] p5) P H1 xs ys := by
  intro s1 t C code bi A' E' i x0 u m I hA hU hx0 ru hn hm hkp
  obtain ⟨n, rfl, hy⟩ := hv i x0 hx0
  obtain ⟨tk, rfl⟩ := (show ∃ t, u = Value.int n t from ru)
  obtain ⟨ps, hP, _⟩ := hT
  have tabS : s1.heap.get? P = some { cls := .none, data := .fields ps } := I.hok P _ hP
  obtain ⟨m1, _, hl⟩ := I.loc
  obtain ⟨uf, rf, lk⟩ := hl j f _ hj hσ (.inr (.inl hkf))
  cases (show uf = Value.ref fa from rf)
  obtain ⟨c, hc, ic⟩ : ∃ c, X.env.cells.lookup f = some c ∧ s1.heap.IsCell c (some (.ref fa)) := by
    rcases lk with ⟨z, _⟩ | ⟨_, c, hc, ic⟩
    · rw [hkf] at z; cases z
    · exact ⟨c, hc, ic⟩
  have ic2 : t.heap.IsCell c (some (.ref fa)) := by
    obtain ⟨o, ho, hd⟩ := ic
    refine ⟨o, hkp c o (fun z => ?_) ho, hd⟩
    rw [z, tabS] at ho
    cases ho
    cases hd
  have tup2 : ∀ {a : Addr} {its : Array Value}, IsTup s1.heap a its → IsTup t.heap a its := fun {a its} pl => by
    obtain ⟨o, ho, hcl', nn, hd⟩ := pl
    refine ⟨o, hkp a o (fun z => ?_) ho, hcl', nn, hd⟩
    rw [z, tabS] at ho
    cases ho
    cases hd
  obtain ⟨its, rv, pl, hz⟩ := I.tuple hq
  have pl2 := tup2 pl
  obtain ⟨its2, rv2, plb, hz2⟩ := I.tuple hp
  have plb2 := tup2 plb
  have clf : (genEnv scope (cloFrom X.env.cells scope.names []) C code bi X.env).cells.lookup f = some c := by
    show (cloFrom X.env.cells scope.names []).lookup f = some c
    rw [hcl, hc]
    rfl
  have hat0 : atI (.ref pa :: zs) 0 = some (.ref pa) := atI_nat (j := 0) rfl
  obtain ⟨j2, h1, h2, h3, h4, h5⟩ := atI_get hat0
  obtain ⟨wv, ew, rw'⟩ := rv.get h2
  cases (show wv = Value.ref pa from rw')
  have hlen := rv.length
  refine wpAny_Compare1 ?_
  refine wpAny_Name (wpAny_loadName_local hk hx hn hm ?_) hdx
  refine Subscript_ (wpAny_Name (wpAny_loadName_free hk hf clf ic2 ?_ hcf) hdf)
  refine wpAny_Constant_int ?_
  refine subscriptTail_builtinR (x := Value.ref pa) (show IsTup { t with toks := t.toks + 1 }.heap fa its.toArray from pl2).typeIs slot_tuple_getitem.lookup
    (getItem_tuple (j := j2) (show IsTup { t with toks := t.toks + 1 }.heap fa its.toArray from pl2) (by decide) (by decide) (by rw [List.size_toArray, ← hlen]; exact h1) (by simpa using ew) ⟨rfl, ?_⟩) (by rfl)
  obtain ⟨as, ra⟩ := reads_ints t.heap ns its2 rv2
  obtain ⟨o, ho, hcl', nn, hd⟩ := plb2
  refine PySem.SeqAt.in_tuple_reads (xs := ns.map PyData.int) (d := .int n) (.tuple (h := t.heap) ho hcl' hd (by simpa using ra)) (.int n tk) (canAll_ints ns) rfl ?_ ⟨⟨_, hy, ?_⟩, GxR.keeps_tok _ _⟩
  · have : min (PyData.depthAll (ns.map PyData.int)) (PyData.int n).depth ≤ 1 := Nat.le_trans (Nat.min_le_right _ _) (by simp [PyData.depth])
    omega
  · rw [any_ints]
    rfl
end Gv

set_option Elab.async false
set_option linter.all false
set_option maxRecDepth 100000
set_option maxHeartbeats 4000000
/-! comprehensions with two fors: the loops; an item of a list, by values -/
namespace Cp
open PySem PySem.Spec PyProof.Rows L2
theorem lc2_list {K : PySem.W.Frag} {a : Addr} {xs : List V} {g : TG} {tt : TT} {B : L2.St → Hp → (Hp → Prop) → Prop} {vs : List Nat} {σ : L2.St} {H1 : Hp} {D : Addr} {Qd : Hp → Prop} (Pv : Nat → Hp → Prop) (h0 : Pv 0 (upd H1 D (.lst []))) (hl : ∀ i H, i ≤ xs.length → Pv i H → SqL K H a xs)
    (hs : ∀ i x H, xs[i]? = some x → Pv i H → g x (wipe σ vs) H fun σ2 H2 => wipe σ2 vs = wipe σ vs ∧ tt σ2 H2 fun b H3 => if b = true then B σ2 H3 (Pv (i + 1)) else Pv (i + 1) H3) (hd : ∀ H, Pv xs.length H → Qd H) :
    ∃ W : Nat → Nat → Hp → Prop, (∃ m, W 0 m (upd H1 D (.lst []))) ∧ ∀ i m H, W i m H →
      ((Itl K a).stop i H ∧ Qd H) ∨ ((Itl K a).go i H ∧ ∃ Nx : Hp → Prop, (∀ H', Nx H' → ∃ m', m' < m ∧ W (i + 1) m' H') ∧ ∀ x H', (Itl K a).yld i H x H' → g x (wipe σ vs) H' fun σ2 H2 => wipe σ2 vs = wipe σ vs ∧ tt σ2 H2 fun b H3 => if b = true then B σ2 H3 Nx else Nx H3) := by
  refine ⟨fun i m H => m = xs.length - i ∧ i ≤ xs.length ∧ Pv i H, ⟨xs.length, by simp, Nat.zero_le _, h0⟩, ?_⟩
  rintro i m H ⟨rfl, hi, p⟩
  have q := hl i H hi p
  by_cases hlt : i < xs.length
  · refine .inr ⟨⟨xs, xs[i], q, by simp [hlt]⟩, Pv (i + 1), fun H' p' => ⟨xs.length - (i + 1), by omega, rfl, hlt, p'⟩, fun x H' y => ?_⟩
    obtain ⟨e, y⟩ := y
    subst e
    exact hs i x _ (y xs q) p
  · have e : i = xs.length := by omega
    subst e
    exact .inl ⟨⟨xs, q, by simp⟩, hd H p⟩
theorem lcin_range {lo : Int} {n : Nat} {g : TG} {tt : TT} {te : TE} {vs : List Nat} {σ : L2.St} {H4 : Hp} {D : Addr} {Qd : Hp → Prop} (Pv : Nat → Hp → Prop) (h0 : Pv 0 H4)
    (hs : ∀ i H, i < n → Pv i H → g (.int (lo + i)) (wipe σ vs) H fun σ2 H2 => wipe σ2 vs = wipe σ vs ∧ tt σ2 H2 fun b H3 =>
      if b = true then te σ2 H3 fun y H4 => ∃ acc, H4 D = some (.lst acc) ∧ acc.length < sizeLine ∧ Pv (i + 1) (upd H4 D (.lst (acc ++ [y]))) else Pv (i + 1) H3) (hd : ∀ H, Pv n H → Qd H) :
    ∃ W : Nat → Nat → Hp → Prop, (∃ m, W 0 m H4) ∧ ∀ i m H, W i m H →
      ((Itr lo n).stop i H ∧ Qd H) ∨ ((Itr lo n).go i H ∧ ∃ Nx : Hp → Prop, (∀ H', Nx H' → ∃ m', m' < m ∧ W (i + 1) m' H') ∧ ∀ x H', (Itr lo n).yld i H x H' → g x (wipe σ vs) H' fun σ2 H2 => wipe σ2 vs = wipe σ vs ∧ tt σ2 H2 fun b H3 =>
        if b = true then te σ2 H3 fun y H4 => ∃ acc, H4 D = some (.lst acc) ∧ acc.length < sizeLine ∧ Nx (upd H4 D (.lst (acc ++ [y]))) else Nx H3) := by
  refine ⟨fun i m H => m = n - i ∧ i ≤ n ∧ Pv i H, ⟨n, by simp, Nat.zero_le _, h0⟩, ?_⟩
  rintro i m H ⟨rfl, hi, p⟩
  by_cases hlt : i < n
  · refine .inr ⟨hlt, Pv (i + 1), fun H' p' => ⟨n - (i + 1), by omega, rfl, hlt, p'⟩, fun x H' y => ?_⟩
    obtain ⟨e, y⟩ := y
    subst e y
    exact hs i _ hlt p
  · have e : i = n := by omega
    subst e
    exact .inl ⟨Nat.le_refl _, hd H p⟩
/-- xs[k], k from 0 on -/
def rIxN (K : PySem.W.Frag) : V → V → Hp → VK → Prop := fun x y H Q => ∃ (p : Addr) (xs : List V) (k : Nat) (v : V), x = .ref p ∧ y = .int k ∧ SqL K H p xs ∧ xs[k]? = some v ∧ Q v H
theorem pget_list {X : Cx} : PGet X (rIxN X.K) := by
  intro pins s σ H o i ov iv Q I ro ri h
  obtain ⟨p, xs, k, z, rfl, rfl, hq, he, q⟩ := h
  cases ro
  obtain ⟨t, rfl⟩ := ri
  obtain ⟨its, r, pl, hz⟩ := I.list hq
  obtain ⟨w, ew, rw'⟩ := r.get he
  have hl := r.length
  have hn := line63
  have hk := (List.getElem?_eq_some_iff.mp he).1
  exact wpAny_getItem_list pl.isList (by omega) (by omega) (by simpa using ew) ⟨z, H, I, rw', q⟩
end Cp

set_option Elab.async false
set_option linter.all false
set_option maxRecDepth 100000
set_option maxHeartbeats 4000000
/-! all(..) and any(..) of a generator expression: any source, any target, any element -/
namespace Gx
open PySem PySem.Spec PyProof.Rows L2 GenW
/-- the element's context: a frame of its own over the def's -/
abbrev gcx (X : Cx) (A : Around) (s : Shared) (H : Hp) (cenv : Env) (fp : List Addr) : Cx :=
  { X with A := A, s_0 := s, H_0 := H, env := cenv, outer := X.stack, stack := cenv :: X.stack, ex := fp, fn := fun _ => false, pn := [], xe := fun _ _ => False }
structure GenK (scope : Scope) : Prop where
  co : scope.isCoroutine = false
  cell : ∀ y ∈ scope.names, y.2 ≠ .cell
  dot : scope.names.lookup (".0" : Str) = some NameKind.local
/-- nothing but the generators' own table has turned -/
structure Kept (s s' : Shared) : Prop where
  os : s'.os = s.os
  bare : AllBare s'.gens
  keep : ∀ b o, s.heap.get? b = some o → s'.heap.get? b = some o
theorem Inv.keptS {X : Cx} {pins : List (Addr × Obj)} {σ : L2.St} {H : Hp} {s s' : Shared} (I : Inv X pins σ H s) (k : Kept s s') : Inv X pins σ H s' :=
  I.call' (ch := []) k.os (Un.kept k.keep) (I.hok.kept k.keep) k.bare fun b z => by simp at z
section
variable {X : Cx} {pins : List (Addr × Obj)} {σ : L2.St} {H : Hp} {s : Shared}
theorem gen_start {scope : Scope} {own : List (Str × Nat)} {fp : List Addr} {code : Value} {A : Around} {s' : Shared} {m : Str → Option Value} (I : Inv X pins σ H s) (ok : BlkOk X.N X.env.scope scope own) (S : GenK scope) (hN : X.N.Nodup) (hfp : ∀ b ∈ fp, FpOk X pins H b ∧ b < s.heap.objs.size)
    (hA : A.handled = none) (hfr : A.frames = some (genEnv scope (cloFrom X.env.cells scope.names []) s.heap.objs.size code builtinsNs X.env :: X.stack))
    (k : Kept s s') (hns : s'.heap.Ns s.heap.objs.size m) :
    Inv (gcx X A s H (genEnv scope (cloFrom X.env.cells scope.names []) s.heap.objs.size code builtinsNs X.env) fp) [] (wipe σ (own.map (·.2))) H s' := by
  have hfree : ∀ y ∈ scope.names, y.2 = .free → ∃ c, X.env.cells.lookup y.1 = some c := fun y hy e => by
    rcases ok.free y hy e with k | k
    · exact I.ok.has _ (.inl k)
    · exact I.ok.has _ (.inr k)
  generalize hcenv : genEnv scope (cloFrom X.env.cells scope.names []) s.heap.objs.size code builtinsNs X.env = cenv at hfr
  have hL : cenv.locals = s.heap.objs.size := by rw [← hcenv]; rfl
  have hcl : cenv.cells = cloFrom X.env.cells scope.names [] := by rw [← hcenv]; rfl
  have hsc : cenv.scope = scope := by rw [← hcenv]; rfl
  have mem : ∀ {y c}, cenv.cells.lookup y = some c → X.env.cells.lookup y = some c ∧ c < s.heap.objs.size := fun {y c} e => by
    rw [hcl] at e
    rcases cloFrom_mem (PySem.mem_of_lookup e) with hm | ⟨h1, rfl⟩
    · cases hm
    · obtain ⟨c, hc⟩ := hfree _ h1 rfl
      rw [hc]
      obtain ⟨w, z⟩ := I.cell _ _ hc
      exact ⟨rfl, z.lt⟩
  have look : ∀ {y}, scope.names.lookup y = some .free → ∃ c, cenv.cells.lookup y = some c ∧ X.env.cells.lookup y = some c := fun {y} hl => by
    have hy : (y, NameKind.free) ∈ scope.names := PySem.mem_of_lookup hl
    obtain ⟨c', e'⟩ := mem_lookup (cloFrom_has (cells := X.env.cells) (acc := []) hy)
    rw [← hcl] at e'
    exact ⟨c', e', (mem e').1⟩
  have okB : (gcx X A s H cenv fp).Ok := by
    refine ⟨I.ok.mod, by show cenv.scope.kind = _; rw [hsc]; exact ok.kind, by show cenv.globals = _; rw [← hcenv]; exact I.ok.glob, by show cenv.builtins = _; rw [← hcenv]; rfl, by show s.heap.objs.size ≤ cenv.locals; rw [hL]; exact Nat.le_refl _,
      fun y z c e1 e2 => I.ok.inj y z c (mem e1).1 (mem e2).1, fun y hy => ?_, (fun y c z e => nomatch z), fun _ => hA, hfr, .inr ⟨rfl, ?_⟩, fun b hb => ⟨?_, fun y c e z => ?_⟩, I.bs, Nat.le_trans I.ok.bsz I.sz, fun b o e hb => ?_, fun b hb z => ?_, I.stack, I.stkFree⟩
    · show ∃ c, cenv.cells.lookup y = some c
      rcases hy with hy | hy
      · have e : scope.names.lookup y = some .cell := by rw [← hsc]; exact hy
        exact absurd rfl (S.cell _ (PySem.mem_of_lookup e))
      · have e : scope.names.lookup y = some .free := by rw [← hsc]; exact hy
        obtain ⟨c, h1, _⟩ := look e
        exact ⟨c, h1⟩
    · show cenv.frame = some cenv.locals
      rw [← hcenv]
      rfl
    · show b ≠ cenv.locals
      rw [hL]; exact Nat.ne_of_lt (hfp b hb).2
    · exact (hfp b hb).1.2.2.2.2.1 y c (mem e).1 z
    · rcases (hfp b hb).1.2.2.2.1 with z | z
      · exact I.ok.noex b o e z
      · exact absurd (Nat.lt_of_lt_of_le (Heap.lt_size e) (Nat.le_trans I.ok.bsz z)) (Nat.lt_irrefl _)
    · rcases List.mem_cons.mp (I.stkSub b z) with z | z
      · exact (hfp b hb).1.2.1 z
      · exact (hfp b hb).1.2.2.1 z
  refine ⟨okB, k.os, k.bare, Un.kept k.keep, ⟨m, ?_, fun i y av e1 e2 e3 => ?_⟩, fun y c e => ?_, ?_, fun y c e => I.freeC y c (mem e).1, fun p hp => ?_, I.hok.kept k.keep, by rw [wipe_length]; exact I.len⟩
  · show Heap.Ns _ cenv.locals _
    rw [hL]
    exact hns
  · obtain ⟨e2, hne⟩ := wipe_some e2
    have hfr : scope.names.lookup y = some .free := by
      have key : ∀ k, scope.names.lookup y = some k → k = .local ∨ k = .cell ∨ k = .free → scope.names.lookup y = some .free := fun k e hk' => by
        have no : ¬ (k = .local ∨ k = .cell) := fun hh => by
          rcases ok.own _ (PySem.mem_of_lookup e) hh with e' | e'
          · obtain ⟨p, hp, hpy⟩ := List.mem_map.mp e'
            have e3 := ok.ix p hp
            have : p.1 = y := hpy
            rw [this] at e3
            exact hne (List.mem_map.mpr ⟨p, hp, nodup_ix hN e3 e1⟩)
          · exact e' (List.mem_of_getElem? e1)
        rcases hk' with rfl | rfl | rfl
        · exact absurd (.inl rfl) no
        · exact absurd (.inr rfl) no
        · exact e
      have e3 : Vis cenv.scope y := e3
      rw [hsc] at e3
      rcases e3 with e3 | e3 | e3
      · exact key _ e3 (.inl rfl)
      · exact key _ e3 (.inr (.inl rfl))
      · exact key _ e3 (.inr (.inr rfl))
    obtain ⟨m2, hn, hl⟩ := I.loc
    have hvis : Vis X.env.scope y := (ok.free _ (PySem.mem_of_lookup hfr) rfl).elim (fun k => .inr (.inl k)) (fun k => .inr (.inr k))
    obtain ⟨w, r, q⟩ := hl i y av e1 e2 hvis
    refine ⟨w, r, .inr ⟨.inr (by show cenv.scope.names.lookup y = _; rw [hsc]; exact hfr), ?_⟩⟩
    obtain ⟨c, h1, h2⟩ := look hfr
    rcases q with ⟨k, _⟩ | ⟨_, c', e', z⟩
    · have k : X.env.scope.names.lookup y = some .local := k
      rcases ok.free _ (PySem.mem_of_lookup hfr) rfl with k' | k' <;> rw [show X.env.scope.names.lookup y = _ from k'] at k <;> cases k
    · rw [h2] at e'; cases e'
      exact ⟨c, h1, z.keeps k.keep⟩
  · obtain ⟨w, z⟩ := I.cell y c (mem e).1
    exact ⟨w, z.keeps k.keep⟩
  · show H cenv.locals = none
    rw [hL]; exact I.hok.fresh (Nat.le_refl _)
  · exact absurd (show p ∈ ([] : List (Addr × Obj)) ++ [] from hp) (by simp)
end
end Gx

set_option Elab.async false
set_option linter.all false
set_option maxRecDepth 100000
set_option maxHeartbeats 4000000
namespace Gx
open PySem PySem.Spec PyProof.Rows L2 GenW
/-- the end of the walk -/
def RG (X : Cx) (pz : List (Addr × Obj)) (σ0 : L2.St) (QT : Hp → Prop) : GenEnd := fun _ _ r s₁ => ((r = .ok (.ret .none) ∨ r = .ok .next) ∧ ∃ H', Inv X pz σ0 H' s₁ ∧ QT H') ∨ ∃ e, r = .error e ∧ False
/-- a truth is handed out: by d it goes on -/
def YG (X : Cx) (pz : List (Addr × Obj)) (d : Bool) (QF : Hp → Prop) : Protocol := fun _ _ v s kap => ∃ (c : Bool) (σ' : L2.St) (H' : Hp), v = .bool c ∧ Inv X pz σ' H' s ∧ (if c = d then ∀ s', Kept s s' → kap (.send .none) s' else QF H')
/-- the source's turns, the target, the tests, the element -/
def Turns (J : It) (g : TG) (tt : TT) (te : TE) (vs : List Nat) (σ : L2.St) (d : Bool) (QT QF : Hp → Prop) (W : Nat → Nat → Hp → Prop) : Prop := ∀ i m H, W i m H →
  (J.stop i H ∧ QT H) ∨ (J.go i H ∧ ∃ Nx : Hp → Prop, (∀ H', Nx H' → ∃ m', m' < m ∧ W (i + 1) m' H') ∧ ∀ x H', J.yld i H x H' → g x (wipe σ vs) H' fun σ2 H2 => wipe σ2 vs = wipe σ vs ∧ tt σ2 H2 fun b H3 =>
    if b = true then te σ2 H3 fun y H4 => ∃ c, y = .bl c ∧ (if c = d then Nx H4 else QF H4) else Nx H3)
section
variable {X : Cx} {A B : Around} {s3 : Shared} {H3 : Hp} {cenv : Env} {fp : List Addr} {σ : L2.St}
theorem seg_loop {elt tg iter : Expr} {ifs : List Expr} {scope : Scope} {pos : Pos} {it : Addr} {J : It} {tn : Nat → Heap → Prop} {g : TG} {tt : TT} {te : TE} {vs : List Nat} {d : Bool} {QT QF : Hp → Prop} {W : Nat → Nat → Hp → Prop} {pz : List (Addr × Obj)}
    (T : Turn X.prog X.w X.K tg J fp it tn) (hc : X.calm = true) (hov : B.over (.compLoop (.GeneratorExp elt [⟨tg, iter, ifs, 0⟩] scope pos) 0 (.ref it) .none cenv) [] = A) (hco : cenv.scope.isCoroutine = false) (hpz : ∀ p ∈ pz, p.1 ∉ fp)
    (pg : PG (gcx X A s3 H3 cenv fp) tg g) (pt : PTs (gcx X A s3 H3 cenv fp) ifs tt) (pe : PE (gcx X A s3 H3 cenv fp) elt te) (turn : Turns J g tt te vs σ d QT QF W) :
    ∀ (m n i : Nat) (s₀ s : Shared) (H : Hp), m < n → Inv (gcx X A s3 H3 cenv fp) pz (wipe σ vs) H s → tn i s.heap → (∀ b ∈ fp, H b = none) → W i m H →
      Seg (model X.prog X.w) B (RG (gcx X A s3 H3 cenv fp) pz (wipe σ vs) QT) (YG (gcx X A s3 H3 cenv fp) pz d QF) n s₀
        (.compLoop (.GeneratorExp elt [⟨tg, iter, ifs, 0⟩] scope pos) 0 (.ref it) .none cenv)
        ((model X.prog X.w).den (.compLoop (.GeneratorExp elt [⟨tg, iter, ifs, 0⟩] scope pos) 0 (.ref it) .none cenv)) [] s := by
  have stat : ∀ {σ' : L2.St} {H' : Hp} {s' : Shared}, Inv (gcx X A s3 H3 cenv fp) pz σ' H' s' → (∀ b ∈ fp, H' b = none) → ∀ b ∈ fp, FpOk (gcx X A s3 H3 cenv fp) pz H' b := fun {σ' H' s'} I' hn b hb =>
    ⟨hn b hb, (I'.ok.exf b hb).1, I'.ok.exfs b hb, .inl hb, fun x c e => (I'.ok.exf b hb).2 x c e, fun p hp z => hpz p (by simpa using hp) (by rw [z]; exact hb)⟩
  intro m
  induction m using Nat.strongRecOn with
  | ind m ih =>
    intro n i s₀ s H hmn I st nf w
    show Seg _ B _ _ _ s₀ _ ((compTurn (.GeneratorExp elt [⟨tg, iter, ifs, 0⟩] scope pos) 0 (.ref it) .none cenv).onRaise (leaving cenv)) [] s
    rw [compTurn_gen, Sem.onRaise_eq_wrap]
    refine seg_bind_wrap (wpAny_standAt ?_)
    rcases turn i m H w with ⟨stop, qq⟩ | ⟨go, Nx, hNx, step⟩
    · refine seg_bind_wrap ?_
      rw [hov]
      refine wpAny_mono (T.done (gcx X A s3 H3 cenv fp) rfl rfl rfl hc i pz s _ H (fun _ _ => False) I (stat I nf) st stop) (fun r s6 hx => ?_) fun _ _ e => e.elim
      obtain ⟨rfl, I6⟩ := hx
      exact seg_end (.ok .next) (.inl ⟨.inr rfl, H, I6, qq⟩)
    · refine seg_bind_wrap ?_
      rw [hov]
      refine wpAny_mono (T.item (gcx X A s3 H3 cenv fp) rfl rfl rfl hc i pz s _ H (fun _ _ => False) I (stat I nf) st go) (fun r s6 hx => ?_) fun _ _ e => e.elim
      obtain ⟨u, rfl, h6⟩ := hx
      refine seg_bind_wrap ?_
      rw [hov]
      refine wpAny_mono h6 (fun _ s7 hx => ?_) fun _ _ e => e.elim
      obtain ⟨x, H7, I7, r7, y7, st7, n7⟩ := hx
      have I7' := I7.pinned (stat I7 n7) (T.obj _ _ st7)
      refine seg_bind_wrap ?_
      rw [hov]
      refine wpAny_mono (pg.run _ s7 _ H7 x u _ I7' r7 (step x H7 y7)) (fun _ s8 hx => ?_) fun _ _ e => e.elim
      obtain ⟨σ8, H8, I8, hw8, q8⟩ := hx
      refine seg_bind_wrap ?_
      rw [hov]
      refine wpAny_mono (pt.run _ s8 σ8 H8 _ I8 q8) (fun b s9 hx => ?_) fun _ _ e => e.elim
      obtain ⟨H9, I9, q9⟩ := hx
      -- the turn's end
      have fin : ∀ {s' : Shared} {H' : Hp} {m' : Nat}, Inv (gcx X A s3 H3 cenv fp) (pz ++ pinsAt fp s7.heap) σ8 H' s' → Inv (gcx X A s3 H3 cenv fp) pz (wipe σ vs) H' s' ∧ tn (i + 1) s'.heap ∧ ∀ b ∈ fp, H' b = none := fun {s' H' m'} I' => by
        have pin' : ∀ b ∈ fp, ∀ o, s7.heap.get? b = some o → s'.heap.get? b = some o ∧ H' b = none := fun b hb o e =>
          let z := I'.pin (b, o) (List.mem_append_right _ (List.mem_append_right _ (mem_pinsAt hb e)))
          ⟨z.1, z.2.1⟩
        have hl : (wipe σ vs).length = σ8.length := by rw [← hw8, wipe_length]
        refine ⟨(I'.unpinned (pins := pz)).weak hl (fun j v e => ?_), T.keep _ _ _ st7 fun b hb o e => (pin' b hb o e).1, fun b hb => ?_⟩
        · rw [← hw8] at e
          exact (wipe_some e).1
        · obtain ⟨o, e, _⟩ := T.obj _ _ st7 b hb
          exact (pin' b hb o e).2
      cases b with
      | false =>
        simp only [Bool.false_eq_true, if_false] at q9 ⊢
        obtain ⟨m', hm, w'⟩ := hNx H9 q9
        obtain ⟨f1, f2, f3⟩ := fin (m' := m') I9
        exact seg_again rfl (ih m' hm n (i + 1) s₀ _ H9 (by omega) f1 f2 f3 w')
      | true =>
        simp only [if_true] at q9 ⊢
        have hy : ∀ v, yieldOut cenv v = yieldValue v := fun v => by simp only [yieldOut, hco, Bool.false_eq_true, if_false]
        simp only [hy]
        rw [Sem.bind_eq_wrap', Sem.bind_eq_wrap', Sem.wrap_wrap, Sem.wrap_wrap]
        refine seg_wrap ?_
        rw [hov]
        refine wpAny_mono (pe.run _ s9 σ8 H9 _ I9 q9) (fun z s10 hx => ?_) fun _ _ e => e.elim
        obtain ⟨yv, H10, I10, r10, c, rfl, nx⟩ := hx
        cases (show z = Value.bool c from r10)
        obtain ⟨n, rfl⟩ : ∃ n', n = n' + 1 := ⟨n - 1, by omega⟩
        refine seg_at (seg_yield rfl rfl rfl ⟨c, σ8, H10, rfl, I10.unpinned, ?_⟩)
        by_cases hcd : c = d
        · rw [if_pos hcd] at nx ⊢
          intro s'' hk
          obtain ⟨m', hm, w'⟩ := hNx H10 nx
          obtain ⟨f1, f2, f3⟩ := fin (m' := m') (Inv.keptS I10 hk)
          exact seg_again rfl (ih m' hm n (i + 1) s'' s'' H10 (by omega) f1 f2 f3 w')
        · rw [if_neg hcd] at nx ⊢
          exact nx
theorem seg_start {elt tg iter : Expr} {ifs : List Expr} {scope : Scope} {pos : Pos} {it : Addr} {J : It} {tn : Nat → Heap → Prop} {R : GenEnd} {Y : Protocol} {n : Nat} {s₀ s : Shared}
    (T : Turn X.prog X.w X.K tg J fp it tn) (st : tn 0 s.heap)
    (loop : Seg (model X.prog X.w) B R Y n s₀ (.compLoop (.GeneratorExp elt [⟨tg, iter, ifs, 0⟩] scope pos) 0 (.ref it) .none cenv) ((model X.prog X.w).den (.compLoop (.GeneratorExp elt [⟨tg, iter, ifs, 0⟩] scope pos) 0 (.ref it) .none cenv)) [] s) :
    Seg (model X.prog X.w) B R Y n s₀ (.compStart (.GeneratorExp elt [⟨tg, iter, ifs, 0⟩] scope pos) 0 (.ref it) .none cenv) ((model X.prog X.w).den (.compStart (.GeneratorExp elt [⟨tg, iter, ifs, 0⟩] scope pos) 0 (.ref it) .none cenv)) [] s := by
  show Seg _ B _ _ _ s₀ _ ((compStart (.GeneratorExp elt [⟨tg, iter, ifs, 0⟩] scope pos) 0 (.ref it) .none cenv).onRaise (leaving cenv)) [] s
  unfold compStart
  rw [Sem.onRaise_eq_wrap]
  show Seg _ B _ _ _ s₀ _ ((ask >>= _).wrap _ _ _ _) [] s
  refine seg_bind_wrap (wpAny_askSetting ?_)
  split
  · exact seg_again rfl loop
  · first
      | exact seg_bind_wrap (wpAny_rule (seg_bind_wrap (wpAny_standAt (seg_bind_wrap (T.self _ 0 s _ _ st (seg_again rfl loop))))))
      | (refine seg_bind_wrap (wpAny_rule ?_); show Seg _ B _ _ _ s₀ _ ((standAt iter.pos >>= _).wrap _ _ _ _) [] s; exact seg_bind_wrap (wpAny_standAt (seg_bind_wrap (T.self _ 0 s _ _ st (seg_again rfl loop)))))
end
/-- the consumer: all's loop by d = true, any's by d = false -/
def loopId (d : Bool) : String := if d then "all.loop" else "any.loop"
theorem walk_loop {X : Cx} {pz : List (Addr × Obj)} {σ0 : L2.St} {QT QF : Hp → Prop} {A : Around} {a : Addr} {g : Nat} {go : Obj} (d : Bool) {R : Result → Shared → Prop} (hpz : (a, go) ∈ pz) (hgo : ∀ h : Heap, h.get? a = some go → h.IsGen a g)
    (hh : A.handled = none) (hd : A.depth < recursionLimit)
    (hT : ∀ H' s1 s', Inv X pz σ0 H' s1 → QT H' → Kept s1 s' → R (.ok (.ret (.bool d))) s') (hF : ∀ σ' H' s1 s', Inv X pz σ' H' s1 → QF H' → Kept s1 s' → R (.ok (.ret (.bool (!d)))) s') :
    ∀ (n : Nat) (s : Shared), s.heap.IsGen a g → s.heap.NoLimit →
      (∃ gs, s.gens[g]? = some gs ∧ gs.Goes (model X.prog X.w) A.in1.in1 (RG X pz σ0 QT) (YG X pz d QF) n (.send .none) (s.setGen g .running)) →
      codeAny (model X.prog X.w) A (.builtin (loopId d) ⟨[.ref a], []⟩) R s := by
  intro n
  induction n with
  | zero =>
    intro s hg hl ⟨gs, hgs, hgo'⟩
    cases d
    · show codeAny (model X.prog X.w) A (.builtin "any.loop" ⟨[.ref a], []⟩) R s
      refine codeAny_builtin F.entry_any_loop ?_
      rw [Around.under_plainId F.plain_any_loop _]
      show wpAny _ A.in1 (pyNext (.ref a) >>= _) _ _ s
      refine wpAny_bind (next_genG (A := A.in1) (Er := fun _ _ => False) hh hl hd hg hgs hgo' (fun v s₁ gs' hbare hv => ?_) (fun s₁ hp h' hk => ?_) fun e s₁ he => he.elim)
      · obtain ⟨c, σ', H', rfl, I, hq⟩ := hv
        by_cases hcd : c = false
        · rw [if_pos hcd] at hq
          exact (hq s₁ ⟨rfl, I.bare, fun _ _ e => e⟩).elim
        · rw [if_neg hcd] at hq
          have hc : c = true := by cases c <;> simp at hcd ⊢
          subst hc
          refine wpAny_bind (wpAny_holding (wpAny_truthy_bool ?_))
          refine wpAny_bind (wpAny_letGo ?_)
          simp only [if_true]
          refine wpAny_bind (wpAny_rule (wpAny_pure ?_))
          exact hF σ' H' s₁ _ I hq ⟨rfl, allBare_setGen I.bare hbare, fun _ _ e => e⟩
      · obtain ⟨H', I, q⟩ := hp
        refine wpAny_bind (wpAny_rule (wpAny_pure ?_))
        exact hT H' s₁ _ I q ⟨rfl, allBare_setGen I.bare rfl, hk⟩
    · show codeAny (model X.prog X.w) A (.builtin "all.loop" ⟨[.ref a], []⟩) R s
      refine codeAny_builtin F.entry_all_loop ?_
      rw [Around.under_plainId F.plain_all_loop _]
      show wpAny _ A.in1 (pyNext (.ref a) >>= _) _ _ s
      refine wpAny_bind (next_genG (A := A.in1) (Er := fun _ _ => False) hh hl hd hg hgs hgo' (fun v s₁ gs' hbare hv => ?_) (fun s₁ hp h' hk => ?_) fun e s₁ he => he.elim)
      · obtain ⟨c, σ', H', rfl, I, hq⟩ := hv
        by_cases hcd : c = true
        · rw [if_pos hcd] at hq
          exact (hq s₁ ⟨rfl, I.bare, fun _ _ e => e⟩).elim
        · rw [if_neg hcd] at hq
          have hc : c = false := by cases c <;> simp at hcd ⊢
          subst hc
          refine wpAny_bind (wpAny_holding (wpAny_truthy_bool ?_))
          refine wpAny_bind (wpAny_letGo ?_)
          simp only [Bool.false_eq_true, if_false]
          refine wpAny_bind (wpAny_rule (wpAny_pure ?_))
          exact hF σ' H' s₁ _ I hq ⟨rfl, allBare_setGen I.bare hbare, fun _ _ e => e⟩
      · obtain ⟨H', I, q⟩ := hp
        refine wpAny_bind (wpAny_rule (wpAny_pure ?_))
        exact hT H' s₁ _ I q ⟨rfl, allBare_setGen I.bare rfl, hk⟩
  | succ n ih =>
    intro s hg hl ⟨gs, hgs, hgo'⟩
    have hgl : g < s.gens.size := (Array.getElem?_eq_some_iff.mp hgs).1
    have again : ∀ (σ' : L2.St) (H' : Hp) (s₁ : Shared) (gs' : GenState), gs'.bare = true → Inv X pz σ' H' s₁ → g + 1 ≤ (s₁.setGen g gs').gens.size → (∀ s', Kept s₁ s' → gs'.Goes (model X.prog X.w) A.in1.in1 (RG X pz σ0 QT) (YG X pz d QF) n (.send .none) s') →
        codeAny (model X.prog X.w) A (.builtin (loopId d) ⟨[.ref a], []⟩) R (s₁.setGen g gs') := fun σ' H' s₁ gs' hbare I hsz hq => by
      have hsz1 : g < s₁.gens.size := by
        have q : (s₁.setGen g gs').gens.size = s₁.gens.size := setGen_size _ _ _
        omega
      refine ih (s₁.setGen g gs') (hgo _ (I.pin (a, go) (List.mem_append_right _ hpz)).1) I.nolimit ⟨gs', setGen_at hsz1, hq _ ⟨rfl, allBare_setGen (s := s₁.setGen g gs') (allBare_setGen I.bare hbare) rfl, fun _ _ e => e⟩⟩
    cases d
    · show codeAny (model X.prog X.w) A (.builtin "any.loop" ⟨[.ref a], []⟩) R s
      refine codeAny_builtin F.entry_any_loop ?_
      rw [Around.under_plainId F.plain_any_loop _]
      show wpAny _ A.in1 (pyNext (.ref a) >>= _) _ _ s
      refine wpAny_bind (wpAny_gsz (n := g + 1) hgl (next_genG (A := A.in1) (Er := fun _ _ => False) hh hl hd hg hgs hgo' (fun v s₁ gs' hbare hv => ?_) (fun s₁ hp h' hk => ?_) fun e s₁ he => he.elim))
      · intro hsz
        obtain ⟨c, σ', H', rfl, I, hq⟩ := hv
        refine wpAny_bind (wpAny_holding (wpAny_truthy_bool ?_))
        refine wpAny_bind (wpAny_letGo ?_)
        cases c with
        | false =>
          rw [if_pos rfl] at hq
          simp only [Bool.false_eq_true, if_false]
          exact wpAny_pure ⟨plainId_quiet F.plain_any_loop _, again σ' H' s₁ gs' hbare I hsz hq⟩
        | true =>
          rw [if_neg (by decide)] at hq
          simp only [if_true]
          refine wpAny_bind (wpAny_rule (wpAny_pure ?_))
          exact hF σ' H' s₁ _ I hq ⟨rfl, allBare_setGen I.bare hbare, fun _ _ e => e⟩
      · intro hsz
        obtain ⟨H', I, q⟩ := hp
        refine wpAny_bind (wpAny_rule (wpAny_pure ?_))
        exact hT H' s₁ _ I q ⟨rfl, allBare_setGen I.bare rfl, hk⟩
    · show codeAny (model X.prog X.w) A (.builtin "all.loop" ⟨[.ref a], []⟩) R s
      refine codeAny_builtin F.entry_all_loop ?_
      rw [Around.under_plainId F.plain_all_loop _]
      show wpAny _ A.in1 (pyNext (.ref a) >>= _) _ _ s
      refine wpAny_bind (wpAny_gsz (n := g + 1) hgl (next_genG (A := A.in1) (Er := fun _ _ => False) hh hl hd hg hgs hgo' (fun v s₁ gs' hbare hv => ?_) (fun s₁ hp h' hk => ?_) fun e s₁ he => he.elim))
      · intro hsz
        obtain ⟨c, σ', H', rfl, I, hq⟩ := hv
        refine wpAny_bind (wpAny_holding (wpAny_truthy_bool ?_))
        refine wpAny_bind (wpAny_letGo ?_)
        cases c with
        | true =>
          rw [if_pos rfl] at hq
          simp only [if_true]
          exact wpAny_pure ⟨plainId_quiet F.plain_all_loop _, again σ' H' s₁ gs' hbare I hsz hq⟩
        | false =>
          rw [if_neg (by decide)] at hq
          simp only [Bool.false_eq_true, if_false]
          refine wpAny_bind (wpAny_rule (wpAny_pure ?_))
          exact hF σ' H' s₁ _ I hq ⟨rfl, allBare_setGen I.bare hbare, fun _ _ e => e⟩
      · intro hsz
        obtain ⟨H', I, q⟩ := hp
        refine wpAny_bind (wpAny_rule (wpAny_pure ?_))
        exact hT H' s₁ _ I q ⟨rfl, allBare_setGen I.bare rfl, hk⟩
end Gx

set_option Elab.async false
set_option linter.all false
set_option maxRecDepth 100000
set_option maxHeartbeats 4000000
namespace Gx
open PySem PySem.Spec PyProof.Rows L2 GenW
theorem over_gen {B : Around} {elt : Expr} {gens : List Comprehension} {scope : Scope} {pos : Pos} {it acc : Value} {env : Env} {st : List Env} (h : B.frames = some st) :
    (B.over (.compLoop (.GeneratorExp elt gens scope pos) 0 it acc env) []).frames = some (env :: st) := by
  have e1 : (B.over (.compLoop (.GeneratorExp elt gens scope pos) 0 it acc env) []).frames = pushEnvs (Code.envs (.compLoop (.GeneratorExp elt gens scope pos) 0 it acc env)) (pushEnvs (envsOf (([] : List Frame).map Frame.where_)) B.frames) := rfl
  rw [e1, h]
  rfl
/-- the reading: by d the walk goes on -/
def tQX (d : Bool) (wi : TI) (g : TG) (tt : TT) (te : TE) (vs : List Nat) (P : Addr) : TE := fun σ H Q => wi σ H fun J H1 => GxR.TabG H1 P ∧ ∀ H2, GxR.Tabbed P H1 H2 → ∃ W : Nat → Nat → Hp → Prop, (∃ m, W 0 m H2) ∧
  Turns J g tt te vs σ d (fun H => Q (.bl d) H) (fun H => Q (.bl (!d)) H) W
section
variable {X : Cx} {pins : List (Addr × Obj)} {σ : L2.St} {H : Hp} {s : Shared}
theorem gen_core {c P : Addr} {elt tg iter : Expr} {ifs : List Expr} {gpos : Pos} {scope : Scope} {own : List (Str × Nat)} {wi : TI} {g : TG} {tt : TT} {te : TE} {k : Nat} {d : Bool} {Q : VK}
    (hr : Room (k + 1) X.A) (hc : X.calm = true) (hN : X.N.Nodup) (TB : GxR.TabB X.base X.mg c P) (hcode : X.env.code = .ref c) (ok : BlkOk X.N X.env.scope scope own) (S : GenK scope) (hi : PI X tg iter wi) (hs : ∀ v, genFold iter X.env v = pure v)
    (hg : ∀ (A : Around) (s : Shared) (H : Hp) (C : Addr) (code : Value) (fp : List Addr), Room k A → PG (gcx X A s H (genEnv scope (cloFrom X.env.cells scope.names []) C code builtinsNs X.env) fp) tg g)
    (ht : ∀ (A : Around) (s : Shared) (H : Hp) (C : Addr) (code : Value) (fp : List Addr), Room k A → PTs (gcx X A s H (genEnv scope (cloFrom X.env.cells scope.names []) C code builtinsNs X.env) fp) ifs tt)
    (he : ∀ (A : Around) (s : Shared) (H : Hp) (C : Addr) (code : Value) (fp : List Addr), Room k A → PE (gcx X A s H (genEnv scope (cloFrom X.env.cells scope.names []) C code builtinsNs X.env) fp) elt te)
    (I : Inv X pins σ H s) (h : tQX d wi g tt te (own.map (·.2)) P σ H Q) :
    wpAny (model X.prog X.w) X.A (eval (.GeneratorExp elt [⟨tg, iter, ifs, 0⟩] scope gpos) X.env) (fun v s5 => ∃ (a : Addr) (gn : Nat), v = .ref a ∧ s5.heap.IsGen a gn ∧
      codeAny (model X.prog X.w) X.A (.builtin (loopId d) ⟨[.ref a], []⟩) (fun r s' => ∃ b, r = .ok (.ret (.bool b)) ∧ EP X pins σ Q (.bool b) s') s5) X.xe s := by
  have hfree : ∀ y ∈ scope.names, y.2 = .free → ∃ c, X.env.cells.lookup y.1 = some c := fun y hy e => by
    rcases ok.free y hy e with k | k
    · exact I.ok.has _ (.inl k)
    · exact I.ok.has _ (.inr k)
  refine wpAny_GeneratorExp_make S.co (closure_ok hfree) S.cell S.dot ok.kind hr.depth (wpAny_mono (hi.run pins s σ H _ I h) (fun xv s1 h1 => wpAny_mono h1 (fun itv s2 h2 => ?_) fun _ _ e => e) fun _ _ e => e) hs
  obtain ⟨it, fp, tn, J, H1, rfl, I2, T, st2, f2, ⟨ps, hP, htr⟩, hW⟩ := h2
  refine ⟨I2.nolimit, ?_⟩
  have tabS : s2.heap.get? P = some { cls := .none, data := .fields ps } := I2.hok P _ hP
  have hd : PySem.W.CodeHd s2.heap c P := TB.code.keeps fun b u e => I2.bk b u e
  have key : ∀ (REST : Value → Shared → Prop), (∀ (cv : Value) (h3 : Heap) (tk : Nat) (more : Array Value), Heap.ExtBut P s2.heap h3 → s2.heap.objs.size ≤ h3.objs.size → h3.get? P = some { cls := .none, data := .fields (ps ++ more) } → TriplesOk (ps ++ more).toList → REST cv { s2 with heap := h3, toks := tk }) →
      wpAny (model X.prog X.w) X.A (genexprCode X.env gpos (X.env.qual ++ "<genexpr>") scope) REST X.xe s2 := fun REST fin => by
    cases hf : codeAmong gpos ps.toList with
    | some cv =>
      have e : ps = ps ++ #[] := by simp
      exact wpAny_genexprCode_hit hcode (hd.code tabS htr) hf (fin cv _ s2.toks #[] (Heap.ExtBut.refl _ _) (Nat.le_refl _) (e ▸ tabS) (e ▸ htr))
    | none =>
      refine wpAny_genexprCodeX hcode (hd.code tabS htr) (hd.tab tabS) hf fun c' h3 tk ex ge lt ic _ ta _ => ?_
      obtain ⟨_, _, _, _, _, _, _, _, _, _, _, _, _, _, _, _, _, _, _, tr, _⟩ := ic
      exact fin _ h3 tk _ ex (Nat.le_trans ge (Nat.le_of_lt lt)) ta.2 tr
  refine key _ fun cv h3 tk more ex ge tab3 tr3 => ?_
  obtain ⟨bm, ob, b1, b2, b3, b4, b5, b6, b7, b8⟩ := TB.bm
  refine wpAny_builtinsFor (m := X.mg) (by rw [I2.ok.glob]; exact (I2.mod.glob.keeps I2.bk).extBut ex TB.gP) b1 b2 (ex _ _ b4 (I2.bk _ _ b5)) b6 b7 b8 ?_
  intro h' hn' hs'
  generalize hs3 : ({ s2 with heap := h3, toks := tk } : Shared) = s3 at hn' hs' ⊢
  have e3 : s3.heap = h3 := by rw [← hs3]
  have I3 : Inv X pins σ (upd H1 P (.tbl (ps ++ more))) s3 := by
    rw [← hs3]
    exact GxR.inv_tab (more := more) (h' := h3) (g' := s2.gens) (d' := s2.drawn) (t' := tk) I2 hP (fun b o n e => ex b o n e) tab3 I2.bare
  obtain ⟨W, ⟨m0, w0⟩, turn⟩ := hW _ ⟨⟨ps ++ more, upd_same, tr3⟩, fun b hb => upd_ne hb⟩
  have neP : ∀ b ∈ fp, b ≠ P := fun b hb z => by
    have := (f2 b hb).1
    rw [z, hP] at this
    cases this
  have f3 : ∀ b ∈ fp, FpOk X pins (upd H1 P (.tbl (ps ++ more))) b ∧ b < s3.heap.objs.size := fun b hb => by
    obtain ⟨o, e, _⟩ := T.obj _ _ st2 b hb
    refine ⟨⟨?_, (f2 b hb).2⟩, by rw [e3]; exact Nat.lt_of_lt_of_le (Heap.lt_size e) ge⟩
    rw [upd_ne (neP b hb)]
    exact (f2 b hb).1
  have st3 : tn 0 s3.heap := T.keep _ _ _ st2 fun b hb o e => by rw [e3]; exact ex b o (neP b hb) e
  generalize hH3 : upd H1 P (.tbl (ps ++ more)) = H3 at I3 w0 f3
  have nf : ∀ b ∈ fp, H3 b = none := fun b hb => (f3 b hb).1.1
  -- the generator's object
  generalize hgo : ({ cls := .type "generator", data := .fields #[.int s3.gens.size 0, .str "<genexpr>" (s3.toks + 1), .str (X.env.qual ++ "<genexpr>") (s3.toks + 1 + 1)] } : Obj) = go
  have sz' : h'.objs.size = s3.heap.objs.size + 1 := by rw [hs'.1, Heap.size_push]
  generalize hs5 : ({ s3 with gens := s3.gens.push (.fresh (.compStart (.GeneratorExp elt [⟨tg, iter, ifs, 0⟩] scope gpos) 0 (.ref it) .none (genEnv scope (cloFrom X.env.cells scope.names []) s3.heap.objs.size cv builtinsNs X.env))), toks := s3.toks + 1 + 1 + 1, heap := h'.push go } : Shared) = s5
  have h5 : s5.heap = h'.push go := by rw [← hs5]
  have kp : Kept s3 s5 := by
    refine ⟨by rw [← hs5], by rw [← hs5]; exact AllBare.push I3.bare rfl, fun b o e => ?_⟩
    rw [h5]
    exact Heap.get?_push_of_some _ (hs'.extBut b o (Nat.ne_of_lt (Heap.lt_size e)) (Heap.get?_push_of_some _ e))
  have hga : s5.heap.get? h'.objs.size = some go := by rw [h5, ← hgo]; exact Heap.get?_push_size _ rfl
  have isg : ∀ h : Heap, h.get? h'.objs.size = some go → h.IsGen h'.objs.size s3.gens.size := fun h e => ⟨go, _, _, e, by rw [← hgo], by rw [← hgo], by rw [← hgo]⟩
  have hgs : s5.gens[s3.gens.size]? = some (.fresh (.compStart (.GeneratorExp elt [⟨tg, iter, ifs, 0⟩] scope gpos) 0 (.ref it) .none (genEnv scope (cloFrom X.env.cells scope.names []) s3.heap.objs.size cv builtinsNs X.env))) := by
    rw [← hs5]
    exact Array.getElem?_push_size ..
  have hns : s5.heap.Ns s3.heap.objs.size (fun y => if y = ".0" then some (.ref it) else none) := by rw [h5]; exact hn'.push _
  have hfrX : X.A.frames = some X.stack := I3.ok.frames
  have rm : Room k (X.A.in1.in1.over (.compLoop (.GeneratorExp elt [⟨tg, iter, ifs, 0⟩] scope gpos) 0 (.ref it) .none (genEnv scope (cloFrom X.env.cells scope.names []) s3.heap.objs.size cv builtinsNs X.env)) []) := by
    have h1 := hr.dp
    have h2 := hr.un
    refine ⟨hr.hd, ?_, ?_⟩
    · show X.A.depth + 0 + 1 + 3 * k + 5 < _
      omega
    · show X.A.units + 1 + 1 + 0 + 3 + 16 * k + 200 < _
      omega
  have Ig := gen_start I3 ok S hN f3 rm.hd (over_gen (show X.A.in1.in1.frames = some X.stack from hfrX)) kp hns
  have aC : h'.objs.size ≠ s3.heap.objs.size := by omega
  have Ig2 : Inv (gcx X (X.A.in1.in1.over (.compLoop (.GeneratorExp elt [⟨tg, iter, ifs, 0⟩] scope gpos) 0 (.ref it) .none (genEnv scope (cloFrom X.env.cells scope.names []) s3.heap.objs.size cv builtinsNs X.env)) []) s3 H3 (genEnv scope (cloFrom X.env.cells scope.names []) s3.heap.objs.size cv builtinsNs X.env) fp) [(h'.objs.size, go)] (wipe σ (own.map (·.2))) H3 s5 := by
    refine Ig.pins_of fun p hp => ?_
    rw [List.mem_singleton.mp hp]
    refine ⟨hga, I3.hok.fresh (by omega), aC, fun z => ?_, fun v q => by rw [← hgo] at q; cases q⟩
    rcases List.mem_cons.mp (I3.stkSub _ z) with z | z
    · have z : h'.objs.size = X.env.locals := z
      have q : h'.objs.size < s3.heap.objs.size := by rw [z]; exact I3.lt
      omega
    · exact I3.nofs (by omega) z
  have hpz : ∀ p ∈ [(h'.objs.size, go)], p.1 ∉ fp := fun p hp z => by
    rw [List.mem_singleton.mp hp] at z
    have q : h'.objs.size < s3.heap.objs.size := (f3 _ z).2
    omega
  have back : ∀ (σ' : L2.St) (H' : Hp) (s1 s' : Shared), Inv (gcx X (X.A.in1.in1.over (.compLoop (.GeneratorExp elt [⟨tg, iter, ifs, 0⟩] scope gpos) 0 (.ref it) .none (genEnv scope (cloFrom X.env.cells scope.names []) s3.heap.objs.size cv builtinsNs X.env)) []) s3 H3 (genEnv scope (cloFrom X.env.cells scope.names []) s3.heap.objs.size cv builtinsNs X.env) fp) [(h'.objs.size, go)] σ' H' s1 → Kept s1 s' → Inv X pins σ H' s' := fun σ' H' s1 s' J1 k1 => by
    have J := Inv.keptS J1 k1
    exact I3.call' (ch := fp) J.os J.base J.hok J.bare fun b hb => ⟨(f3 b hb).1.2.2.2.1, (f3 b hb).1.2.1, (f3 b hb).1.2.2.2.2.1, (f3 b hb).1.2.2.2.2.2⟩
  refine ⟨_, s3.gens.size, rfl, isg _ hga, walk_loop (X := gcx X (X.A.in1.in1.over (.compLoop (.GeneratorExp elt [⟨tg, iter, ifs, 0⟩] scope gpos) 0 (.ref it) .none (genEnv scope (cloFrom X.env.cells scope.names []) s3.heap.objs.size cv builtinsNs X.env)) []) s3 H3 (genEnv scope (cloFrom X.env.cells scope.names []) s3.heap.objs.size cv builtinsNs X.env) fp) (pz := [(h'.objs.size, go)]) (σ0 := wipe σ (own.map (·.2))) (QT := fun H => Q (.bl d) H) (QF := fun H => Q (.bl (!d)) H) d (List.mem_singleton.mpr rfl) isg hr.hd hr.depth (fun H' s1 s' J1 q k1 => ⟨d, rfl, .bl d, H', back _ H' s1 s' J1 k1, rfl, q⟩) (fun σ' H' s1 s' J1 q k1 => ⟨!d, rfl, .bl (!d), H', back σ' H' s1 s' J1 k1, rfl, q⟩) (m0 + 1) s5 (isg _ hga) Ig2.nolimit ⟨_, hgs, rfl, ?_⟩⟩
  have k6 : Kept s5 (s5.setGen s3.gens.size .running) := ⟨rfl, allBare_setGen kp.bare rfl, fun _ _ e => e⟩
  have st5 : tn 0 (s5.setGen s3.gens.size .running).heap := T.keep _ _ _ st3 fun b hb o e => kp.keep b o e
  exact seg_start T st5 (seg_loop T hc rfl S.co hpz (hg _ _ _ _ _ _ rm) (ht _ _ _ _ _ _ rm) (he _ _ _ _ _ _ rm) turn m0 (m0 + 1) 0 _ _ H3 (Nat.lt_succ_self _) (Inv.keptS Ig2 k6) st5 nf w0)
theorem pe_allX {c P : Addr} {elt tg iter : Expr} {ifs : List Expr} {gpos p pos : Pos} {scope : Scope} {own : List (Str × Nat)} {wi : TI} {g : TG} {tt : TT} {te : TE} {k : Nat}
    (hr : Room (k + 1) X.A) (hgl : Gl X "all") (hm : X.mg "all" = none) (hc : X.calm = true) (hN : X.N.Nodup) (TB : GxR.TabB X.base X.mg c P) (hcode : X.env.code = .ref c) (ok : BlkOk X.N X.env.scope scope own) (S : GenK scope) (hi : PI X tg iter wi)
    (hg : ∀ (A : Around) (s : Shared) (H : Hp) (C : Addr) (code : Value) (fp : List Addr), Room k A → PG (gcx X A s H (genEnv scope (cloFrom X.env.cells scope.names []) C code builtinsNs X.env) fp) tg g)
    (ht : ∀ (A : Around) (s : Shared) (H : Hp) (C : Addr) (code : Value) (fp : List Addr), Room k A → PTs (gcx X A s H (genEnv scope (cloFrom X.env.cells scope.names []) C code builtinsNs X.env) fp) ifs tt)
    (he : ∀ (A : Around) (s : Shared) (H : Hp) (C : Addr) (code : Value) (fp : List Addr), Room k A → PE (gcx X A s H (genEnv scope (cloFrom X.env.cells scope.names []) C code builtinsNs X.env) fp) elt te)
    (hs : ∀ v, genFold iter X.env v = pure v := by intro _; rfl)
    (hst : starEach [.GeneratorExp elt [⟨tg, iter, ifs, 0⟩] scope gpos] X.env = (false, eval (.GeneratorExp elt [⟨tg, iter, ifs, 0⟩] scope gpos) X.env) :: starEach [] X.env := by rfl) :
    PE X (.Call (.Name "all" p) [.GeneratorExp elt [⟨tg, iter, ifs, 0⟩] scope gpos] [] pos) (tQX true wi g tt te (own.map (·.2)) P) := by
  refine ⟨fun pins s σ H Q I h => ?_⟩
  refine wpAny_Call_Name_kw (ld_blt I hgl hm boot_all (PyProof.Rows.callWith_builtin1 ?_ hst (by rfl)))
  rw [hst]
  show wpAny _ _ (spliced ((false, _) :: backTo pos (starEach [] X.env))) _ _ s
  refine Calls.spliced_cons (wpAny_mono (gen_core hr hc hN TB hcode ok S hi hs hg ht he I h) (fun v s5 hx => ?_) fun _ _ e => e)
  obtain ⟨a, gn, rfl, hgn, hcd⟩ := hx
  refine Calls.spliced_nil ?_
  refine call_function_tree F.kind_all F.plain_all F.entry_all (F.args_all1 _) ?_
  unfold Builtin.«all»
  refine wpAny_bind (m := oneArg "all" _) (wpAny_pure ?_)
  refine wpAny_bind (wpAny_pyIter_gen hgn ?_)
  exact wpAny_pure ⟨plainId_quiet F.plain_all_loop _, codeAny_mono hcd fun r s' hx => by obtain ⟨b, rfl, q⟩ := hx; exact q⟩
theorem pe_anyX {c P : Addr} {elt tg iter : Expr} {ifs : List Expr} {gpos p pos : Pos} {scope : Scope} {own : List (Str × Nat)} {wi : TI} {g : TG} {tt : TT} {te : TE} {k : Nat}
    (hr : Room (k + 1) X.A) (hgl : Gl X "any") (hm : X.mg "any" = none) (hc : X.calm = true) (hN : X.N.Nodup) (TB : GxR.TabB X.base X.mg c P) (hcode : X.env.code = .ref c) (ok : BlkOk X.N X.env.scope scope own) (S : GenK scope) (hi : PI X tg iter wi)
    (hg : ∀ (A : Around) (s : Shared) (H : Hp) (C : Addr) (code : Value) (fp : List Addr), Room k A → PG (gcx X A s H (genEnv scope (cloFrom X.env.cells scope.names []) C code builtinsNs X.env) fp) tg g)
    (ht : ∀ (A : Around) (s : Shared) (H : Hp) (C : Addr) (code : Value) (fp : List Addr), Room k A → PTs (gcx X A s H (genEnv scope (cloFrom X.env.cells scope.names []) C code builtinsNs X.env) fp) ifs tt)
    (he : ∀ (A : Around) (s : Shared) (H : Hp) (C : Addr) (code : Value) (fp : List Addr), Room k A → PE (gcx X A s H (genEnv scope (cloFrom X.env.cells scope.names []) C code builtinsNs X.env) fp) elt te)
    (hs : ∀ v, genFold iter X.env v = pure v := by intro _; rfl)
    (hst : starEach [.GeneratorExp elt [⟨tg, iter, ifs, 0⟩] scope gpos] X.env = (false, eval (.GeneratorExp elt [⟨tg, iter, ifs, 0⟩] scope gpos) X.env) :: starEach [] X.env := by rfl) :
    PE X (.Call (.Name "any" p) [.GeneratorExp elt [⟨tg, iter, ifs, 0⟩] scope gpos] [] pos) (tQX false wi g tt te (own.map (·.2)) P) := by
  refine ⟨fun pins s σ H Q I h => ?_⟩
  refine wpAny_Call_Name_kw (ld_blt I hgl hm boot_any (PyProof.Rows.callWith_builtin1 ?_ hst (by rfl)))
  rw [hst]
  show wpAny _ _ (spliced ((false, _) :: backTo pos (starEach [] X.env))) _ _ s
  refine Calls.spliced_cons (wpAny_mono (gen_core hr hc hN TB hcode ok S hi hs hg ht he I h) (fun v s5 hx => ?_) fun _ _ e => e)
  obtain ⟨a, gn, rfl, hgn, hcd⟩ := hx
  refine Calls.spliced_nil ?_
  refine call_function_tree F.kind_any F.plain_any F.entry_any (F.args_any1 _) ?_
  unfold Builtin.«any»
  refine wpAny_bind (m := oneArg "any" _) (wpAny_pure ?_)
  refine wpAny_bind (wpAny_pyIter_gen hgn ?_)
  exact wpAny_pure ⟨plainId_quiet F.plain_any_loop _, codeAny_mono hcd fun r s' hx => by obtain ⟨b, rfl, q⟩ := hx; exact q⟩
end
end Gx

set_option Elab.async false
set_option linter.all false
set_option maxRecDepth 100000
set_option maxHeartbeats 4000000
/-! the turns, by source -/
namespace Gx
open PySem PySem.Spec PyProof.Rows L2
theorem all_range {lo : Int} {n : Nat} {g : TG} {tt : TT} {te : TE} {vs : List Nat} {σ : L2.St} {d : Bool} {QT QF : Hp → Prop} {H2 : Hp} (Pv : Nat → Hp → Prop) (h0 : Pv 0 H2)
    (hs : ∀ i H, i < n → Pv i H → g (.int (lo + i)) (wipe σ vs) H fun σ2 H2 => wipe σ2 vs = wipe σ vs ∧ tt σ2 H2 fun b H3 => if b = true then te σ2 H3 fun y H4 => ∃ c, y = .bl c ∧ (if c = d then Pv (i + 1) H4 else QF H4) else Pv (i + 1) H3) (hd : ∀ H, Pv n H → QT H) :
    ∃ W : Nat → Nat → Hp → Prop, (∃ m, W 0 m H2) ∧ Turns (Itr lo n) g tt te vs σ d QT QF W := by
  refine ⟨fun i m H => m = n - i ∧ i ≤ n ∧ Pv i H, ⟨n, by simp, Nat.zero_le _, h0⟩, ?_⟩
  rintro i m H ⟨rfl, hi, p⟩
  by_cases hlt : i < n
  · refine .inr ⟨hlt, Pv (i + 1), fun H' p' => ⟨n - (i + 1), by omega, rfl, hlt, p'⟩, fun x H' y => ?_⟩
    obtain ⟨e, y⟩ := y
    subst e y
    exact hs i _ hlt p
  · have e : i = n := by omega
    subst e
    exact .inl ⟨Nat.le_refl _, hd H p⟩
theorem all_tup {K : PySem.W.Frag} {a : Addr} {xs : List V} {g : TG} {tt : TT} {te : TE} {vs : List Nat} {σ : L2.St} {d : Bool} {QT QF : Hp → Prop} {H2 : Hp} (Pv : Nat → Hp → Prop) (h0 : Pv 0 H2) (hl : ∀ i H, i ≤ xs.length → Pv i H → SqT K H a xs)
    (hs : ∀ i x H, xs[i]? = some x → Pv i H → g x (wipe σ vs) H fun σ2 H2 => wipe σ2 vs = wipe σ vs ∧ tt σ2 H2 fun b H3 => if b = true then te σ2 H3 fun y H4 => ∃ c, y = .bl c ∧ (if c = d then Pv (i + 1) H4 else QF H4) else Pv (i + 1) H3) (hd : ∀ H, Pv xs.length H → QT H) :
    ∃ W : Nat → Nat → Hp → Prop, (∃ m, W 0 m H2) ∧ Turns (Itt K a) g tt te vs σ d QT QF W := by
  refine ⟨fun i m H => m = xs.length - i ∧ i ≤ xs.length ∧ Pv i H, ⟨xs.length, by simp, Nat.zero_le _, h0⟩, ?_⟩
  rintro i m H ⟨rfl, hi, p⟩
  have q := hl i H hi p
  by_cases hlt : i < xs.length
  · refine .inr ⟨⟨xs, xs[i], q, by simp [hlt]⟩, Pv (i + 1), fun H' p' => ⟨xs.length - (i + 1), by omega, rfl, hlt, p'⟩, fun x H' y => ?_⟩
    obtain ⟨e, y⟩ := y
    subst e
    exact hs i x _ (y xs q) p
  · have e : i = xs.length := by omega
    subst e
    exact .inl ⟨⟨xs, q, Nat.le_refl _⟩, hd H p⟩
theorem all_list {K : PySem.W.Frag} {a : Addr} {xs : List V} {g : TG} {tt : TT} {te : TE} {vs : List Nat} {σ : L2.St} {d : Bool} {QT QF : Hp → Prop} {H2 : Hp} (Pv : Nat → Hp → Prop) (h0 : Pv 0 H2) (hl : ∀ i H, i ≤ xs.length → Pv i H → SqL K H a xs)
    (hs : ∀ i x H, xs[i]? = some x → Pv i H → g x (wipe σ vs) H fun σ2 H2 => wipe σ2 vs = wipe σ vs ∧ tt σ2 H2 fun b H3 => if b = true then te σ2 H3 fun y H4 => ∃ c, y = .bl c ∧ (if c = d then Pv (i + 1) H4 else QF H4) else Pv (i + 1) H3) (hd : ∀ H, Pv xs.length H → QT H) :
    ∃ W : Nat → Nat → Hp → Prop, (∃ m, W 0 m H2) ∧ Turns (Itl K a) g tt te vs σ d QT QF W := by
  refine ⟨fun i m H => m = xs.length - i ∧ i ≤ xs.length ∧ Pv i H, ⟨xs.length, by simp, Nat.zero_le _, h0⟩, ?_⟩
  rintro i m H ⟨rfl, hi, p⟩
  have q := hl i H hi p
  by_cases hlt : i < xs.length
  · refine .inr ⟨⟨xs, xs[i], q, by simp [hlt]⟩, Pv (i + 1), fun H' p' => ⟨xs.length - (i + 1), by omega, rfl, hlt, p'⟩, fun x H' y => ?_⟩
    obtain ⟨e, y⟩ := y
    subst e
    exact hs i x _ (y xs q) p
  · have e : i = xs.length := by omega
    subst e
    exact .inl ⟨⟨xs, q, by simp⟩, hd H p⟩
end Gx

set_option Elab.async false
set_option linter.all false
set_option maxRecDepth 100000
set_option maxHeartbeats 4000000
/-! tuple(..) of a generator expression: any source, any target, any element -/
namespace Gx
open PySem PySem.Spec PyProof.Rows L2 GenW
def TurnsC (J : It) (g : TG) (tt : TT) (te : TE) (vs : List Nat) (σ : L2.St) (Q : List V → Hp → Prop) (W : Nat → Nat → List V → Hp → Prop) : Prop := ∀ i m ys H, W i m ys H →
  (J.stop i H ∧ Q ys H) ∨ (J.go i H ∧ ys.length < sizeLine ∧ ∃ Nx : List V → Hp → Prop, (∀ ys' H', Nx ys' H' → ∃ m', m' < m ∧ W (i + 1) m' ys' H') ∧ ∀ x H', J.yld i H x H' → g x (wipe σ vs) H' fun σ2 H2 => wipe σ2 vs = wipe σ vs ∧ tt σ2 H2 fun b H3 =>
    if b = true then te σ2 H3 fun y H4 => Nx (ys ++ [y]) H4 else Nx ys H3)
section
variable {X : Cx} {A B : Around} {s3 : Shared} {H3 : Hp} {cenv : Env} {fp : List Addr} {σ : L2.St}
theorem seg_loopC {elt tg iter : Expr} {ifs : List Expr} {scope : Scope} {pos : Pos} {it a : Addr} {gn : Nat} {go : Obj} {J : It} {tn : Nat → Heap → Prop} {g : TG} {tt : TT} {te : TE} {vs : List Nat} {Q : List V → Hp → Prop} {W : Nat → Nat → List V → Hp → Prop} {S : Addr} {E : XK}
    (T : Turn X.prog X.w X.K tg J fp it tn) (hc : X.calm = true) (hov : B.over (.compLoop (.GeneratorExp elt [⟨tg, iter, ifs, 0⟩] scope pos) 0 (.ref it) .none cenv) [] = A) (hco : cenv.scope.isCoroutine = false) (haf : a ∉ fp) (hSf : S ∉ fp) (haS : a ≠ S) (hAp : Apart (gcx X A s3 H3 cenv fp) S)
    (hgo : ∀ h : Heap, h.get? a = some go → h.IsGen a gn)
    (pg : PG (gcx X A s3 H3 cenv fp) tg g) (pt : PTs (gcx X A s3 H3 cenv fp) ifs tt) (pe : PE (gcx X A s3 H3 cenv fp) elt te) (turn : TurnsC J g tt te vs σ Q W) :
    ∀ (m n i : Nat) (ys : List V) (s₀ s : Shared) (H : Hp), n + ys.length = sizeLine → GI (gcx X A s3 H3 cenv fp) S [(a, go)] ys (wipe σ vs) H s → tn i s.heap → (∀ b ∈ fp, H b = none) → W i m ys H →
      Seg (model X.prog X.w) B (REnd X.prog X.w X.stack H3 s3 fp S a gn Q E) (YItem s3 S a gn) n s₀
        (.compLoop (.GeneratorExp elt [⟨tg, iter, ifs, 0⟩] scope pos) 0 (.ref it) .none cenv)
        ((model X.prog X.w).den (.compLoop (.GeneratorExp elt [⟨tg, iter, ifs, 0⟩] scope pos) 0 (.ref it) .none cenv)) [] s := by
  have stat : ∀ {σ' : L2.St} {H' : Hp} {s' : Shared} {acc : Array Value} {c : Nat}, Inv (gcx X A s3 H3 cenv fp) ((S, lstObj acc c) :: [(a, go)]) σ' H' s' → (∀ b ∈ fp, H' b = none) → ∀ b ∈ fp, FpOk (gcx X A s3 H3 cenv fp) ((S, lstObj acc c) :: [(a, go)]) H' b := fun {σ' H' s' acc c} I' hn b hb =>
    ⟨hn b hb, (I'.ok.exf b hb).1, I'.ok.exfs b hb, .inl hb, fun x c e => (I'.ok.exf b hb).2 x c e, fun p hp z => by
      have hp : p ∈ (S, lstObj acc c) :: [(a, go)] := by simpa using hp
      rcases List.mem_cons.mp hp with q | q
      · rw [q] at z; exact hSf (by have z : S = b := z; rw [z]; exact hb)
      · rw [List.mem_singleton.mp q] at z; exact haf (by have z : a = b := z; rw [z]; exact hb)⟩
  intro m
  induction m using Nat.strongRecOn with
  | ind m ih =>
    intro n i ys s₀ s H hmn hG st nf w
    obtain ⟨acc, cc, rv, I⟩ := hG
    show Seg _ B _ _ _ s₀ _ ((compTurn (.GeneratorExp elt [⟨tg, iter, ifs, 0⟩] scope pos) 0 (.ref it) .none cenv).onRaise (leaving cenv)) [] s
    rw [compTurn_gen, Sem.onRaise_eq_wrap]
    refine seg_bind_wrap (wpAny_standAt ?_)
    rcases turn i m ys H w with ⟨stop, qq⟩ | ⟨go', hys, Nx, hNx, step⟩
    · refine seg_bind_wrap ?_
      rw [hov]
      refine wpAny_mono (T.done (gcx X A s3 H3 cenv fp) rfl rfl rfl hc i _ s _ H (fun _ _ => False) I (stat I nf) st stop) (fun r s6 hx => ?_) fun _ _ e => e.elim
      obtain ⟨rfl, I6⟩ := hx
      obtain ⟨z1, z2, z3, z4, _⟩ := I6.pin (S, lstObj acc cc) (List.mem_append_right _ List.mem_cons_self)
      exact seg_end (.ok .next) (.inl ⟨.inr rfl, H, ys, acc, cc, I6.os, I6.bare, I6.base, I6.hok, z2, z1, rv, by omega, qq⟩)
    · refine seg_bind_wrap ?_
      rw [hov]
      refine wpAny_mono (T.item (gcx X A s3 H3 cenv fp) rfl rfl rfl hc i _ s _ H (fun _ _ => False) I (stat I nf) st go') (fun r s6 hx => ?_) fun _ _ e => e.elim
      obtain ⟨u, rfl, h6⟩ := hx
      refine seg_bind_wrap ?_
      rw [hov]
      refine wpAny_mono h6 (fun _ s7 hx => ?_) fun _ _ e => e.elim
      obtain ⟨x, H7, I7, r7, y7, st7, n7⟩ := hx
      have I7' := I7.pinned (stat I7 n7) (T.obj _ _ st7)
      refine seg_bind_wrap ?_
      rw [hov]
      refine wpAny_mono (pg.run _ s7 _ H7 x u _ I7' r7 (step x H7 y7)) (fun _ s8 hx => ?_) fun _ _ e => e.elim
      obtain ⟨σ8, H8, I8, hw8, q8⟩ := hx
      refine seg_bind_wrap ?_
      rw [hov]
      refine wpAny_mono (pt.run _ s8 σ8 H8 _ I8 q8) (fun b s9 hx => ?_) fun _ _ e => e.elim
      obtain ⟨H9, I9, q9⟩ := hx
      have fin : ∀ {s' : Shared} {H' : Hp} {ys' : List V}, GI (gcx X A s3 H3 cenv fp) S ([(a, go)] ++ pinsAt fp s7.heap) ys' σ8 H' s' → GI (gcx X A s3 H3 cenv fp) S [(a, go)] ys' (wipe σ vs) H' s' ∧ tn (i + 1) s'.heap ∧ ∀ b ∈ fp, H' b = none := fun {s' H' ys'} hG' => by
        obtain ⟨acc', cc', rv', I'⟩ := hG'
        have I' : Inv (gcx X A s3 H3 cenv fp) (((S, lstObj acc' cc') :: [(a, go)]) ++ pinsAt fp s7.heap) σ8 H' s' := I'
        have pin' : ∀ b ∈ fp, ∀ o, s7.heap.get? b = some o → s'.heap.get? b = some o ∧ H' b = none := fun b hb o e =>
          let z := I'.pin (b, o) (List.mem_append_right _ (List.mem_append_right _ (mem_pinsAt hb e)))
          ⟨z.1, z.2.1⟩
        have hl : (wipe σ vs).length = σ8.length := by rw [← hw8, wipe_length]
        refine ⟨⟨acc', cc', rv', I'.unpinned.weak hl (fun j v e => ?_)⟩, T.keep _ _ _ st7 fun b hb o e => (pin' b hb o e).1, fun b hb => ?_⟩
        · rw [← hw8] at e
          exact (wipe_some e).1
        · obtain ⟨o, e, _⟩ := T.obj _ _ st7 b hb
          exact (pin' b hb o e).2
      cases b with
      | false =>
        simp only [Bool.false_eq_true, if_false] at q9 ⊢
        obtain ⟨m', hm, w'⟩ := hNx ys H9 q9
        obtain ⟨f1, f2, f3⟩ := fin (ys' := ys) ⟨acc, cc, rv, I9⟩
        exact seg_again rfl (ih m' hm n (i + 1) ys s₀ _ H9 hmn f1 f2 f3 w')
      | true =>
        simp only [if_true] at q9 ⊢
        have hy : ∀ v, yieldOut cenv v = yieldValue v := fun v => by simp only [yieldOut, hco, Bool.false_eq_true, if_false]
        simp only [hy]
        rw [Sem.bind_eq_wrap', Sem.bind_eq_wrap', Sem.wrap_wrap, Sem.wrap_wrap]
        refine seg_wrap ?_
        rw [hov]
        refine wpAny_mono (pe.run _ s9 σ8 H9 _ I9 q9) (fun z s10 hx => ?_) fun _ _ e => e.elim
        obtain ⟨yv, H10, I10, r10, nx⟩ := hx
        obtain ⟨n, rfl⟩ : ∃ n', n = n' + 1 := ⟨n - 1, by omega⟩
        have hasz : acc.size = ys.length := by
          have e1 := rv.length
          have e2 : acc.toList.length = acc.size := by simp
          omega
        have pS := I10.pin (S, lstObj acc cc) (List.mem_append_right _ List.mem_cons_self)
        have pA := I10.pin (a, go) (List.mem_append_right _ (List.mem_append_left _ (List.mem_cons_of_mem _ (List.mem_singleton.mpr rfl))))
        refine seg_at (seg_yield rfl rfl rfl ⟨I10.os, I10.bare, I10.nolimit, hgo _ pA.1, ⟨acc, cc, pS.1, by rw [hasz]; omega⟩, fun s'' hk => ?_⟩)
        obtain ⟨m', hm, w'⟩ := hNx (ys ++ [yv]) H10 nx
        have hG10 : GI (gcx X A s3 H3 cenv fp) S ([(a, go)] ++ pinsAt fp s7.heap) ys σ8 H10 s10 := ⟨acc, cc, rv, I10⟩
        have wk := hG10.woken (x := yv) (fun p hp => by simp at hp) (fun p hp z => by
          rcases List.mem_append.mp hp with q | q
          · rw [List.mem_singleton.mp q] at z; exact haS z
          · obtain ⟨hb, _⟩ := of_pinsAt q
            exact hSf (by rw [← z]; exact hb)) hAp r10 hk
        obtain ⟨f1, f2, f3⟩ := fin wk
        exact seg_again rfl (ih m' hm n (i + 1) (ys ++ [yv]) s'' s'' H10 (by rw [List.length_append, List.length_singleton]; omega) f1 f2 f3 w')
end
/-- tuple(g), g a generator that has not begun -/
theorem call_tuple_new {P : Program} {w : World} {outer : List Env} {H : Hp} {sc s : Shared} {ex : List Addr} {Q : List V → Hp → Prop} {A : Around} {k : Nat} {u : Value} {Q' : Value → Shared → Prop} {E : Value → Shared → Prop}
    (hr : Room (k + 1) A) (hfr : A.frames = some outer) (h : GMade P w k outer H sc ex Q (fun _ _ _ => False) u s)
    (hQ : ∀ (s' : Shared) (acc : Array Value) (H' : Hp) (ys : List V), Vals ys acc.toList → ys.length ≤ sizeLine → s'.os = sc.os → AllBare s'.gens → Un (frs outer) ex H H' sc.heap s'.heap → HOk P w H' s'.heap → Q ys H' → Q' (.ref s'.heap.objs.size) { s' with heap := s'.heap.push { cls := .type "tuple", data := .seq acc } }) :
    wpAny (model P w) A (call (.type "tuple") [u]) Q' E s := by
  obtain ⟨a, g, c, rfl, ha1, ha2, hg, hgs, hos, hb, hl, hkp, wake⟩ := h
  have hSa : s.heap.objs.size ≠ a := Nat.ne_of_gt ha2
  have hcl : cStatics < s.heap.objs.size := let ⟨_, hn, _⟩ := hl; hn.lt
  have hSc : s.heap.objs.size ≠ cStatics := Nat.ne_of_gt hcl
  refine callType_codes (Q₁ := fun obj s₁ => s₁.TypeIs obj "tuple" ∧ Q' obj s₁) F.called_tuple (F.typeCall_tuple_1 _) F.entry_object_init ?_ fun obj s₁ h₁ =>
    ⟨h₁.1, F.args_object_init_2 obj _, object_init_meets F.called_tuple.init.lookup F.called_tuple.made (by decide) P w A.in1 _ s₁ ⟨h₁.1, rfl, h₁.2⟩⟩
  refine codeAny_of_tree ?_
  show wpAny _ A.in1.in1 (do checkBuiltinCall "tuple.__new__" ⟨[.type "tuple", .ref a], []⟩; again (.builtin "tuple.__new__" ⟨[.type "tuple", .ref a], []⟩)) _ _ s
  refine wpAny_bind (wpAny_of_eq (F.newCall_tuple_1 _) (wpAny_pure ⟨plainId_quiet F.plain_tuple_new _, codeAny_builtin F.entry_tuple_new ?_⟩))
  rw [Around.under_plainId F.plain_tuple_new _]
  have hsub := sub_tuple_self
  have hinit := init_tuple_lookup
  have hmh := madeHere_tuple
  have hTI := hg.typeIs (s := s)
  have coll : ∀ {A2 : Around} {QC : List Value → Shared → Prop} {EC : Value → Shared → Prop}, A2.handled = none → A2.depth = A.depth → A2.units ≤ A.units + 8 → A2.frames = some outer →
      (∀ (s' : Shared) (acc : Array Value) (H' : Hp) (ys : List V), Vals ys acc.toList → ys.length ≤ sizeLine → s'.os = sc.os → AllBare s'.gens → Un (frs outer) ex H H' sc.heap s'.heap → HOk P w H' s'.heap → Q ys H' → QC acc.toList s') → wpAny (model P w) A2 (collect (.ref a)) QC EC s := fun {A2 QC EC} h1 h2 h3 h4 hq => by
    unfold collect
    refine wpAny_bind (wpAny_runValue (codeAny_builtin F.entry_proto_collect ?_))
    rw [Around.under_plainId F.plain_proto_collect _]
    show wpAny _ A2.in1 (newList [] >>= fun l => again (.builtin "list.__iadd__" ⟨[l, .ref a], []⟩)) _ _ s
    refine wpAny_bind (wpAny_newObj_type ?_)
    refine wpAny_pure ⟨plainId_quiet F.plain_list_iadd _, codeAny_builtin F.entry_list_iadd ?_⟩
    rw [Around.under_plainId F.plain_list_iadd _]
    show wpAny _ A2.in1 (Builtin.List.listExtendWith (.ref s.heap.objs.size) (.ref a) (.ref s.heap.objs.size)) _ _ _
    unfold Builtin.List.listExtendWith
    have up : ∀ (h : Heap) (f : Obj → Obj), (∀ b o, s.heap.get? b = some o → h.get? b = some o) → ∀ b o, s.heap.get? b = some o → (h.update s.heap.objs.size f).get? b = some o := fun h f q b o e =>
      (Heap.get?_update_other _ _ (Ne.symm (Nat.ne_of_lt (Heap.lt_size e)))).trans (q b o e)
    have k1 : ∀ b o, s.heap.get? b = some o → (s.heap.push { cls := .type "list", data := .seq ([] : List Value).toArray }).get? b = some o := fun b o e => Heap.get?_push_of_some _ e
    have gty : ∀ {h : Heap}, (∀ b o, s.heap.get? b = some o → h.get? b = some o) → h.IsGen a g := fun {h} q => hg.keeps q
    refine wpAny_bind (wpAny_typeOf (Heap.IsGen.typeIs (s := { s with heap := _ }) (gty k1)) ?_)
    have e1 : Builtin.List.listSameRef (.ref s.heap.objs.size) (.ref a) = false := by simp [Builtin.List.listSameRef, hSa]
    have e2 : (Value.type "generator" == Value.type "list") = false := by decide
    have e3 : (Value.type "generator" == Value.type "tuple") = false := by decide
    simp only [e1, e2, e3, Bool.or_false, Bool.false_eq_true, if_false]
    refine wpAny_bind (wpAny_pyIter_gen (s := { s with heap := _ }) (gty k1) ?_)
    refine wpAny_bind (wpAny_holding ?_)
    unfold Builtin.List.listLengthHint
    refine wpAny_bind (wpAny_specialOf (Heap.IsGen.typeIs (s := { s with heap := _ }) (gty k1)) F.gen_no_len ?_)
    show wpAny _ A2.in1 (specialOf (Value.ref a) (Str.ofString "__length_hint__") >>= _) _ _ _
    refine wpAny_bind (wpAny_specialOf (Heap.IsGen.typeIs (s := { s with heap := _ }) (gty k1)) F.gen_no_hint ?_)
    refine wpAny_pure ?_
    show wpAny _ A2.in1 (rule "list.extend.makes-room" >>= fun _ => Builtin.List.listTouch (.ref s.heap.objs.size) >>= fun _ =>
      again (.builtin "list.extend.loop" ⟨[.ref s.heap.objs.size, .ref a, .ref s.heap.objs.size], []⟩)) _ _ _
    refine wpAny_bind (wpAny_rule ?_)
    have hS₁ : (s.heap.push { cls := .type "list", data := .seq ([] : List Value).toArray }).get? s.heap.objs.size = some { cls := .type "list", data := .seq ([] : List Value).toArray } := Heap.get?_push_size _ rfl
    refine wpAny_bind ?_
    show wpAny _ A2.in1 (updateSeq s.heap.objs.size (·.push .none) >>= fun _ => updateSeq s.heap.objs.size (·.pop)) _ _ _
    refine wpAny_bind (wpAny_updateSeq hS₁ rfl ?_)
    have hS₂ := Heap.get?_update_self (Obj.mapSeq (·.push Value.none)) hS₁ rfl
    refine wpAny_updateSeq hS₂ rfl ?_
    have hS₃ := Heap.get?_update_self (Obj.mapSeq (·.pop)) hS₂ rfl
    have k4 := up _ (Obj.mapSeq (·.pop)) (up _ (Obj.mapSeq (·.push Value.none)) k1)
    refine wpAny_pure ⟨plainId_quiet F.plain_extend_loop _, ?_⟩
    refine drain (P := P) (w := w) (outer := outer) (H := H) (sc := sc) (ex := ex) (Q := Q) (EX := fun _ _ _ => False) (A := A2) (g := g) h1 (by have := hr.dp; omega) hSa hSc
      (fun s' acc c H' ys q1 q2 q3 q4 q5 q6 q7 q8 q9 => ?_) (fun e s' hc => by obtain ⟨_, _, _, _, _, _, _, _, _, _, _, _, hf⟩ := hc; exact hf.elim)
      sizeLine _ (gty k4) (hl.keeps k4) ⟨_, hgs, rfl, ?_⟩
    · show wpAny _ A2 (load s.heap.objs.size >>= _) _ _ s'
      refine wpAny_bind (wpAny_load q1 ?_)
      exact wpAny_pure (hq s' acc H' ys q2 q3 q4 q5 q6 q7 q9)
    · refine wake _ _ _ ⟨h1, ?_, ?_⟩ h4 (Nat.le_refl _) k4 ⟨_, hS₃⟩ hos (allBare_setGen (s := { s with heap := _ }) hb rfl)
      · have := hr.dp
        show A2.depth + 3 * k + 5 < _
        omega
      · have := hr.un
        show A2.units + 1 + 1 + 16 * k + 200 < _
        omega
  wp_walk using wpAny_typeOf hTI, coll (A2 := A.in1.in1) hr.hd rfl (by show A.units + 1 + 1 ≤ A.units + 8; omega) hfr
  intro s' acc H' ys q1 q2 q3 q4 q5 q6 q7
  show wpAny _ _ (Builtin.Tuple.tupleExact acc.toList.toArray >>= fun v => ret v) _ _ _
  unfold Builtin.Tuple.tupleExact
  have hz : acc.size ≤ sizeLine := by
    have e1 := q1.length
    have e2 : acc.toList.length = acc.size := by simp
    omega
  refine wpAny_bind (wpAny_newObj_type ?_ (by show acc.toList.toArray.size ≤ sizeLine; simp only [Array.toArray_toList]; exact hz))
  refine wpAny_pure ?_
  have e : acc.toList.toArray = acc := by simp
  rw [e]
  exact ⟨⟨_, Heap.get?_push_size _ rfl, rfl⟩, hQ s' acc H' ys q1 q2 q3 q4 q5 q6 q7⟩
end Gx

set_option Elab.async false
set_option linter.all false
set_option maxRecDepth 100000
set_option maxHeartbeats 4000000
namespace Gx
open PySem PySem.Spec PyProof.Rows L2 GenW
def tCX (wi : TI) (g : TG) (tt : TT) (te : TE) (vs : List Nat) (P : Addr) : TE := fun σ H Q => wi σ H fun J H1 => GxR.TabG H1 P ∧ ∀ H2, GxR.Tabbed P H1 H2 → ∃ W : Nat → Nat → List V → Hp → Prop, (∃ m, W 0 m [] H2) ∧
  TurnsC J g tt te vs σ (fun ys H => ∀ p, H p = none → Q (.ref p) (upd H p (.tup ys))) W
section
variable {X : Cx} {pins : List (Addr × Obj)} {σ : L2.St} {H : Hp} {s : Shared}
theorem gen_made {c P : Addr} {elt tg iter : Expr} {ifs : List Expr} {gpos : Pos} {scope : Scope} {own : List (Str × Nat)} {wi : TI} {g : TG} {tt : TT} {te : TE} {k : Nat} {QQ : List V → Hp → Prop}
    (hr : Room (k + 1) X.A) (hc : X.calm = true) (hN : X.N.Nodup) (TB : GxR.TabB X.base X.mg c P) (hcode : X.env.code = .ref c) (ok : BlkOk X.N X.env.scope scope own) (S : GenK scope) (hi : PI X tg iter wi) (hs : ∀ v, genFold iter X.env v = pure v)
    (hg : ∀ (A : Around) (s : Shared) (H : Hp) (C : Addr) (code : Value) (fp : List Addr), Room k A → PG (gcx X A s H (genEnv scope (cloFrom X.env.cells scope.names []) C code builtinsNs X.env) fp) tg g)
    (ht : ∀ (A : Around) (s : Shared) (H : Hp) (C : Addr) (code : Value) (fp : List Addr), Room k A → PTs (gcx X A s H (genEnv scope (cloFrom X.env.cells scope.names []) C code builtinsNs X.env) fp) ifs tt)
    (he : ∀ (A : Around) (s : Shared) (H : Hp) (C : Addr) (code : Value) (fp : List Addr), Room k A → PE (gcx X A s H (genEnv scope (cloFrom X.env.cells scope.names []) C code builtinsNs X.env) fp) elt te)
    (I : Inv X pins σ H s) (h : wi σ H fun J H1 => GxR.TabG H1 P ∧ ∀ H2, GxR.Tabbed P H1 H2 → ∃ W : Nat → Nat → List V → Hp → Prop, (∃ m, W 0 m [] H2) ∧ TurnsC J g tt te (own.map (·.2)) σ QQ W) :
    wpAny (model X.prog X.w) X.A (eval (.GeneratorExp elt [⟨tg, iter, ifs, 0⟩] scope gpos) X.env) (fun v s5 => ∃ (s3 : Shared) (H3 : Hp) (fp : List Addr), GMade X.prog X.w (k + 1) X.stack H3 s3 fp QQ (fun _ _ _ => False) v s5 ∧
      ∀ (H' : Hp) (s' : Shared), s'.os = s3.os → AllBare s'.gens → Un (frs X.stack) fp H3 H' s3.heap s'.heap → HOk X.prog X.w H' s'.heap → Inv X pins σ H' s') X.xe s := by
  have hfree : ∀ y ∈ scope.names, y.2 = .free → ∃ c, X.env.cells.lookup y.1 = some c := fun y hy e => by
    rcases ok.free y hy e with k | k
    · exact I.ok.has _ (.inl k)
    · exact I.ok.has _ (.inr k)
  refine wpAny_GeneratorExp_make S.co (closure_ok hfree) S.cell S.dot ok.kind hr.depth (wpAny_mono (hi.run pins s σ H _ I h) (fun xv s1 h1 => wpAny_mono h1 (fun itv s2 h2 => ?_) fun _ _ e => e) fun _ _ e => e) hs
  obtain ⟨it, fp, tn, J, H1, rfl, I2, T, st2, f2, ⟨ps, hP, htr⟩, hW⟩ := h2
  refine ⟨I2.nolimit, ?_⟩
  have tabS : s2.heap.get? P = some { cls := .none, data := .fields ps } := I2.hok P _ hP
  have hd : PySem.W.CodeHd s2.heap c P := TB.code.keeps fun b u e => I2.bk b u e
  have key : ∀ (REST : Value → Shared → Prop), (∀ (cv : Value) (h3 : Heap) (tk : Nat) (more : Array Value), Heap.ExtBut P s2.heap h3 → s2.heap.objs.size ≤ h3.objs.size → h3.get? P = some { cls := .none, data := .fields (ps ++ more) } → TriplesOk (ps ++ more).toList → REST cv { s2 with heap := h3, toks := tk }) →
      wpAny (model X.prog X.w) X.A (genexprCode X.env gpos (X.env.qual ++ "<genexpr>") scope) REST X.xe s2 := fun REST fin => by
    cases hf : codeAmong gpos ps.toList with
    | some cv =>
      have e : ps = ps ++ #[] := by simp
      exact wpAny_genexprCode_hit hcode (hd.code tabS htr) hf (fin cv _ s2.toks #[] (Heap.ExtBut.refl _ _) (Nat.le_refl _) (e ▸ tabS) (e ▸ htr))
    | none =>
      refine wpAny_genexprCodeX hcode (hd.code tabS htr) (hd.tab tabS) hf fun c' h3 tk ex ge lt ic _ ta _ => ?_
      obtain ⟨_, _, _, _, _, _, _, _, _, _, _, _, _, _, _, _, _, _, _, tr, _⟩ := ic
      exact fin _ h3 tk _ ex (Nat.le_trans ge (Nat.le_of_lt lt)) ta.2 tr
  refine key _ fun cv h3 tk more ex ge tab3 tr3 => ?_
  obtain ⟨bm, ob, b1, b2, b3, b4, b5, b6, b7, b8⟩ := TB.bm
  refine wpAny_builtinsFor (m := X.mg) (by rw [I2.ok.glob]; exact (I2.mod.glob.keeps I2.bk).extBut ex TB.gP) b1 b2 (ex _ _ b4 (I2.bk _ _ b5)) b6 b7 b8 ?_
  intro h' hn' hs'
  generalize hs3 : ({ s2 with heap := h3, toks := tk } : Shared) = s3 at hn' hs' ⊢
  have e3 : s3.heap = h3 := by rw [← hs3]
  have I3 : Inv X pins σ (upd H1 P (.tbl (ps ++ more))) s3 := by
    rw [← hs3]
    exact GxR.inv_tab (more := more) (h' := h3) (g' := s2.gens) (d' := s2.drawn) (t' := tk) I2 hP (fun b o n e => ex b o n e) tab3 I2.bare
  obtain ⟨W, ⟨m0, w0⟩, turn⟩ := hW _ ⟨⟨ps ++ more, upd_same, tr3⟩, fun b hb => upd_ne hb⟩
  have neP : ∀ b ∈ fp, b ≠ P := fun b hb z => by
    have := (f2 b hb).1
    rw [z, hP] at this
    cases this
  have f3 : ∀ b ∈ fp, FpOk X pins (upd H1 P (.tbl (ps ++ more))) b ∧ b < s3.heap.objs.size := fun b hb => by
    obtain ⟨o, e, _⟩ := T.obj _ _ st2 b hb
    refine ⟨⟨?_, (f2 b hb).2⟩, by rw [e3]; exact Nat.lt_of_lt_of_le (Heap.lt_size e) ge⟩
    rw [upd_ne (neP b hb)]
    exact (f2 b hb).1
  have st3 : tn 0 s3.heap := T.keep _ _ _ st2 fun b hb o e => by rw [e3]; exact ex b o (neP b hb) e
  generalize hH3 : upd H1 P (.tbl (ps ++ more)) = H3 at I3 w0 f3
  have nf : ∀ b ∈ fp, H3 b = none := fun b hb => (f3 b hb).1.1
  generalize hgo : ({ cls := .type "generator", data := .fields #[.int s3.gens.size 0, .str "<genexpr>" (s3.toks + 1), .str (X.env.qual ++ "<genexpr>") (s3.toks + 1 + 1)] } : Obj) = go
  have sz' : h'.objs.size = s3.heap.objs.size + 1 := by rw [hs'.1, Heap.size_push]
  generalize hs5 : ({ s3 with gens := s3.gens.push (.fresh (.compStart (.GeneratorExp elt [⟨tg, iter, ifs, 0⟩] scope gpos) 0 (.ref it) .none (genEnv scope (cloFrom X.env.cells scope.names []) s3.heap.objs.size cv builtinsNs X.env))), toks := s3.toks + 1 + 1 + 1, heap := h'.push go } : Shared) = s5
  have h5 : s5.heap = h'.push go := by rw [← hs5]
  have sz5 : s5.heap.objs.size = h'.objs.size + 1 := by rw [h5, Heap.size_push]
  have kp : Kept s3 s5 := by
    refine ⟨by rw [← hs5], by rw [← hs5]; exact AllBare.push I3.bare rfl, fun b o e => ?_⟩
    rw [h5]
    exact Heap.get?_push_of_some _ (hs'.extBut b o (Nat.ne_of_lt (Heap.lt_size e)) (Heap.get?_push_of_some _ e))
  have hga : s5.heap.get? h'.objs.size = some go := by rw [h5, ← hgo]; exact Heap.get?_push_size _ rfl
  have isg : ∀ h : Heap, h.get? h'.objs.size = some go → h.IsGen h'.objs.size s3.gens.size := fun h e => ⟨go, _, _, e, by rw [← hgo], by rw [← hgo], by rw [← hgo]⟩
  have hgs : s5.gens[s3.gens.size]? = some (.fresh (.compStart (.GeneratorExp elt [⟨tg, iter, ifs, 0⟩] scope gpos) 0 (.ref it) .none (genEnv scope (cloFrom X.env.cells scope.names []) s3.heap.objs.size cv builtinsNs X.env))) := by
    rw [← hs5]
    exact Array.getElem?_push_size ..
  have hns : s5.heap.Ns s3.heap.objs.size (fun y => if y = ".0" then some (.ref it) else none) := by rw [h5]; exact hn'.push _
  have nstk : ∀ b, s3.heap.objs.size ≤ b → b ∉ frs X.stack := fun b hb z => by
    rcases List.mem_cons.mp (I3.stkSub _ z) with z | z
    · exact absurd (Nat.lt_of_lt_of_le I3.lt (show s3.heap.objs.size ≤ X.env.locals by rw [← z]; exact hb)) (Nat.lt_irrefl _)
    · exact I3.nofs hb z
  have lt35 : s3.heap.objs.size < s5.heap.objs.size := by omega
  refine ⟨s3, H3, fp, ⟨h'.objs.size, s3.gens.size, _, rfl, (show s3.heap.objs.size ≤ h'.objs.size by omega), (show h'.objs.size < s5.heap.objs.size by omega), isg _ hga, hgs, kp.os, kp.bare, I3.nolimit.keeps kp.keep, kp.keep, fun A' Sx s6 hrA hfrA hSx hk6 hSo hos hba => ?_⟩, fun H' s' ho hb hu hok => I3.call' (ch := fp) ho hu hok hb fun b hb => ⟨(f3 b hb).1.2.2.2.1, (f3 b hb).1.2.1, (f3 b hb).1.2.2.2.2.1, (f3 b hb).1.2.2.2.2.2⟩⟩
  have k6 : Kept s3 s6 := ⟨hos, hba, fun b o e => hk6 b o (kp.keep b o e)⟩
  have rm : Room k (A'.over (.compLoop (.GeneratorExp elt [⟨tg, iter, ifs, 0⟩] scope gpos) 0 (.ref it) .none (genEnv scope (cloFrom X.env.cells scope.names []) s3.heap.objs.size cv builtinsNs X.env)) []) := by
    have h1 := hrA.dp
    have h2 := hrA.un
    refine ⟨hrA.hd, ?_, ?_⟩
    · show A'.depth + 0 + 1 + 3 * k + 5 < _
      omega
    · show A'.units + 0 + 3 + 16 * k + 200 < _
      omega
  have Ig := gen_start I3 ok S hN f3 rm.hd (over_gen hfrA) k6 (hns.keeps hk6)
  obtain ⟨cS, heS⟩ := hSo
  have Sx3 : s3.heap.objs.size ≤ Sx := Nat.le_trans (Nat.le_of_lt lt35) hSx
  have SxC : Sx ≠ s3.heap.objs.size := Nat.ne_of_gt (Nat.lt_of_lt_of_le lt35 hSx)
  have aS : h'.objs.size ≠ Sx := Nat.ne_of_lt (Nat.lt_of_lt_of_le (by omega) hSx)
  have hG : GI (gcx X (A'.over (.compLoop (.GeneratorExp elt [⟨tg, iter, ifs, 0⟩] scope gpos) 0 (.ref it) .none (genEnv scope (cloFrom X.env.cells scope.names []) s3.heap.objs.size cv builtinsNs X.env)) []) s3 H3 (genEnv scope (cloFrom X.env.cells scope.names []) s3.heap.objs.size cv builtinsNs X.env) fp) Sx [(h'.objs.size, go)] [] (wipe σ (own.map (·.2))) H3 s6 := by
    refine ⟨#[], cS, .nil, Ig.pins_of fun p hp => ?_⟩
    rcases List.mem_cons.mp hp with z | z
    · rw [z]
      exact ⟨heS, I3.hok.fresh Sx3, SxC, nstk _ Sx3, fun v q => by cases q⟩
    · rw [List.mem_singleton.mp z]
      exact ⟨hk6 _ _ hga, I3.hok.fresh (by omega), by show h'.objs.size ≠ s3.heap.objs.size; omega, nstk _ (by omega), fun v q => by rw [← hgo] at q; cases q⟩
  have st6 : tn 0 s6.heap := T.keep _ _ _ st3 fun b hb o e => k6.keep b o e
  have hAp : Apart (gcx X (A'.over (.compLoop (.GeneratorExp elt [⟨tg, iter, ifs, 0⟩] scope gpos) 0 (.ref it) .none (genEnv scope (cloFrom X.env.cells scope.names []) s3.heap.objs.size cv builtinsNs X.env)) []) s3 H3 (genEnv scope (cloFrom X.env.cells scope.names []) s3.heap.objs.size cv builtinsNs X.env) fp) Sx := by
    refine ⟨Sx3, SxC, fun x c e z => ?_⟩
    obtain ⟨v, q⟩ := Ig.cell x c e
    have hcl : X.env.cells.lookup x = some c := by
      have e : (cloFrom X.env.cells scope.names []).lookup x = some c := e
      rcases cloFrom_mem (PySem.mem_of_lookup e) with hm | ⟨h1, rfl⟩
      · cases hm
      · obtain ⟨c, hc⟩ := hfree _ h1 rfl
        rw [hc]
        rfl
    obtain ⟨v3, q3⟩ := I3.cell x c hcl
    exact absurd (Nat.lt_of_lt_of_le q3.lt (by rw [z]; exact Sx3)) (Nat.lt_irrefl _)
  refine seg_start T st6 (seg_loopC T hc rfl S.co (fun z => ?_) (fun z => ?_) aS hAp isg (hg _ _ _ _ _ _ rm) (ht _ _ _ _ _ _ rm) (he _ _ _ _ _ _ rm) turn m0 sizeLine 0 [] _ _ H3 (Nat.add_zero _) hG st6 nf w0)
  · have q : h'.objs.size < s3.heap.objs.size := (f3 _ z).2
    omega
  · exact absurd (Nat.lt_of_lt_of_le (f3 _ z).2 Sx3) (Nat.lt_irrefl _)
theorem pe_tupX {c P : Addr} {elt tg iter : Expr} {ifs : List Expr} {gpos p pos : Pos} {scope : Scope} {own : List (Str × Nat)} {wi : TI} {g : TG} {tt : TT} {te : TE} {k : Nat}
    (hr : Room (k + 2) X.A) (hgl : Gl X "tuple") (hm : X.mg "tuple" = none) (hc : X.calm = true) (hN : X.N.Nodup) (TB : GxR.TabB X.base X.mg c P) (hcode : X.env.code = .ref c) (ok : BlkOk X.N X.env.scope scope own) (S : GenK scope) (hi : PI X tg iter wi)
    (hg : ∀ (A : Around) (s : Shared) (H : Hp) (C : Addr) (code : Value) (fp : List Addr), Room k A → PG (gcx X A s H (genEnv scope (cloFrom X.env.cells scope.names []) C code builtinsNs X.env) fp) tg g)
    (ht : ∀ (A : Around) (s : Shared) (H : Hp) (C : Addr) (code : Value) (fp : List Addr), Room k A → PTs (gcx X A s H (genEnv scope (cloFrom X.env.cells scope.names []) C code builtinsNs X.env) fp) ifs tt)
    (he : ∀ (A : Around) (s : Shared) (H : Hp) (C : Addr) (code : Value) (fp : List Addr), Room k A → PE (gcx X A s H (genEnv scope (cloFrom X.env.cells scope.names []) C code builtinsNs X.env) fp) elt te)
    (hs : ∀ v, genFold iter X.env v = pure v := by intro _; rfl)
    (hst : starEach [.GeneratorExp elt [⟨tg, iter, ifs, 0⟩] scope gpos] X.env = (false, eval (.GeneratorExp elt [⟨tg, iter, ifs, 0⟩] scope gpos) X.env) :: starEach [] X.env := by rfl) :
    PE X (.Call (.Name "tuple" p) [.GeneratorExp elt [⟨tg, iter, ifs, 0⟩] scope gpos] [] pos) (tCX wi g tt te (own.map (·.2)) P) := by
  refine ⟨fun pins s σ H Q I h => ?_⟩
  refine wpAny_Call_Name_kw (ld_blt I hgl hm boot_tuple (PyProof.Rows.callWith_type1 ?_ hst (by rfl)))
  rw [hst]
  show wpAny _ _ (spliced ((false, _) :: backTo pos (starEach [] X.env))) _ _ s
  refine Calls.spliced_cons (wpAny_mono (gen_made (k := k) (hr.mono (by omega)) hc hN TB hcode ok S hi hs hg ht he I h) (fun v s5 hx => ?_) fun _ _ e => e)
  obtain ⟨s3, H3, fp, hG, back⟩ := hx
  refine Calls.spliced_nil (call_tuple_new hr I.ok.frames hG fun s' acc H' ys q1 q2 q3 q4 q5 q6 q7 => ?_)
  have J := back H' s' q3 q4 q5 q6
  refine ⟨.ref s'.heap.objs.size, _, J.laid (t' := s'.toks) (o := .tup ys) (fun b u e => Heap.get?_push_of_some _ e) (Nat.le_refl _) ⟨q2, acc.toList, q1, ?_⟩, rfl, q7 _ (J.hok.fresh (Nat.le_refl _))⟩
  have z := IsTup.new s'.heap acc
  simpa using z
end
/-! ### turns, by source -/
theorem tup_tup {K : PySem.W.Frag} {a : Addr} {xs : List V} {g : TG} {tt : TT} {te : TE} {vs : List Nat} {σ : L2.St} {Q : List V → Hp → Prop} {H2 : Hp} (hz : xs.length ≤ sizeLine) (Pv : Nat → List V → Hp → Prop) (h0 : Pv 0 [] H2) (hl : ∀ i ys H, i ≤ xs.length → Pv i ys H → SqT K H a xs) (hy : ∀ i ys H, Pv i ys H → ys.length ≤ i)
    (hs : ∀ i x ys H, xs[i]? = some x → Pv i ys H → g x (wipe σ vs) H fun σ2 H2 => wipe σ2 vs = wipe σ vs ∧ tt σ2 H2 fun b H3 => if b = true then te σ2 H3 fun y H4 => Pv (i + 1) (ys ++ [y]) H4 else Pv (i + 1) ys H3) (hd : ∀ ys H, Pv xs.length ys H → Q ys H) :
    ∃ W : Nat → Nat → List V → Hp → Prop, (∃ m, W 0 m [] H2) ∧ TurnsC (Itt K a) g tt te vs σ Q W := by
  refine ⟨fun i m ys H => m = xs.length - i ∧ i ≤ xs.length ∧ Pv i ys H, ⟨xs.length, by simp, Nat.zero_le _, h0⟩, ?_⟩
  rintro i m ys H ⟨rfl, hi, p⟩
  have q := hl i ys H hi p
  by_cases hlt : i < xs.length
  · refine .inr ⟨⟨xs, xs[i], q, by simp [hlt]⟩, Nat.lt_of_le_of_lt (hy i ys H p) (Nat.lt_of_lt_of_le hlt hz), Pv (i + 1), fun ys' H' p' => ⟨xs.length - (i + 1), by omega, rfl, hlt, p'⟩, fun x H' y => ?_⟩
    obtain ⟨e, y⟩ := y
    subst e
    exact hs i x ys _ (y xs q) p
  · have e : i = xs.length := by omega
    subst e
    exact .inl ⟨⟨xs, q, Nat.le_refl _⟩, hd ys H p⟩
end Gx

set_option Elab.async false
set_option linter.all false
set_option maxRecDepth 100000
set_option maxHeartbeats 4000000
/-! runs, by themselves -/
namespace Dt
open PySem PySem.Spec PyProof.Rows L2
abbrev Log := List (Int × List Int)
abbrev Res := Bool × List Int × Log
def stand (tb : List (List Int)) (tk : List Int) : List Int := List.zipWith atF tb tk
def leftOf (tb : List (List Int)) (tk : List Int) : List (List Int) := List.zipWith (fun ds k => ds.drop (k.toNat + 1)) tb tk
def firstB (fs : List Int) (wds : List WD) (ord : List Int) : Option Int := ord.find? fun n => brkAt fs wds n.toNat
def plc (wds : List WD) (k : Int) : List Int := (wds.getD k.toNat ([], [])).1
def lenAt (tb : List (List Int)) (p : Int) : Int := ((tb.getD p.toNat []).length : Int)
def canN (tb : List (List Int)) (tk ps : List Int) : Bool := ps.all fun p => decide (atF tk p + 1 < lenAt tb p)
def bumpA (tk ps : List Int) : List Int := ps.foldl (fun t p => bump t p.toNat) tk
def goR (wds : List WD) (tb : List (List Int)) (ord : List Int) : Nat → List Int → Log → Option Res
  | 0, _, _ => none
  | n + 1, tk, log => match firstB (stand tb tk) wds ord with
    | none => some (true, stand tb tk, log)
    | some k => if canN tb tk (plc wds k) = true then goR wds tb ord n (bumpA tk (plc wds k)) (log ++ [(k, huesA (stand tb tk) (plc wds k))]) else some (false, stand tb tk, log)
structure GoodT (many hues : Int) (tb : List (List Int)) : Prop where
  len : (tb.length : Int) = many
  one : ∀ ds ∈ tb, 1 ≤ ds.length
  few : ∀ ds ∈ tb, ds.length ≤ 1000
  hue : ∀ ds ∈ tb, ∀ h ∈ ds, 0 ≤ h ∧ h < hues
structure GoodK (tb : List (List Int)) (tk : List Int) : Prop where
  len : tk.length = tb.length
  at_ : ∀ p : Nat, p < tb.length → 0 ≤ tk.getD p 0 ∧ tk.getD p 0 < ((tb.getD p []).length : Int)
/-- an order of so many numbers -/
structure GoodO (n : Nat) (ord : List Int) : Prop where
  mem : ∀ z ∈ ord, 0 ≤ z ∧ z < (n : Int)
  all : ∀ k : Nat, k < n → (k : Int) ∈ ord
  len : ord.length ≤ n
def zerosI (n : Nat) : List Int := List.replicate n 0
def rem (tb : List (List Int)) (tk : List Int) : Nat := (List.zipWith (fun (ds : List Int) (k : Int) => ds.length - 1 - k.toNat) tb tk).sum
def runOf (wds : List WD) (tb : List (List Int)) (ord : List Int) : Option Res := goR wds tb ord (rem tb (zerosI tb.length) + 1) (zerosI tb.length) []
theorem getD_get {α : Type} {l : List α} {p : Nat} {d : α} (h : p < l.length) : l.getD p d = l[p] := by
  rw [List.getD_eq_getElem?_getD, List.getElem?_eq_getElem h]
  rfl
theorem getD_mem {α : Type} {l : List α} {p : Nat} {d : α} (h : p < l.length) : l.getD p d ∈ l := by
  rw [getD_get h]
  exact List.getElem_mem h
theorem bump_get (tk : List Int) (p i : Nat) : (bump tk p).getD i 0 = if i = p ∧ p < tk.length then tk.getD p 0 + 1 else tk.getD i 0 := by
  unfold bump
  rw [List.getD_eq_getElem?_getD, List.getElem?_set]
  by_cases h : p = i
  · subst h
    by_cases h2 : p < tk.length
    · rw [if_pos rfl, if_pos h2, if_pos ⟨rfl, h2⟩]
      rfl
    · rw [if_pos rfl, if_neg h2, if_neg (fun z => h2 z.2), List.getD_eq_getElem?_getD, List.getElem?_eq_none (by omega)]
  · rw [if_neg h, if_neg (fun z => h z.1.symm), List.getD_eq_getElem?_getD]
theorem zeros_get (n p : Nat) : (zerosI n).getD p 0 = 0 := by
  unfold zerosI
  rw [List.getD_eq_getElem?_getD, List.getElem?_replicate]
  split <;> rfl
theorem zeros_good {many hues : Int} {tb : List (List Int)} (g : GoodT many hues tb) : GoodK tb (zerosI tb.length) := by
  refine ⟨by simp [zerosI], fun p hp => ?_⟩
  rw [zeros_get]
  have := g.one _ (getD_mem (d := []) hp)
  omega
theorem stand_len {tb : List (List Int)} {tk : List Int} (g : GoodK tb tk) : (stand tb tk).length = tb.length := by
  unfold stand
  rw [List.length_zipWith, g.len, Nat.min_self]
theorem left_len {tb : List (List Int)} {tk : List Int} (g : GoodK tb tk) : (leftOf tb tk).length = tb.length := by
  unfold leftOf
  rw [List.length_zipWith, g.len, Nat.min_self]
theorem stand_get {tb : List (List Int)} {tk : List Int} (g : GoodK tb tk) {p : Nat} (hp : p < tb.length) : (stand tb tk)[p]? = some (atF (tb.getD p []) (tk.getD p 0)) := by
  have h2 : p < tk.length := by rw [g.len]; exact hp
  unfold stand
  rw [List.getElem?_zipWith, List.getElem?_eq_getElem hp, List.getElem?_eq_getElem h2, getD_get hp, getD_get h2]
theorem left_get {tb : List (List Int)} {tk : List Int} (g : GoodK tb tk) {p : Nat} (hp : p < tb.length) : (leftOf tb tk)[p]? = some ((tb.getD p []).drop ((tk.getD p 0).toNat + 1)) := by
  have h2 : p < tk.length := by rw [g.len]; exact hp
  unfold leftOf
  rw [List.getElem?_zipWith, List.getElem?_eq_getElem hp, List.getElem?_eq_getElem h2, getD_get hp, getD_get h2]
theorem stand_good {many hues : Int} {tb : List (List Int)} {tk : List Int} (gt : GoodT many hues tb) (g : GoodK tb tk) : GoodF many hues (stand tb tk) := by
  refine ⟨by rw [stand_len g]; exact gt.len, fun h hh => ?_⟩
  obtain ⟨p, hp, e⟩ := List.getElem_of_mem hh
  rw [stand_len g] at hp
  have e2 := stand_get g hp
  rw [List.getElem?_eq_getElem (by rw [stand_len g]; exact hp), e] at e2
  cases e2
  have a := g.at_ p hp
  have m : (tk.getD p 0).toNat < (tb.getD p []).length := by omega
  exact gt.hue _ (getD_mem hp) _ (getD_mem m)
theorem first_some {fs : List Int} {wds : List WD} {ord : List Int} {k : Int} (h : firstB fs wds ord = some k) : k ∈ ord ∧ brkAt fs wds k.toNat = true := ⟨List.mem_of_find?_eq_some h, by
  have z := List.find?_some (p := fun n : Int => brkAt fs wds n.toNat) (l := ord) (a := k) h
  exact z⟩
theorem wd_of {wds : List WD} {k : Int} (h0 : 0 ≤ k) (h1 : k < (wds.length : Int)) : ∃ wd, wds[k.toNat]? = some wd ∧ plc wds k = wd.1 := by
  have h : k.toNat < wds.length := by omega
  exact ⟨wds[k.toNat], List.getElem?_eq_getElem h, by rw [plc, getD_get h]⟩
/-! ### one more draw at a place -/
theorem rem_bump : ∀ {tb : List (List Int)} {tk : List Int} {p : Nat}, p < tb.length → p < tk.length → 0 ≤ tk.getD p 0 → tk.getD p 0 + 1 < ((tb.getD p []).length : Int) → rem tb (bump tk p) + 1 = rem tb tk
  | [], _, _, h, _, _, _ => absurd h (Nat.not_lt_zero _)
  | _ :: _, [], _, _, h, _, _ => absurd h (Nat.not_lt_zero _)
  | ds :: r, k :: q, 0, _, _, h0, h1 => by
    simp only [List.getD_cons_zero] at h0 h1
    unfold rem bump
    simp only [List.getD_cons_zero, List.set_cons_zero, List.zipWith_cons_cons, List.sum_cons]
    omega
  | ds :: r, k :: q, p + 1, hp, hq, h0, h1 => by
    simp only [List.getD_cons_succ] at h0 h1
    have ih := rem_bump (tb := r) (tk := q) (p := p) (Nat.lt_of_succ_lt_succ hp) (Nat.lt_of_succ_lt_succ hq) h0 h1
    unfold rem bump at ih ⊢
    simp only [List.getD_cons_succ, List.set_cons_succ, List.zipWith_cons_cons, List.sum_cons] at ih ⊢
    omega
theorem good_bump {tb : List (List Int)} {tk : List Int} {p : Nat} (g : GoodK tb tk) (hp : p < tb.length) (h : tk.getD p 0 + 1 < ((tb.getD p []).length : Int)) : GoodK tb (bump tk p) := by
  refine ⟨by rw [bump_len]; exact g.len, fun i hi => ?_⟩
  have a := g.at_ i hi
  rw [bump_get]
  by_cases e : i = p
  · subst e
    rw [if_pos ⟨rfl, by rw [g.len]; exact hp⟩]
    omega
  · rw [if_neg (fun z => e z.1)]
    exact a
theorem stand_bump {tb : List (List Int)} {tk : List Int} {p : Nat} {x : Int} {r : List Int} (g : GoodK tb tk) (hp : p < tb.length) (h : (leftOf tb tk)[p]? = some (x :: r)) : stand tb (bump tk p) = (stand tb tk).set p x ∧ leftOf tb (bump tk p) = (leftOf tb tk).set p r ∧ tk.getD p 0 + 1 < ((tb.getD p []).length : Int) := by
  rw [left_get g hp] at h
  have a := g.at_ p hp
  have e := Option.some.inj h
  have hl : (tk.getD p 0).toNat + 1 < (tb.getD p []).length := by
    have z := congrArg List.length e
    rw [List.length_drop, List.length_cons] at z
    omega
  have hc : tk.getD p 0 + 1 < ((tb.getD p []).length : Int) := by omega
  have g2 := good_bump g hp hc
  have en : (tk.getD p 0 + 1).toNat = (tk.getD p 0).toNat + 1 := by omega
  have ex : (tb.getD p []).getD ((tk.getD p 0).toNat + 1) 0 = x := by
    have z := congrArg (fun l : List Int => l[0]?) e
    simp only [List.getElem?_drop, List.getElem?_cons_zero, Nat.add_zero] at z
    rw [List.getD_eq_getElem?_getD, z]
    rfl
  have er : (tb.getD p []).drop ((tk.getD p 0).toNat + 1 + 1) = r := by
    have z := congrArg (fun l : List Int => l.drop 1) e
    simp only [List.drop_drop, List.drop_succ_cons, List.drop_zero] at z
    exact z
  refine ⟨?_, ?_, hc⟩
  · refine List.ext_getElem? fun i => ?_
    rw [List.getElem?_set]
    by_cases hi : i < tb.length
    · rw [stand_get g2 hi, bump_get]
      by_cases e2 : p = i
      · subst e2
        rw [if_pos ⟨rfl, by rw [g.len]; exact hp⟩, if_pos rfl, if_pos (by rw [stand_len g]; exact hp)]
        unfold atF
        rw [en, ex]
      · rw [if_neg (fun z => e2 z.1.symm), if_neg e2, stand_get g hi]
    · rw [List.getElem?_eq_none (by rw [stand_len g2]; omega), if_neg (by omega), List.getElem?_eq_none (by rw [stand_len g]; omega)]
  · refine List.ext_getElem? fun i => ?_
    rw [List.getElem?_set]
    by_cases hi : i < tb.length
    · rw [left_get g2 hi, bump_get]
      by_cases e2 : p = i
      · subst e2
        rw [if_pos ⟨rfl, by rw [g.len]; exact hp⟩, if_pos rfl, if_pos (by rw [left_len g]; exact hp), en, er]
      · rw [if_neg (fun z => e2 z.1.symm), if_neg e2, left_get g hi]
    · rw [List.getElem?_eq_none (by rw [left_len g2]; omega), if_neg (by omega), List.getElem?_eq_none (by rw [left_len g]; omega)]
/-! ### one more draw at some places -/
structure Can (tb : List (List Int)) (tk ps : List Int) : Prop where
  nd : ps.Nodup
  pl : ∀ p ∈ ps, 0 ≤ p ∧ p < (tb.length : Int)
  nx : ∀ p ∈ ps, atF tk p + 1 < lenAt tb p
theorem Can.tail {tb : List (List Int)} {tk ps : List Int} {p : Int} (c : Can tb tk (p :: ps)) : Can tb (bump tk p.toNat) ps := by
  refine ⟨(List.nodup_cons.mp c.nd).2, fun q hq => c.pl q (List.mem_cons_of_mem _ hq), fun q hq => ?_⟩
  have hp := c.pl p List.mem_cons_self
  have hq2 := c.pl q (List.mem_cons_of_mem _ hq)
  have hne : q ≠ p := fun z => (List.nodup_cons.mp c.nd).1 (z ▸ hq)
  have := c.nx q (List.mem_cons_of_mem _ hq)
  unfold atF at this ⊢
  rw [bump_get, if_neg (fun z => hne (by omega))]
  exact this
theorem bumpA_good : ∀ {ps : List Int} {tb : List (List Int)} {tk : List Int}, GoodK tb tk → Can tb tk ps → GoodK tb (bumpA tk ps) ∧ rem tb (bumpA tk ps) + ps.length = rem tb tk
  | [], _, _, g, _ => ⟨g, rfl⟩
  | p :: ps, tb, tk, g, c => by
    have hp := c.pl p List.mem_cons_self
    have hn := c.nx p List.mem_cons_self
    have hpn : p.toNat < tb.length := by omega
    have g2 := good_bump g hpn hn
    have a := g.at_ _ hpn
    have r := rem_bump (tb := tb) (tk := tk) hpn (by rw [g.len]; exact hpn) a.1 hn
    obtain ⟨i1, i2⟩ := bumpA_good (ps := ps) g2 c.tail
    refine ⟨i1, ?_⟩
    show rem tb (bumpA (bump tk p.toNat) ps) + (ps.length + 1) = rem tb tk
    omega
theorem can_of {many hues : Int} {wds : List WD} {tb : List (List Int)} {tk : List Int} {k : Int} {wd : WD} (gr : GoodR many hues wds) (nd : ∀ wd ∈ wds, wd.1.Nodup) (gt : GoodT many hues tb) (hw : wds[k.toNat]? = some wd) (he : plc wds k = wd.1) (h : canN tb tk (plc wds k) = true) : Can tb tk (plc wds k) := by
  have hm := List.mem_of_getElem? hw
  rw [he] at h ⊢
  refine ⟨nd wd hm, fun p hp => ?_, fun p hp => ?_⟩
  · have := (gr.each wd hm).pl p hp
    have := gt.len
    omega
  · exact of_decide_eq_true (List.all_eq_true.mp h p hp)
def LogOk (wds : List WD) (log : Log) : Prop := ∀ e ∈ log, 0 ≤ e.1 ∧ e.1 < (wds.length : Int) ∧ ∃ wd, wds[e.1.toNat]? = some wd ∧ e.2 ∈ wd.2
theorem LogOk.nil (wds : List WD) : LogOk wds [] := fun _ h => nomatch h
theorem LogOk.snoc {wds : List WD} {log : Log} {fs : List Int} {k : Int} {wd : WD} (h : LogOk wds log) (h0 : 0 ≤ k) (h1 : k < (wds.length : Int)) (hw : wds[k.toNat]? = some wd) (he : plc wds k = wd.1) (hb : brkAt fs wds k.toNat = true) : LogOk wds (log ++ [(k, huesA fs (plc wds k))]) := by
  intro e hm
  rcases List.mem_append.mp hm with z | z
  · exact h e z
  · rw [List.mem_singleton.mp z]
    refine ⟨h0, h1, wd, hw, ?_⟩
    rw [brkAt_of hw] at hb
    rw [he]
    exact of_decide_eq_true hb
theorem goR_total {many hues : Int} {wds : List WD} {tb : List (List Int)} {ord : List Int} (gr : GoodR many hues wds) (nd : ∀ wd ∈ wds, wd.1.Nodup) (gt : GoodT many hues tb) (go : GoodO wds.length ord) :
    ∀ (n : Nat) (tk : List Int) (log : Log), GoodK tb tk → LogOk wds log → rem tb tk < n → ∃ R, goR wds tb ord n tk log = some R ∧ GoodF many hues R.2.1 ∧ LogOk wds R.2.2 ∧ R.2.2.length ≤ log.length + rem tb tk
  | 0, _, _, _, _, h => absurd h (Nat.not_lt_zero _)
  | n + 1, tk, log, g, hl, h => by
    cases e : firstB (stand tb tk) wds ord with
    | none => exact ⟨(true, stand tb tk, log), by simp only [goR, e], stand_good gt g, hl, Nat.le_add_right _ _⟩
    | some k =>
      obtain ⟨hk, hb⟩ := first_some e
      obtain ⟨k0, k1⟩ := go.mem k hk
      obtain ⟨wd, hw, he⟩ := wd_of k0 k1
      cases c : canN tb tk (plc wds k) with
      | false => exact ⟨(false, stand tb tk, log), by simp only [goR, e, c]; rfl, stand_good gt g, hl, Nat.le_add_right _ _⟩
      | true =>
        have cn := can_of gr nd gt hw he c
        obtain ⟨g2, r2⟩ := bumpA_good g cn
        have one := (gr.each wd (List.mem_of_getElem? hw)).one
        rw [← he] at one
        obtain ⟨R, hR, a1, a2, a3⟩ := goR_total gr nd gt go n (bumpA tk (plc wds k)) (log ++ [(k, huesA (stand tb tk) (plc wds k))]) g2 (hl.snoc k0 k1 hw he hb) (by omega)
        refine ⟨R, by simp only [goR, e, c, if_true]; exact hR, a1, a2, ?_⟩
        rw [List.length_append, List.length_singleton] at a3
        omega
theorem rem_le : ∀ (tb : List (List Int)) (tk : List Int) (b : Nat), (∀ ds ∈ tb, ds.length ≤ b) → rem tb tk ≤ tb.length * b
  | [], _, _, _ => by simp [rem]
  | _ :: _, [], _, _ => by simp [rem]
  | ds :: r, k :: q, b, h => by
    have ih := rem_le r q b fun d hd => h d (List.mem_cons_of_mem _ hd)
    have a := h ds List.mem_cons_self
    unfold rem at ih ⊢
    rw [List.zipWith_cons_cons, List.sum_cons, List.length_cons, Nat.succ_mul]
    omega
theorem runOf_some {many hues : Int} {wds : List WD} {tb : List (List Int)} {ord : List Int} (gr : GoodR many hues wds) (nd : ∀ wd ∈ wds, wd.1.Nodup) (gt : GoodT many hues tb) (go : GoodO wds.length ord) :
    ∃ R, runOf wds tb ord = some R ∧ GoodF many hues R.2.1 ∧ LogOk wds R.2.2 ∧ R.2.2.length ≤ 6000 := by
  obtain ⟨R, h1, h2, h3, h4⟩ := goR_total gr nd gt go (rem tb (zerosI tb.length) + 1) (zerosI tb.length) [] (zeros_good gt) (LogOk.nil _) (Nat.lt_succ_self _)
  refine ⟨R, h1, h2, h3, ?_⟩
  have a := rem_le tb (zerosI tb.length) 1000 gt.few
  have b := gt.len
  have c := gr.m6
  rw [List.length_nil] at h4
  have : tb.length ≤ 6 := by omega
  omega
/-! ### the first broken one, as the law finds it -/
theorem broL_iff {fs : List Int} {wds : List WD} {n : Nat} {z : Int} : z ∈ broL fs wds n ↔ 0 ≤ z ∧ z < (n : Int) ∧ brkAt fs wds z.toNat = true := by
  unfold broL
  rw [List.mem_map]
  constructor
  · rintro ⟨k, hk, rfl⟩
    obtain ⟨h1, h2⟩ := List.mem_filter.mp hk
    have := List.mem_range.mp h1
    exact ⟨by omega, by omega, by rw [Int.toNat_natCast]; exact h2⟩
  · rintro ⟨h0, h1, h2⟩
    exact ⟨z.toNat, List.mem_filter.mpr ⟨List.mem_range.mpr (by omega), h2⟩, by omega⟩
theorem first_filter {fs : List Int} {wds : List WD} {ord : List Int} (go : GoodO wds.length ord) : (ord.filter fun z => decide (z ∈ broL fs wds wds.length)).head? = firstB fs wds ord := by
  unfold firstB
  rw [List.head?_filter]
  have e : ∀ l : List Int, (∀ z ∈ l, 0 ≤ z ∧ z < (wds.length : Int)) → l.find? (fun z => decide (z ∈ broL fs wds wds.length)) = l.find? (fun n => brkAt fs wds n.toNat) := by
    intro l
    induction l with
    | nil => intro _; rfl
    | cons a r ih =>
      intro h
      have ha := h a List.mem_cons_self
      have hq : decide (a ∈ broL fs wds wds.length) = brkAt fs wds a.toNat := by
        cases c : brkAt fs wds a.toNat with
        | true => exact decide_eq_true (broL_iff.mpr ⟨ha.1, ha.2, c⟩)
        | false => exact decide_eq_false fun z => by rw [(broL_iff.mp z).2.2] at c; cases c
      rw [List.find?_cons, List.find?_cons, hq, ih fun z hz => h z (List.mem_cons_of_mem _ hz)]
  exact e ord go.mem
theorem first_none {fs : List Int} {wds : List WD} {ord : List Int} (go : GoodO wds.length ord) : firstB fs wds ord = none ↔ broL fs wds wds.length = [] := by
  constructor
  · intro h
    rw [List.eq_nil_iff_forall_not_mem]
    intro z hz
    obtain ⟨h0, h1, h2⟩ := broL_iff.mp hz
    have hm := go.all z.toNat (by omega)
    have e : ((z.toNat : Nat) : Int) = z := by omega
    rw [e] at hm
    have := List.find?_eq_none.mp h z hm
    exact this h2
  · intro h
    refine List.find?_eq_none.mpr fun z hz c => ?_
    have hm := go.mem z hz
    have : z ∈ broL fs wds wds.length := broL_iff.mpr ⟨hm.1, hm.2, c⟩
    rw [h] at this
    cases this
end Dt

set_option Elab.async false
set_option linter.all false
set_option maxRecDepth 100000
set_option maxHeartbeats 4000000
/-! calls, frames, tables, logs: over no program -/
namespace Rd
open PySem PySem.Spec PyProof.Rows L2 Dt
theorem same_upd {H : Hp} {p : Addr} {o : HO} (h : H p = none) : Same H (upd H p o) := fun b x e => by
  rw [upd_ne (ne_of_none e h)]
  exact e
def Cal (P : Program) (w : World) (K : PySem.W.Frag) (mg : Str → Option Value) (base : Heap) (k : Nat) (x : Str) (ps : List Str) (sp : Sp) : Prop :=
  ∃ (f : Addr) (fd : FuncData), FnOk P w K mg base CX0 k f fd ps sp ∧ mg x = some (.ref f) ∧ PySem.W.keepIn K (.ref f) = true ∧ Binds K fd ps []
theorem pe_cal {X : Cx} {k : Nat} {x : Str} {ps : List Str} {sp : Sp} {p pos : Pos} {e : Expr} {es : List Expr} {t : TA} (C : Cal X.prog X.w X.K X.mg X.base k x ps sp) (hr : Room k X.A) (hg : Gl X x)
    (ha : PA X (e :: es) t) (hdb : (x == ("__debug__" : Str)) = false := by decide) (he : starEach (e :: es) X.env = (false, eval e X.env) :: starEach es X.env := by rfl) (hpl : (backTo pos (starEach es X.env)).any (·.1) = false := by rfl) :
    PE X (.Call (.Name x p) (e :: es) [] pos) (tCall sp [] E0 t) := by
  obtain ⟨f, fd, F, hm, hk, hb⟩ := C
  exact pe_call F hr hg hm hk hb .nil pass0 ha hdb he hpl
/-- a def whose code object is known -/
structure FunC (K : PySem.W.Frag) (x qual : Str) (st : Stmt) (f : Addr) (fd : FuncData) (cdv : Value) : Prop where
  ex : ∃ (oc : Value) (od : Option Addr) (kV doc pm : Value) (an : Option Addr) (ct : Value) (osl : Array (Option Value)),
    fd = PySem.W.fnOf x qual (defArgs st) (defBody st) (defScope st) .none kV doc pm an cdv ct ∧ K.lookup f = some ⟨oc, od, .func fd, osl⟩ ∧ PySem.W.codeIn K cdv qual = true
theorem FunC.ok {P : Program} {w : World} {K : PySem.W.Frag} {mg : Str → Option Value} {base : Heap} {x qual : Str} {st : Stmt} {f : Addr} {fd : FuncData} {cdv : Value} {N ps : List Str} {k : Nat} {sp : Sp} (F : FunC K x qual st f fd cdv) (S : FnScope N ps (defScope st)) (len : ∀ vs H Q E, sp vs H Q E → vs.length = ps.length)
    (body : ∀ (A : Around) (outer : List Env) (s : Shared) (H : Hp) (vs : List V) (Q : VK) (E : XK), Room k (A.deeper (envOfC qual (defScope st) s.heap.objs.size f cdv)) → sp vs H Q E →
      ∃ t, PSs (cxOf CX0 P w K mg base N qual (defScope st) f cdv A outer s H E).nox (defBody st) t ∧ t { nx := fun _ H' => Q .non H', rt := Q } (start N vs) H) : FnOk P w K mg base CX0 (k + 1) f fd ps sp := by
  obtain ⟨oc, od, kV, doc, pm, an, ct, osl, rfl, lk, hcd⟩ := F.ex
  refine fn_of lk hcd S len fun A outer s H vs Q E hr hsp => ?_
  obtain ⟨t, h, q⟩ := body A outer s H vs Q E hr hsp
  exact ⟨t, h.nox, q⟩
theorem units65 {A : Around} {k : Nat} (hr : Room k A) : A.units + 65 < cLine := by have := hr.un; omega
/-! ### frames but for some tables -/
def Tabs (Ps : List Addr) (H : Hp) : Prop := ∀ P ∈ Ps, GxR.TabG H P
def FrS (Ps : List Addr) (H H' : Hp) : Prop := (∀ b o, b ∉ Ps → H b = some o → H' b = some o) ∧ Tabs Ps H'
/-- tuples and lists stay -/
def Seqs (H H' : Hp) : Prop := Tups H H' ∧ ∀ b xs, H b = some (.lst xs) → H' b = some (.lst xs)
theorem Seqs.refl (H : Hp) : Seqs H H := ⟨Tups.refl H, fun _ _ e => e⟩
theorem Seqs.trans {H H1 H2 : Hp} (a : Seqs H H1) (b : Seqs H1 H2) : Seqs H H2 := ⟨a.1.trans b.1, fun c xs e => b.2 c xs (a.2 c xs e)⟩
theorem seqs_same {H H' : Hp} (s : Same H H') : Seqs H H' := ⟨tups_same s, fun b xs e => s b _ e⟩
theorem FrS.refl {Ps : List Addr} {H : Hp} (t : Tabs Ps H) : FrS Ps H H := ⟨fun _ _ _ e => e, t⟩
theorem FrS.trans {Ps : List Addr} {H H1 H2 : Hp} (a : FrS Ps H H1) (b : FrS Ps H1 H2) : FrS Ps H H2 := ⟨fun x o n e => b.1 x o n (a.1 x o n e), b.2⟩
theorem FrS.of {Ps : List Addr} {H H' : Hp} (t : Tabs Ps H) (s : Same H H') : FrS Ps H H' := ⟨fun b o _ e => s b o e, fun P hP => let ⟨ps, h, q⟩ := t P hP; ⟨ps, s _ _ h, q⟩⟩
theorem FrS.same {Ps : List Addr} {H H1 H2 : Hp} (a : FrS Ps H H1) (s : Same H1 H2) : FrS Ps H H2 := a.trans (FrS.of a.2 s)
theorem FrS.one {Ps : List Addr} {P : Addr} {H H' : Hp} (t : Tabs Ps H) (hP : P ∈ Ps) (f : GxR.Tabbed P H H') : FrS Ps H H' := by
  refine ⟨fun b o n e => ?_, fun Q hQ => ?_⟩
  · rw [f.2 b (fun z => n (by rw [z]; exact hP))]
    exact e
  · by_cases z : Q = P
    · rw [z]; exact f.1
    · obtain ⟨ps, h, q⟩ := t Q hQ
      exact ⟨ps, by rw [f.2 Q z]; exact h, q⟩
theorem Tabs.tup {Ps : List Addr} {H : Hp} (t : Tabs Ps H) {b : Addr} {xs : List V} (e : H b = some (.tup xs)) : b ∉ Ps := fun z => by
  obtain ⟨ps, h, _⟩ := t b z
  rw [e] at h
  cases h
theorem Tabs.lst {Ps : List Addr} {H : Hp} (t : Tabs Ps H) {b : Addr} {xs : List V} (e : H b = some (.lst xs)) : b ∉ Ps := fun z => by
  obtain ⟨ps, h, _⟩ := t b z
  rw [e] at h
  cases h
theorem FrS.seqs {Ps : List Addr} {H H' : Hp} (t : Tabs Ps H) (f : FrS Ps H H') : Seqs H H' := ⟨fun b xs e => f.1 b _ (t.tup e) e, fun b xs e => f.1 b _ (t.lst e) e⟩
theorem FrS.tups {Ps : List Addr} {H H' : Hp} (t : Tabs Ps H) (f : FrS Ps H H') : Tups H H' := (f.seqs t).1
theorem FrS.free {Ps : List Addr} {H H' : Hp} {b : Addr} (f : FrS Ps H H') (h : H' b = none) : H b = none := by
  cases e : H b with
  | none => rfl
  | some o =>
    by_cases z : b ∈ Ps
    · obtain ⟨ps, q, _⟩ := f.2 b z
      rw [q] at h
      cases h
    · rw [f.1 b o z e] at h
      cases h
/-- a store at a place that wasn't there at first -/
theorem FrS.put {Ps : List Addr} {H H1 : Hp} {b : Addr} {o : HO} (a : FrS Ps H H1) (n : H b = none) (nb : b ∉ Ps) : FrS Ps H (upd H1 b o) :=
  ⟨fun x u nx e => by rw [upd_ne (ne_of_none e n)]; exact a.1 x u nx e, fun P hP => by
    obtain ⟨ps, h, q⟩ := a.2 P hP
    exact ⟨ps, by rw [upd_ne (fun z : P = b => nb (by rw [← z]; exact hP))]; exact h, q⟩⟩
theorem Tabs.new {Ps : List Addr} {H : Hp} (t : Tabs Ps H) {b : Addr} (n : H b = none) : b ∉ Ps := fun z => by
  obtain ⟨ps, h, _⟩ := t b z
  rw [n] at h
  cases h
theorem Tabs.same {Ps : List Addr} {H H' : Hp} (t : Tabs Ps H) (s : Same H H') : Tabs Ps H' := (FrS.of t s).2
theorem Tabs.put {Ps : List Addr} {H : Hp} (t : Tabs Ps H) {b : Addr} {o : HO} (nb : b ∉ Ps) : Tabs Ps (upd H b o) := fun P hP => by
  obtain ⟨ps, h, q⟩ := t P hP
  exact ⟨ps, by rw [upd_ne (fun z : P = b => nb (by rw [← z]; exact hP))]; exact h, q⟩
theorem free_same {H H' : Hp} {b : Addr} (s : Same H H') (h : H' b = none) : H b = none := s.free h
theorem same_put {H H1 : Hp} {b : Addr} {o : HO} (s : Same H H1) (n : H b = none) : Same H (upd H1 b o) := fun x u e => by
  rw [upd_ne (ne_of_none e n)]
  exact s x u e
/-! ### numbers, lists -/
theorem cut_from {α : Type} (f : α → V) (l : List α) (k : Nat) : cutV (l.map f) (some (k : Int)) none = (l.drop k).map f := by
  unfold cutV
  rw [HT.sIx_nat, HT.sIx_none, List.length_map, ← List.map_drop]
  by_cases h : k ≤ l.length
  · rw [Nat.min_eq_left h, List.take_of_length_le (by rw [List.length_map, List.length_drop]; exact Nat.le_refl _)]
  · have h2 : l.drop k = [] := List.drop_eq_nil_of_le (by omega)
    rw [Nat.min_eq_right (by omega), Nat.sub_self, List.take_zero, h2]
    rfl
theorem cut_to {α : Type} (f : α → V) (l : List α) (k : Nat) : cutV (l.map f) none (some (k : Int)) = (l.take k).map f := by
  unfold cutV
  rw [HT.sIx_nat, HT.sIx_none, List.length_map, List.drop_zero, Nat.sub_zero, ← List.map_take]
  by_cases h : k ≤ l.length
  · rw [Nat.min_eq_left h]
  · rw [Nat.min_eq_right (by omega), List.take_of_length_le (Nat.le_refl _), List.take_of_length_le (by omega)]
theorem log_small {m : Int} (h0 : 0 ≤ m) (h : m < 4294967296) : m.natAbs.log2 < 9000 := by
  have e : m.natAbs < 2 ^ 32 := by omega
  by_cases z : m.natAbs = 0
  · rw [z]; decide
  · have := (Nat.log2_lt z).mpr e
    omega
def toI : V → Int
  | .int i => i
  | _ => 0
def rowAt (H : Hp) (t : Addr) : List Int := match H t with
  | some (.tup xs) => xs.map toI
  | _ => []
theorem rowAt_of {H : Hp} {t : Addr} {row : Dt.Row} (h : IsRow H t row) : rowAt H t = row := by
  unfold rowAt
  rw [show H t = some (.tup (row.map V.int)) from h]
  show (row.map V.int).map toI = row
  rw [List.map_map]
  have e : (toI ∘ V.int) = id := by funext z; rfl
  rw [e, List.map_id]
def rngI (m : Int) : List Int := (List.range m.toNat).map fun (i : Nat) => (i : Int)
theorem rngI_len (m : Int) : (rngI m).length = m.toNat := by
  unfold rngI
  rw [List.length_map, List.length_range]
theorem rngI_mem {m z : Int} (h : z ∈ rngI m) : 0 ≤ z ∧ z < m := by
  obtain ⟨i, hi, rfl⟩ := List.mem_map.mp h
  have := List.mem_range.mp hi
  omega
theorem rngI_all {m : Int} {k : Nat} (h : (k : Int) < m) : (k : Int) ∈ rngI m := List.mem_map.mpr ⟨k, List.mem_range.mpr (by omega), rfl⟩
theorem rngI_nodup (m : Int) : (rngI m).Nodup := by
  unfold rngI
  refine List.Pairwise.map _ (fun a b h z => h ?_) (List.nodup_range (n := m.toNat))
  omega
theorem rgV_eq (m : Int) : rgV 0 m = (rngI m).map V.int := by
  unfold rgV rngI
  rw [List.map_map]
  have e : (m - 0).toNat = m.toNat := by rw [Int.sub_zero]
  rw [e]
  refine List.map_congr_left fun i _ => ?_
  show V.int (0 + (i : Int)) = V.int (i : Int)
  rw [Int.zero_add]
theorem map_erase {α : Type} (f : α → V) (ls : List α) (k : Nat) : (ls.map f).eraseIdx k = (ls.eraseIdx k).map f := by
  induction ls generalizing k with
  | nil => rfl
  | cons a r ih => cases k with
    | zero => rfl
    | succ k => simp [ih]
theorem erase_perm {α : Type} : ∀ (l : List α) (k : Nat) (h : k < l.length), (l[k] :: l.eraseIdx k).Perm l
  | [], k, h => absurd h (Nat.not_lt_zero _)
  | a :: r, 0, _ => List.Perm.refl _
  | a :: r, k + 1, h => by
    have ih := erase_perm r k (Nat.lt_of_succ_lt_succ h)
    show ((r[k]'(Nat.lt_of_succ_lt_succ h)) :: a :: r.eraseIdx k).Perm (a :: r)
    exact (List.Perm.swap a _ _).trans (List.Perm.cons a ih)
theorem map_get {α : Type} {f : α → V} {l : List α} {i : Nat} {x : V} (h : (l.map f)[i]? = some x) : ∃ a, l[i]? = some a ∧ x = f a := by
  rw [List.getElem?_map] at h
  cases e : l[i]? with
  | none => rw [e] at h; cases h
  | some a => rw [e] at h; cases h; exact ⟨a, rfl, rfl⟩
theorem map_at {α : Type} {f : α → V} {l : List α} {i : Nat} {a : α} (h : l[i]? = some a) : (l.map f)[i]? = some (f a) := by
  rw [List.getElem?_map, h]
  rfl
theorem atI_of {α : Type} {f : α → V} {l : List α} {p : Int} {a : α} (h0 : 0 ≤ p) (h : l[p.toNat]? = some a) : atI (l.map f) p = some (f a) := by
  have e : p = ((p.toNat : Nat) : Int) := by omega
  have q := atI_nat (xs := l.map f) (j := p.toNat) (v := f a) (map_at h)
  rw [← e] at q
  exact q
theorem ixN_of {n : Nat} {p : Int} (h0 : 0 ≤ p) (h1 : p < n) : ixN n p = some p.toNat := by
  unfold ixN
  rw [if_pos h0, if_pos h1]
theorem take_snoc {α : Type} {l : List α} {i : Nat} {a : α} (h : l[i]? = some a) : l.take (i + 1) = l.take i ++ [a] := by
  rw [List.take_add_one, h]
  rfl
/-! ### the tape -/
def Tape (H : Hp) (tp : Addr) : Prop := ∃ b c : Int, H tp = some (.lst [.int b, .int c]) ∧ 0 ≤ b ∧ 0 ≤ c ∧ c ≤ 2147483647
def Taped (tp : Addr) (H H' : Hp) : Prop := (∀ b o, b ≠ tp → H b = some o → H' b = some o) ∧ Tape H' tp
theorem Tape.same {H H' : Hp} {tp : Addr} (h : Tape H tp) (s : Same H H') : Tape H' tp := let ⟨b, c, h1, r⟩ := h; ⟨b, c, s _ _ h1, r⟩
theorem Tape.seqs {H H' : Hp} {tp : Addr} (h : Tape H tp) (s : Seqs H H') : Tape H' tp := let ⟨b, c, h1, r⟩ := h; ⟨b, c, s.2 _ _ h1, r⟩
theorem Tape.new {H : Hp} {tp b : Addr} (h : Tape H tp) (n : H b = none) : b ≠ tp := fun z => by
  obtain ⟨_, _, h1, _⟩ := h
  rw [z, h1] at n
  cases n
theorem Tape.put {H : Hp} {tp b : Addr} {o : HO} (h : Tape H tp) (n : b ≠ tp) : Tape (upd H b o) tp := let ⟨x, c, h1, r⟩ := h; ⟨x, c, by rw [upd_ne n.symm]; exact h1, r⟩
theorem Taped.refl {H : Hp} {tp : Addr} (h : Tape H tp) : Taped tp H H := ⟨fun _ _ _ e => e, h⟩
theorem Taped.trans {H H1 H2 : Hp} {tp : Addr} (a : Taped tp H H1) (b : Taped tp H1 H2) : Taped tp H H2 := ⟨fun x o n e => b.1 x o n (a.1 x o n e), b.2⟩
theorem Taped.same {H H1 H2 : Hp} {tp : Addr} (a : Taped tp H H1) (s : Same H1 H2) : Taped tp H H2 := ⟨fun x o n e => s _ _ (a.1 x o n e), a.2.same s⟩
theorem Taped.put {H H1 : Hp} {tp b : Addr} {o : HO} (a : Taped tp H H1) (n : H b = none) (nb : b ≠ tp) : Taped tp H (upd H1 b o) :=
  ⟨fun x u nx e => by rw [upd_ne (ne_of_none e n)]; exact a.1 x u nx e, a.2.put nb⟩
theorem Taped.tups {H H' : Hp} {tp : Addr} (t : Tape H tp) (a : Taped tp H H') : Tups H H' := fun b xs e => by
  obtain ⟨_, _, h1, _⟩ := t
  exact a.1 b _ (fun z => by rw [z, h1] at e; cases e) e
theorem Taped.free {H H' : Hp} {tp b : Addr} (a : Taped tp H H') (n : H' b = none) : H b = none := by
  cases e : H b with
  | none => rfl
  | some o =>
    have m := a.2.new n
    rw [a.1 b o m e] at n
    cases n
theorem Taped.tabs {Ps : List Addr} {H H' : Hp} {tp : Addr} (t : Tape H tp) (a : Taped tp H H') (tt : Tabs Ps H) : Tabs Ps H' := fun P hP => by
  obtain ⟨ps, h, q⟩ := tt P hP
  obtain ⟨_, _, h1, _⟩ := t
  exact ⟨ps, a.1 P _ (fun z => by rw [z, h1] at h; cases h) h, q⟩
/-- len of a list or a tuple -/
def rLen (K : PySem.W.Frag) : List V → Hp → VK → Prop := fun xs H Q => ∃ p ys, xs = [.ref p] ∧ (SqL K H p ys ∨ SqT K H p ys) ∧ Q (.int (ys.length : Nat)) H
/-! ### pairs of ints, written -/
def pairsT : List (Int × Int) → TA
  | [] => tNil
  | p :: r => tCons (tTup (tCons (tC (.int p.1)) (tCons (tC (.int p.2)) tNil))) (pairsT r)
def IsPr (H : Hp) (t : Addr) (p : Int × Int) : Prop := H t = some (.tup [.int p.1, .int p.2])
theorem pairs_read {σ : L2.St} : ∀ (prs : List (Int × Int)) (H : Hp) (k : List V → Hp → Prop), (∀ ts H', Same H H' → Paired (IsPr H') ts prs → k (ts.map V.ref) H') → pairsT prs σ H k
  | [], H, k, h => h [] H (fun _ _ e => e) .nil
  | p :: r, H, k, h => by
    refine ⟨(by show 2 ≤ sizeLine; decide), fun t nt => ?_⟩
    refine pairs_read r _ _ fun ts H' sm pr => ?_
    exact h (t :: ts) H' ((same_upd nt).trans sm) (.cons (sm _ _ upd_same) pr)
theorem pairs_list {σ : L2.St} {prs : List (Int × Int)} {H : Hp} {Q : VK} (hl : prs.length ≤ 1000) (h : ∀ l ts H', Same H H' → H l = none → H' l = some (.lst (ts.map V.ref)) → Paired (IsPr H') ts prs → Q (.ref l) H') : tLst (pairsT prs) σ H Q := by
  refine pairs_read prs H _ fun ts H' sm pr => ?_
  refine ⟨by rw [List.length_map, pairedLen pr]; exact Nat.le_of_lt (small1000 hl), fun l nl => ?_⟩
  have sl := same_upd (o := .lst (ts.map V.ref)) nl
  exact h l ts _ (sm.trans sl) (sm.free nl) upd_same (pairedMap (fun _ _ e => sl _ _ e) pr)
theorem pairs_asg {i : Nat} {prs : List (Int × Int)} {D : Ends} {σ : L2.St} {H : Hp} (hl : prs.length ≤ 1000) (h : ∀ l ts H', Same H H' → H l = none → H' l = some (.lst (ts.map V.ref)) → Paired (IsPr H') ts prs → D.nx (σ.set i (some (.ref l))) H') : tAsg (tLst (pairsT prs)) (gName i) D σ H := by
  unfold tAsg
  exact pairs_list hl fun l ts H' a b c d => h l ts H' a b c d
theorem pairs_set {i : Nat} {prs : List (Int × Int)} {u : TS} {D : Ends} {σ : L2.St} {H : Hp} (hl : prs.length ≤ 1000) (h : ∀ l ts H', Same H H' → H l = none → H' l = some (.lst (ts.map V.ref)) → Paired (IsPr H') ts prs → u D (σ.set i (some (.ref l))) H') : tSeq (tAsg (tLst (pairsT prs)) (gName i)) u D σ H := pairs_asg hl h
/-! ### things popped at drawn places -/
structure Pops {α : Type} (f : α → V) (tp : Addr) (H : Hp) (l D : Addr) (zs0 : List α) (i : Nat) (H5 : Hp) (acc ls : List α) : Prop where
  fr : Taped tp H H5
  hL : H5 l = some (.lst (ls.map f))
  hD : H5 D = some (.lst (acc.map f))
  la : acc.length = i
  ll : ls.length + i = zs0.length
  pm : (acc ++ ls).Perm zs0
theorem pop_step {α : Type} {f : α → V} {tp : Addr} {H : Hp} {l D : Addr} {zs0 : List α} {i : Nat} {H5 H6 : Hp} {acc ls : List α} {d : Int} (nl : H l = none) (nlt : l ≠ tp) (nD : H D = none) (nDt : D ≠ tp) (nlD : l ≠ D) (hz : zs0.length ≤ 999) (p : Pops f tp H l D zs0 i H5 acc ls) (D6 : Taped tp H5 H6) (d0 : 0 ≤ d) (d1 : d < (ls.length : Int)) :
    ∃ y, (ls.map f)[d.toNat]? = some y ∧ H6 l = some (.lst (ls.map f)) ∧ seqIndex? d (ls.map f).length = some d.toNat ∧ ∃ acc', upd H6 l (.lst ((ls.map f).eraseIdx d.toNat)) D = some (.lst acc') ∧ acc'.length < sizeLine ∧ ∃ acc2 ls2, Pops f tp H l D zs0 (i + 1) (upd (upd H6 l (.lst ((ls.map f).eraseIdx d.toNat))) D (.lst (acc' ++ [y]))) acc2 ls2 := by
  have hd : d.toNat < ls.length := by omega
  have hL6 := D6.1 l _ nlt p.hL
  have hD6 := D6.1 D _ nDt p.hD
  have la := p.la
  have ll := p.ll
  refine ⟨f ls[d.toNat], map_at (List.getElem?_eq_getElem hd), hL6, seqIndex_of d0 (by rw [List.length_map]; exact d1), acc.map f, ?_, ?_, acc ++ [ls[d.toNat]], ls.eraseIdx d.toNat, ?_, ?_, ?_, ?_, ?_, ?_⟩
  · rw [upd_ne (Ne.symm nlD)]
    exact hD6
  · rw [List.length_map]
    exact small1000 (by omega)
  · exact ((p.fr.trans D6).put nl nlt).put nD nDt
  · rw [upd_ne nlD, upd_same, map_erase]
  · rw [upd_same, List.map_append]
    rfl
  · rw [List.length_append, la]
    rfl
  · rw [List.length_eraseIdx_of_lt hd]
    omega
  · refine List.Perm.trans ?_ p.pm
    rw [List.append_assoc]
    exact List.Perm.append_left acc (erase_perm ls _ hd)
/-! ### lists of rows -/
def IsFills (H : Hp) (l : Addr) (fss : List (List Int)) : Prop := ∃ as : List Addr, H l = some (.lst (as.map V.ref)) ∧ Paired (IsRow H) as fss
theorem pairedSnoc {α β : Type} {F : α → β → Prop} {a : α} {b : β} : ∀ {l : List α} {m : List β}, Paired F l m → F a b → Paired F (l ++ [a]) (m ++ [b])
  | _, _, .nil, h => .cons h .nil
  | _, _, .cons h t, k => .cons h (pairedSnoc t k)
theorem pairedApp {α β : Type} {F : α → β → Prop} {l2 : List α} {m2 : List β} : ∀ {l : List α} {m : List β}, Paired F l m → Paired F l2 m2 → Paired F (l ++ l2) (m ++ m2)
  | _, _, .nil, h => h
  | _, _, .cons h t, k => .cons h (pairedApp t k)
theorem yes_if {σ : L2.St} {H : Hp} {A B : Hp → Prop} (h : A H) : tYes σ H (fun b H3 => if b = true then A H3 else B H3) := by
  dsimp only [tYes]
  rw [if_pos rfl]
  exact h
theorem longer_at {hues j : Nat} (f : List Int) (h : j < hues) : (longer hues f)[j]? = some (f ++ [(j : Int)]) := by
  unfold longer
  rw [List.getElem?_map, List.getElem?_range h]
  rfl
theorem pairedZip {α β : Type} {F : α → β → Prop} : ∀ {l : List α} {m : List β}, Paired F l m → ∃ zs : List (α × β), zs.map (·.1) = l ∧ zs.map (·.2) = m ∧ ∀ z ∈ zs, F z.1 z.2
  | _, _, .nil => ⟨[], rfl, rfl, fun _ h => nomatch h⟩
  | a :: _, b :: _, .cons h t => by
    obtain ⟨zs, h1, h2, h3⟩ := pairedZip t
    refine ⟨(a, b) :: zs, by rw [List.map_cons, h1], by rw [List.map_cons, h2], fun z hz => ?_⟩
    rcases List.mem_cons.mp hz with e | e
    · rw [e]; exact h
    · exact h3 z e
theorem pairedOf {α β : Type} {F : α → β → Prop} {g : α → β} : ∀ {l : List α}, (∀ a ∈ l, F a (g a)) → Paired F l (l.map g)
  | [], _ => .nil
  | a :: r, h => .cons (h a List.mem_cons_self) (pairedOf fun b hb => h b (List.mem_cons_of_mem _ hb))
theorem longer_nodup (hues : Nat) (f : List Int) : (longer hues f).Nodup := by
  unfold longer
  refine List.Pairwise.map _ (fun a b h z => h ?_) (List.nodup_range (n := hues))
  have := List.append_cancel_left z
  simp only [List.cons.injEq, and_true] at this
  omega
theorem flat_nodup {hues : Nat} : ∀ {l : List (List Int)}, l.Nodup → (l.flatMap (longer hues)).Nodup
  | [], _ => by simp
  | f :: r, h => by
    rw [List.flatMap_cons]
    have hh := List.nodup_cons.mp h
    refine List.nodup_append.mpr ⟨longer_nodup hues f, flat_nodup hh.2, fun a ha b hb e => ?_⟩
    obtain ⟨i, _, rfl⟩ := List.mem_map.mp ha
    obtain ⟨g, hg, hb2⟩ := List.mem_flatMap.mp hb
    obtain ⟨j, _, rfl⟩ := List.mem_map.mp hb2
    have e2 : f = g := by
      have := congrArg List.dropLast e
      simpa using this
    exact hh.1 (e2 ▸ hg)
theorem fill_nodup (hues : Nat) : ∀ n : Nat, (fillL hues n).Nodup
  | 0 => by simp [fillL]
  | n + 1 => flat_nodup (fill_nodup hues n)
/-- places rising, no row twice -/
structure Neat (wd : WD) : Prop where
  pl : wd.1.Pairwise (· < ·)
  rows : wd.2.Nodup
theorem Neat.nd {wd : WD} (h : Neat wd) : wd.1.Nodup := h.pl.imp fun z e => by omega
theorem rise_of {ps : List Int} (h : ps.Pairwise (· ≤ ·)) (n : ps.Nodup) : ps.Pairwise (· < ·) := by
  have z := List.Pairwise.and h n
  exact z.imp fun ⟨a, b⟩ => by omega
/-! ### tables of draws -/
abbrev IsInts (H : Hp) (a : Addr) (ns : List Int) : Prop := H a = some (.lst (ns.map V.int))
/-- a list of lists of ints, none of them in Av -/
def IsTab (Av : Addr → Prop) (H : Hp) (ta : Addr) (tb : List (List Int)) : Prop := ∃ das : List Addr, H ta = some (.lst (das.map V.ref)) ∧ ¬ Av ta ∧ (∀ d ∈ das, ¬ Av d) ∧ Paired (IsInts H) das tb
theorem IsTab.mono {Av : Addr → Prop} {H H' : Hp} {ta : Addr} {tb : List (List Int)} (h : IsTab Av H ta tb) (k : ∀ b xs, ¬ Av b → H b = some (.lst xs) → H' b = some (.lst xs)) : IsTab Av H' ta tb := by
  obtain ⟨das, h1, h2, h3, h4⟩ := h
  refine ⟨das, k _ _ h2 h1, h2, h3, ?_⟩
  clear h1
  induction h4 with
  | nil => exact .nil
  | @cons a b l m e t ih => exact .cons (k _ _ (h3 a List.mem_cons_self) e) (ih fun d hd => h3 d (List.mem_cons_of_mem _ hd))
theorem IsTab.seqs {Av : Addr → Prop} {H H' : Hp} {ta : Addr} {tb : List (List Int)} (h : IsTab Av H ta tb) (s : Seqs H H') : IsTab Av H' ta tb := h.mono fun b xs _ e => s.2 b xs e
theorem IsTab.weak {Av Bv : Addr → Prop} {H : Hp} {ta : Addr} {tb : List (List Int)} (h : IsTab Av H ta tb) (k : ∀ b, Bv b → Av b) : IsTab Bv H ta tb := let ⟨das, h1, h2, h3, h4⟩ := h; ⟨das, h1, fun z => h2 (k _ z), fun d hd z => h3 d hd (k _ z), h4⟩
theorem IsTab.none {Av : Addr → Prop} {H : Hp} {ta : Addr} {tb : List (List Int)} (h : IsTab Av H ta tb) : IsTab (fun _ => False) H ta tb := h.weak fun _ z => z.elim
abbrev Old (H : Hp) : Addr → Prop := fun b => H b ≠ none
theorem IsTab.taped {tp : Addr} {H H' : Hp} {ta : Addr} {tb : List (List Int)} (h : IsTab (· = tp) H ta tb) (f : Taped tp H H') : IsTab (· = tp) H' ta tb := h.mono fun b xs n e => f.1 b _ n e
theorem Tape.old {H : Hp} {tp : Addr} (h : Tape H tp) : ∀ b, b = tp → Old H b := fun b e z => by
  obtain ⟨_, _, h1, _⟩ := h
  rw [e, h1] at z
  cases z
theorem dpTabs {K : PySem.W.Frag} {H : Hp} : ∀ {das : List Addr} {tb : List (List Int)}, Paired (IsInts H) das tb → DpAll K H (das.map V.ref) (tb.map fun l => .list (l.map .int))
  | _, _, .nil => .nil
  | _, _, .cons h t => .cons (.lst (.inl (.inl h)) (dpInts _)) (dpTabs t)
theorem dpTab {K : PySem.W.Frag} {Av : Addr → Prop} {H : Hp} {ta : Addr} {tb : List (List Int)} (h : IsTab Av H ta tb) : Dp K H (.ref ta) (listsD tb) := by
  obtain ⟨das, h1, _, _, h4⟩ := h
  exact .lst (.inl (.inl h1)) (dpTabs h4)
/-! ### logs and what a run tells -/
def IsEnt (H : Hp) (e : Addr) (x : Int × List Int) : Prop := ∃ r, H e = some (.tup [.int x.1, .ref r]) ∧ IsRow H r x.2
def IsLog (H : Hp) (la : Addr) (log : Log) : Prop := ∃ es : List Addr, H la = some (.lst (es.map V.ref)) ∧ Paired (IsEnt H) es log
theorem IsEnt.mono {H H' : Hp} {e : Addr} {x : Int × List Int} (h : IsEnt H e x) (t : Tups H H') : IsEnt H' e x := let ⟨r, h1, h2⟩ := h; ⟨r, t _ _ h1, t _ _ h2⟩
theorem IsLog.seqs {H H' : Hp} {la : Addr} {log : Log} (h : IsLog H la log) (s : Seqs H H') : IsLog H' la log := let ⟨es, h1, h2⟩ := h; ⟨es, s.2 _ _ h1, pairedMap (fun _ _ e => e.mono s.1) h2⟩
theorem IsLog.keep {H H' : Hp} {la : Addr} {log : Log} (h : IsLog H la log) (t : Tups H H') (k : ∀ xs, H la = some (.lst xs) → H' la = some (.lst xs)) : IsLog H' la log := let ⟨es, h1, h2⟩ := h; ⟨es, k _ h1, pairedMap (fun _ _ e => e.mono t) h2⟩
def entD (x : Int × List Int) : PyData := .tuple [.int x.1, rowD x.2]
def logD (log : Log) : PyData := .list (log.map entD)
def endS (b : Bool) : Str := if b = true then "kept" else "spent"
def resD (R : Res) : PyData := .tuple [.str (endS R.1), rowD R.2.1, logD R.2.2]
theorem dpEnts {K : PySem.W.Frag} {H : Hp} : ∀ {es : List Addr} {log : Log}, Paired (IsEnt H) es log → DpAll K H (es.map V.ref) (log.map entD)
  | _, _, .nil => .nil
  | _, _, .cons ⟨r, h1, h2⟩ t => .cons (.tup (.inl (.inl h1)) (.cons (.int _) (.cons (dpRow h2) .nil))) (dpEnts t)
theorem dpLog {K : PySem.W.Frag} {H : Hp} {la : Addr} {log : Log} (h : IsLog H la log) : Dp K H (.ref la) (logD log) := let ⟨es, h1, h2⟩ := h; .lst (.inl (.inl h1)) (dpEnts h2)
/-- what a run tells: the tuple, the filling and the log's list, which is new -/
def IsRes (H0 H : Hp) (t : Addr) (R : Res) : Prop := ∃ fa la, H t = some (.tup [.str (endS R.1), .ref fa, .ref la]) ∧ IsRow H fa R.2.1 ∧ IsLog H la R.2.2 ∧ H0 la = none
theorem dpRes {K : PySem.W.Frag} {H0 H : Hp} {t : Addr} {R : Res} (h : IsRes H0 H t R) : Dp K H (.ref t) (resD R) := let ⟨fa, la, h1, h2, h3, _⟩ := h; .tup (.inl (.inl h1)) (.cons (.str _) (.cons (dpRow h2) (.cons (dpLog h3) .nil)))
theorem IsRes.seqs {H0 H H' : Hp} {t : Addr} {R : Res} (h : IsRes H0 H t R) (s : Seqs H H') : IsRes H0 H' t R := let ⟨fa, la, h1, h2, h3, h4⟩ := h; ⟨fa, la, s.1 _ _ h1, s.1 _ _ h2, h3.seqs s, h4⟩
theorem IsRes.old {H0 H1 H : Hp} {t : Addr} {R : Res} (h : IsRes H1 H t R) (k : ∀ b, H1 b = none → H0 b = none) : IsRes H0 H t R := let ⟨fa, la, h1, h2, h3, h4⟩ := h; ⟨fa, la, h1, h2, h3, k _ h4⟩
/-- each log's pair is fine -/
theorem fine_ent {many hues : Int} {wds : List WD} (gr : GoodR many hues wds) {x : Int × List Int} (h : 0 ≤ x.1 ∧ x.1 < (wds.length : Int) ∧ ∃ wd, wds[x.1.toNat]? = some wd ∧ x.2 ∈ wd.2) : Fine (entD x) 3 80 := by
  obtain ⟨h0, h1, wd, hw, hr⟩ := h
  have e8 := gr.eight
  have g := gr.each wd (List.mem_of_getElem? hw)
  have a := fine_int (i := x.1) h0 (by omega)
  have b : Fine (rowD x.2) 2 64 := fine_row (fun z hz => ⟨((g.row _ hr).2 z hz).1, by have := ((g.row _ hr).2 z hz).2; have := gr.h4; omega⟩) (by have := (g.row _ hr).1; have := g.three; omega)
  exact (Fine.tuple (FineAll.cons (a.mono (by omega) (Nat.le_refl _)) (FineAll.cons b (FineAll.nil _)))).mono (Nat.le_refl _) (by omega)
theorem fine_log {many hues : Int} {wds : List WD} (gr : GoodR many hues wds) {log : Log} (h : LogOk wds log) (hl : log.length ≤ 6000) : Fine (logD log) 4 600000 :=
  (Fine.list (fineAll_map log fun x hx => fine_ent gr (h x hx))).mono (Nat.le_refl _) (by omega)
theorem fine_end (b : Bool) : Fine (.str (endS b)) 1 64 := by
  cases b <;> exact ⟨by decide +kernel, by decide +kernel, by decide +kernel, by decide +kernel, by decide +kernel, by decide +kernel⟩
theorem fine_res {many hues : Int} {wds : List WD} (gr : GoodR many hues wds) {R : Res} (gf : GoodF many hues R.2.1) (h : LogOk wds R.2.2) (hl : R.2.2.length ≤ 6000) : Fine (resD R) 5 700000 :=
  (Fine.tuple (FineAll.cons ((fine_end R.1).mono (by omega) (Nat.le_refl _)) (FineAll.cons ((fine_fill gf gr.m6 gr.h4).mono (by omega) (Nat.le_refl _)) (FineAll.cons (fine_log gr h hl) (FineAll.nil _))))).mono (Nat.le_refl _) (by omega)
theorem fine_tabT {many hues : Int} {tb : List (List Int)} (m6 : many ≤ 6) (h4 : hues ≤ 4) (g : GoodT many hues tb) : Fine (listsD tb) 3 100000 := by
  have hl := g.len
  refine (Fine.list (fineAll_map tb (n := 2) (w := 15000) fun l hm => (fine_ints fun z hz => ⟨(g.hue l hm z hz).1, by have := (g.hue l hm z hz).2; omega⟩).mono (Nat.le_refl _) (by have := g.few l hm; omega))).mono (Nat.le_refl _) ?_
  have : tb.length ≤ 6 := by omega
  omega
/-! ### equality of data -/
theorem eqv_str (a b : Str) : PyData.eqv (.str a) (.str b) = (a == b) := by simp [PyData.eqv]
end Rd
namespace Gx
open PySem PySem.Spec PyProof.Rows L2 GenW
theorem tup_zipL {K : PySem.W.Frag} {a b : Addr} {xs ys : List V} {g : TG} {tt : TT} {te : TE} {vs : List Nat} {σ : L2.St} {Q : List V → Hp → Prop} {H2 : Hp} (hl : xs.length = ys.length) (hz : xs.length ≤ sizeLine) (Pv : Nat → List V → Hp → Prop) (h0 : Pv 0 [] H2) (hq : ∀ i zs H, Pv i zs H → SqL K H a xs ∧ SqL K H b ys) (hy : ∀ i zs H, Pv i zs H → zs.length ≤ i)
    (hs : ∀ i x y T zs H, xs[i]? = some x → ys[i]? = some y → Pv i zs H → H T = none → g (.ref T) (wipe σ vs) (upd H T (.tup [x, y])) fun σ2 H2 => wipe σ2 vs = wipe σ vs ∧ tt σ2 H2 fun b H3 => if b = true then te σ2 H3 fun y H4 => Pv (i + 1) (zs ++ [y]) H4 else Pv (i + 1) zs H3) (hd : ∀ zs H, Pv xs.length zs H → Q zs H) :
    ∃ W : Nat → Nat → List V → Hp → Prop, (∃ m, W 0 m [] H2) ∧ TurnsC (Itz K a b) g tt te vs σ Q W := by
  refine ⟨fun i m zs H => m = xs.length - i ∧ i ≤ xs.length ∧ Pv i zs H, ⟨xs.length, by simp, Nat.zero_le _, h0⟩, ?_⟩
  rintro i m zs H ⟨rfl, hi, p⟩
  obtain ⟨qx, qy⟩ := hq i zs H p
  by_cases hlt : i < xs.length
  · have hx : xs[i]? = some xs[i] := List.getElem?_eq_getElem hlt
    have hlt2 : i < ys.length := by omega
    have hy2 : ys[i]? = some ys[i] := List.getElem?_eq_getElem hlt2
    refine .inr ⟨⟨xs, ys, _, _, qx, qy, hx, hy2⟩, Nat.lt_of_le_of_lt (hy i zs H p) (Nat.lt_of_lt_of_le hlt hz), Pv (i + 1), fun zs' H' p' => ⟨xs.length - (i + 1), by omega, rfl, hlt, p'⟩, fun v H' y => ?_⟩
    obtain ⟨T, x', y', rfl, hT, rfl, f1, f2⟩ := y
    exact hs i x' y' T zs H (f1 xs qx) (f2 ys qy) p hT
  · have e : i = xs.length := by omega
    subst e
    exact .inl ⟨⟨xs, ys, qx, qy, Or.inl (Nat.le_refl _)⟩, hd zs H p⟩
end Gx
namespace Rd
open PySem PySem.Spec PyProof.Rows L2 Dt
def leftAt (tb : List (List Int)) (tk : List Int) (p : Int) : List Int := (leftOf tb tk).getD p.toNat []
theorem leftAt_get {tb : List (List Int)} {tk : List Int} {p : Int} (g : GoodK tb tk) (h0 : 0 ≤ p) (h1 : p < (tb.length : Int)) : (leftOf tb tk)[p.toNat]? = some (leftAt tb tk p) := by
  have h : p.toNat < (leftOf tb tk).length := by rw [left_len g]; omega
  rw [leftAt, getD_get h]
  exact List.getElem?_eq_getElem h
theorem leftAt_nil {tb : List (List Int)} {tk : List Int} {p : Int} (g : GoodK tb tk) (h0 : 0 ≤ p) (h1 : p < (tb.length : Int)) : (leftAt tb tk p = []) ↔ ¬ (atF tk p + 1 < lenAt tb p) := by
  have hp : p.toNat < tb.length := by omega
  have e := left_get g hp
  rw [leftAt_get g h0 h1] at e
  rw [Option.some.inj e, List.drop_eq_nil_iff]
  have a := g.at_ _ hp
  unfold atF lenAt
  omega
theorem eqv_ints_nil (l : List Int) : PyData.eqv (.list (l.map .int)) (.list []) = decide (l = []) := by
  cases l with
  | nil => simp [PyData.eqv, PyData.eqvAll]
  | cons a r => simp [PyData.eqv, PyData.eqvAll]
theorem any_left {tb : List (List Int)} {tk : List Int} (g : GoodK tb tk) : ∀ ps : List Int, (∀ p ∈ ps, 0 ≤ p ∧ p < (tb.length : Int)) → ((ps.map fun p => PyData.list ((leftAt tb tk p).map .int)).any fun z => PyData.eqv z (.list [])) = !canN tb tk ps
  | [], _ => rfl
  | p :: r, h => by
    have hp := h p List.mem_cons_self
    rw [List.map_cons, List.any_cons, any_left g r fun q hq => h q (List.mem_cons_of_mem _ hq), eqv_ints_nil]
    unfold canN
    rw [List.all_cons, Bool.not_and]
    congr 1
    by_cases e : leftAt tb tk p = []
    · rw [decide_eq_true e, decide_eq_false ((leftAt_nil g hp.1 hp.2).mp e)]
      rfl
    · rw [decide_eq_false e, decide_eq_true (Classical.not_not.mp fun z => e ((leftAt_nil g hp.1 hp.2).mpr z))]
      rfl
theorem stand0 {many hues : Int} {tb : List (List Int)} (g : GoodT many hues tb) {i : Nat} {ds : List Int} (h : tb[i]? = some ds) : (stand tb (zerosI tb.length))[i]? = some (atF ds 0) := by
  have hi : i < tb.length := (List.getElem?_eq_some_iff.mp h).1
  rw [stand_get (zeros_good g) hi, zeros_get, List.getD_eq_getElem?_getD, h]
  rfl
theorem left0 {many hues : Int} {tb : List (List Int)} (g : GoodT many hues tb) {i : Nat} {ds : List Int} (h : tb[i]? = some ds) : (leftOf tb (zerosI tb.length))[i]? = some (ds.drop 1) := by
  have hi : i < tb.length := (List.getElem?_eq_some_iff.mp h).1
  rw [left_get (zeros_good g) hi, zeros_get, List.getD_eq_getElem?_getD, h]
  rfl
theorem paired_upd {H : Hp} {D : Addr} {o : HO} : ∀ {l : List Addr} {m : List (List Int)}, Paired (IsInts H) l m → (∀ d ∈ l, d ≠ D) → Paired (IsInts (upd H D o)) l m
  | _, _, .nil, _ => .nil
  | a :: _, _, .cons h t, n => .cons (by show upd H D o a = _; rw [upd_ne (n a List.mem_cons_self)]; exact h) (paired_upd t fun d hd => n d (List.mem_cons_of_mem _ hd))
theorem paired_set {α β : Type} {F : α → β → Prop} : ∀ {l : List α} {m : List β} {i : Nat} {a : α} {b : β}, Paired F l m → F a b → Paired F (l.set i a) (m.set i b)
  | _, _, _, _, _, .nil, _ => .nil
  | _, _, 0, _, _, .cons _ t, h => .cons h t
  | _, _, i + 1, _, _, .cons e t, h => .cons e (paired_set (i := i) t h)
theorem paired_fresh {H : Hp} {D : Addr} {l : List Addr} {m : List (List Int)} (p : Paired (IsInts H) l m) (n : H D = none) : ∀ d ∈ l, d ≠ D := fun d hd z => by
  obtain ⟨j, hj⟩ := List.getElem?_of_mem hd
  obtain ⟨row, _, e⟩ := pairedGetL p hj
  have e2 : H d = some (.lst (row.map V.int)) := e
  rw [z, n] at e2
  cases e2
end Rd
namespace Rd
open PySem PySem.Spec PyProof.Rows L2 Dt
/-! ### the script's list, the tape and the tables, together -/
def rListO (K : PySem.W.Frag) : List V → Hp → VK → Prop := fun xs H Q => ∃ p ys, xs = [.ref p] ∧ (SqL K H p ys ∨ SqT K H p ys) ∧ ∀ l, H l = none → Q (.ref l) (upd H l (.lst ys))
theorem sq_keep {K : PySem.W.Frag} {H H' : Hp} {a : Addr} {xs : List V} (h : SqL K H a xs) (k : ∀ o, H a = some o → H' a = some o) : SqL K H' a xs := by
  rcases h with (h | ⟨o, h⟩) | h
  · exact .inl (.inl (k _ h))
  · exact .inl (.inr ⟨o, k _ h⟩)
  · exact .inr h
theorem sq_new {K : PySem.W.Frag} {H : Hp} {a tp : Addr} {xs : List V} (h : SqL K H a xs) (n : H tp = none) (e : a = tp) (H' : Hp) : SqL K H' a xs := by
  rcases h with (h | ⟨o, h⟩) | h
  · rw [e, n] at h; cases h
  · rw [e, n] at h; cases h
  · exact .inr h
theorem Tabs.sq {K : PySem.W.Frag} {Ps : List Addr} {H H' : Hp} {a : Addr} {xs : List V} (t : Tabs Ps H) (f : FrS Ps H H') (h : SqL K H a xs) : SqL K H' a xs := by
  rcases h with (h | ⟨o, h⟩) | h
  · exact .inl (.inl (f.1 _ _ (t.lst h) h))
  · exact .inl (.inr ⟨o, f.1 _ _ (fun z => by obtain ⟨ps, q, _⟩ := t a z; rw [h] at q; cases q) h⟩)
  · exact .inr h
structure LI (K : PySem.W.Frag) (a : Addr) (xs : List V) (Ps : List Addr) (tp : Addr) (H : Hp) : Prop where
  tape : Tape H tp
  tabs : Tabs Ps H
  scr : SqL K H a xs
  far : a = tp → ∀ H', SqL K H' a xs
theorem LI.frs {K : PySem.W.Frag} {a : Addr} {xs : List V} {Ps : List Addr} {tp : Addr} {H H' : Hp} (h : LI K a xs Ps tp H) (f : FrS Ps H H') : LI K a xs Ps tp H' := ⟨h.tape.seqs (f.seqs h.tabs), f.2, h.tabs.sq f h.scr, h.far⟩
theorem LI.same {K : PySem.W.Frag} {a : Addr} {xs : List V} {Ps : List Addr} {tp : Addr} {H H' : Hp} (h : LI K a xs Ps tp H) (s : Same H H') : LI K a xs Ps tp H' := h.frs (FrS.of h.tabs s)
theorem LI.taped {K : PySem.W.Frag} {a : Addr} {xs : List V} {Ps : List Addr} {tp : Addr} {H H' : Hp} (h : LI K a xs Ps tp H) (f : Taped tp H H') : LI K a xs Ps tp H' := by
  refine ⟨f.2, f.tabs h.tape h.tabs, ?_, h.far⟩
  by_cases e : a = tp
  · exact h.far e H'
  · exact sq_keep h.scr fun o => f.1 a o e
theorem fine_eqv {d : PyData} {n w : Nat} (h : Fine d n w) : PyData.eqv d d = true := PySem.SeqAt.eqv_refl d h.lay
theorem pairedRep {α β : Type} {F : α → β → Prop} {a : α} {b : β} (h : F a b) : ∀ n : Nat, Paired F (List.replicate n a) (List.replicate n b)
  | 0 => .nil
  | n + 1 => .cons h (pairedRep h n)
theorem rep_flat {α : Type} (f : α → V) (a : α) (n : Nat) : (List.replicate n [f a]).flatten = (List.replicate n a).map f := by
  rw [List.map_replicate]
  induction n with
  | zero => rfl
  | succ n ih => rw [List.replicate_succ, List.flatten_cons, ih, List.replicate_succ]; rfl
theorem goodT_rep {many hues : Int} {tb : List (List Int)} {ds : List Int} (g : GoodT many hues tb) (h : ds ∈ tb) (m0 : 0 ≤ many) : GoodT many hues (List.replicate many.toNat ds) := by
  refine ⟨by rw [List.length_replicate]; omega, fun x hx => ?_, fun x hx => ?_, fun x hx => ?_⟩
  · rw [(List.mem_replicate.mp hx).2]; exact g.one ds h
  · rw [(List.mem_replicate.mp hx).2]; exact g.few ds h
  · rw [(List.mem_replicate.mp hx).2]; exact g.hue ds h
end Rd

set_option Elab.async false
set_option linter.all false
set_option maxRecDepth 100000
set_option maxHeartbeats 4000000
/-! runs step by step, and the draws told back -/
namespace Dt
open PySem PySem.Spec PyProof.Rows L2
inductive Steps (wds : List WD) (tb : List (List Int)) (ord : List Int) : List Int → Log → List Int → Log → Prop
  | refl (tk : List Int) (log : Log) : Steps wds tb ord tk log tk log
  | step {tk tk' : List Int} {log log' : Log} {k : Int} : firstB (stand tb tk) wds ord = some k → canN tb tk (plc wds k) = true → Steps wds tb ord (bumpA tk (plc wds k)) (log ++ [(k, huesA (stand tb tk) (plc wds k))]) tk' log' → Steps wds tb ord tk log tk' log'
/-- how a run ends -/
structure EndsAt (wds : List WD) (tb : List (List Int)) (ord : List Int) (tk : List Int) (b : Bool) : Prop where
  kept : b = true → firstB (stand tb tk) wds ord = none
  spent : b = false → ∃ k, firstB (stand tb tk) wds ord = some k ∧ canN tb tk (plc wds k) = false
theorem goR_steps {wds : List WD} {tb : List (List Int)} {ord : List Int} {R : Res} : ∀ (n : Nat) (tk : List Int) (log : Log), goR wds tb ord n tk log = some R → ∃ tkE, Steps wds tb ord tk log tkE R.2.2 ∧ R.2.1 = stand tb tkE ∧ EndsAt wds tb ord tkE R.1
  | 0, _, _, h => nomatch h
  | n + 1, tk, log, h => by
    rw [goR] at h
    cases e : firstB (stand tb tk) wds ord with
    | none =>
      rw [e] at h
      have z := Option.some.inj h
      rw [← z]
      exact ⟨tk, .refl _ _, rfl, fun _ => e, fun z => nomatch z⟩
    | some k =>
      rw [e] at h
      dsimp only at h
      cases c : canN tb tk (plc wds k) with
      | false =>
        rw [c, if_neg (by decide)] at h
        have z := Option.some.inj h
        rw [← z]
        exact ⟨tk, .refl _ _, rfl, (fun z => nomatch z), fun _ => ⟨k, e, c⟩⟩
      | true =>
        rw [c, if_pos rfl] at h
        obtain ⟨tkE, h1, h2, h3⟩ := goR_steps n _ _ h
        exact ⟨tkE, .step e c h1, h2, h3⟩
theorem steps_goR {wds : List WD} {tb : List (List Int)} {ord : List Int} {tk tk' : List Int} {log log' : Log} (s : Steps wds tb ord tk log tk' log') : ∃ c : Nat, ∀ m, goR wds tb ord (m + c) tk log = goR wds tb ord m tk' log' := by
  induction s with
  | refl tk log => exact ⟨0, fun m => rfl⟩
  | @step tk tk' log log' k e c s ih =>
    obtain ⟨n, hn⟩ := ih
    refine ⟨n + 1, fun m => ?_⟩
    show goR wds tb ord (m + n + 1) tk log = _
    rw [goR, e]
    dsimp only
    rw [c, if_pos rfl]
    exact hn m
theorem ends_goR {wds : List WD} {tb : List (List Int)} {ord : List Int} {tk : List Int} {b : Bool} (h : EndsAt wds tb ord tk b) (m : Nat) (log : Log) : goR wds tb ord (m + 1) tk log = some (b, stand tb tk, log) := by
  rw [goR]
  cases b with
  | true => rw [h.kept rfl]
  | false =>
    obtain ⟨k, h1, h2⟩ := h.spent rfl
    rw [h1]
    dsimp only
    rw [h2, if_neg (by decide)]
theorem goR_more {wds : List WD} {tb : List (List Int)} {ord : List Int} {R : Res} : ∀ (n : Nat) (tk : List Int) (log : Log) (m : Nat), goR wds tb ord n tk log = some R → goR wds tb ord (n + m) tk log = some R
  | 0, _, _, _, h => nomatch h
  | n + 1, tk, log, m, h => by
    rw [show n + 1 + m = (n + m) + 1 by omega]
    rw [goR] at h ⊢
    cases e : firstB (stand tb tk) wds ord with
    | none => rw [e] at h; exact h
    | some k =>
      rw [e] at h
      dsimp only at h ⊢
      cases c : canN tb tk (plc wds k) with
      | false => rw [c, if_neg (by decide)] at h; rw [if_neg (by decide)]; exact h
      | true =>
        rw [c, if_pos rfl] at h
        rw [if_pos rfl]
        exact goR_more n _ _ m h
theorem goR_one {wds : List WD} {tb : List (List Int)} {ord : List Int} {R R' : Res} {n n' : Nat} {tk : List Int} {log : Log} (h : goR wds tb ord n tk log = some R) (h' : goR wds tb ord n' tk log = some R') : R = R' := by
  have a := goR_more n tk log n' h
  have b := goR_more n' tk log n h'
  rw [Nat.add_comm] at b
  exact Option.some.inj (a.symm.trans b)
/-- a run by its steps -/
theorem runOf_of {many hues : Int} {wds : List WD} {tb : List (List Int)} {ord : List Int} (gr : GoodR many hues wds) (nd : ∀ wd ∈ wds, wd.1.Nodup) (gt : GoodT many hues tb) (go : GoodO wds.length ord) {tk : List Int} {log : Log} {b : Bool} (s : Steps wds tb ord (zerosI tb.length) [] tk log) (e : EndsAt wds tb ord tk b) : runOf wds tb ord = some (b, stand tb tk, log) := by
  obtain ⟨R, hR, _⟩ := runOf_some gr nd gt go
  obtain ⟨c, hc⟩ := steps_goR s
  have z := ends_goR e 0 log
  rw [← hc (0 + 1)] at z
  rw [hR]
  exact congrArg some (goR_one hR z)
theorem runOf_steps {wds : List WD} {tb : List (List Int)} {ord : List Int} {R : Res} (h : runOf wds tb ord = some R) : ∃ tkE, Steps wds tb ord (zerosI tb.length) [] tkE R.2.2 ∧ R.2.1 = stand tb tkE ∧ EndsAt wds tb ord tkE R.1 := goR_steps _ _ _ h
/-! ### what stays along steps -/
structure Fit (many hues : Int) (wds : List WD) (tb : List (List Int)) (ord : List Int) : Prop where
  gr : GoodR many hues wds
  nd : ∀ wd ∈ wds, wd.1.Nodup
  len : (tb.length : Int) = many
  go : GoodO wds.length ord
theorem can_fit {many hues : Int} {wds : List WD} {tb : List (List Int)} {tk : List Int} {ord : List Int} {k : Int} (f : Fit many hues wds tb ord) (e : firstB (stand tb tk) wds ord = some k) (h : canN tb tk (plc wds k) = true) : Can tb tk (plc wds k) ∧ ∃ wd, wds[k.toNat]? = some wd ∧ plc wds k = wd.1 ∧ brkAt (stand tb tk) wds k.toNat = true ∧ 0 ≤ k ∧ k < (wds.length : Int) := by
  obtain ⟨hk, hb⟩ := first_some e
  obtain ⟨k0, k1⟩ := f.go.mem k hk
  obtain ⟨wd, hw, he⟩ := wd_of k0 k1
  refine ⟨⟨?_, fun p hp => ?_, fun p hp => of_decide_eq_true (List.all_eq_true.mp h p hp)⟩, wd, hw, he, hb, k0, k1⟩
  · rw [he]; exact f.nd wd (List.mem_of_getElem? hw)
  · rw [he] at hp
    have := (f.gr.each wd (List.mem_of_getElem? hw)).pl p hp
    have := f.len
    omega
theorem steps_good {many hues : Int} {wds : List WD} {tb : List (List Int)} {ord : List Int} (f : Fit many hues wds tb ord) {tk tk' : List Int} {log log' : Log} (s : Steps wds tb ord tk log tk' log') (g : GoodK tb tk) : GoodK tb tk' := by
  induction s with
  | refl => exact g
  | step e c s ih => exact ih (bumpA_good g (can_fit f e c).1).1
theorem atF_bump (tk : List Int) (p q : Int) (h0 : 0 ≤ p) (h1 : p < (tk.length : Int)) (hq : 0 ≤ q) : atF (bump tk p.toNat) q = atF tk q + (if q = p then 1 else 0) := by
  unfold atF
  rw [bump_get]
  by_cases e : q = p
  · subst e
    rw [if_pos ⟨rfl, by omega⟩, if_pos rfl]
  · rw [if_neg (fun z => e (by omega)), if_neg e, Int.add_zero]
theorem atF_bumpA : ∀ (ps : List Int) (tk : List Int) (q : Int), ps.Nodup → (∀ p ∈ ps, 0 ≤ p ∧ p < (tk.length : Int)) → 0 ≤ q → atF (bumpA tk ps) q = atF tk q + (if q ∈ ps then 1 else 0)
  | [], tk, q, _, _, _ => by simp [bumpA]
  | p :: r, tk, q, nd, h, hq => by
    have hp := h p List.mem_cons_self
    have nd2 := List.nodup_cons.mp nd
    show atF (bumpA (bump tk p.toNat) r) q = _
    rw [atF_bumpA r (bump tk p.toNat) q nd2.2 (fun x hx => by rw [bump_len]; exact h x (List.mem_cons_of_mem _ hx)) hq, atF_bump tk p q hp.1 hp.2 hq]
    by_cases e : q = p
    · subst e
      rw [if_pos rfl, if_neg nd2.1, if_pos List.mem_cons_self]
      omega
    · rw [if_neg e, Int.add_zero]
      by_cases e2 : q ∈ r
      · rw [if_pos e2, if_pos (List.mem_cons_of_mem _ e2)]
      · rw [if_neg e2, if_neg (fun z => (List.mem_cons.mp z).elim e e2)]
def cntP (wds : List WD) (log : Log) (p : Int) : Nat := (log.filter fun e => decide (p ∈ plc wds e.1)).length
theorem cntP_snoc (wds : List WD) (log : Log) (e : Int × List Int) (p : Int) : cntP wds (log ++ [e]) p = cntP wds log p + (if p ∈ plc wds e.1 then 1 else 0) := by
  unfold cntP
  rw [List.filter_append, List.length_append]
  by_cases h : p ∈ plc wds e.1
  · simp [h]
  · simp [h]
theorem steps_cnt {many hues : Int} {wds : List WD} {tb : List (List Int)} {ord : List Int} (f : Fit many hues wds tb ord) {tk tk' : List Int} {log log' : Log} (s : Steps wds tb ord tk log tk' log') (g : GoodK tb tk) (h : ∀ p, 0 ≤ p → p < (tb.length : Int) → atF tk p = cntP wds log p) : ∀ p, 0 ≤ p → p < (tb.length : Int) → atF tk' p = cntP wds log' p := by
  induction s with
  | refl => exact h
  | @step tk tk' log log' k e c s ih =>
    have cf := (can_fit f e c).1
    refine ih (bumpA_good g cf).1 fun p p0 p1 => ?_
    rw [atF_bumpA _ _ _ cf.nd (fun x hx => by rw [g.len]; exact cf.pl x hx) p0, cntP_snoc, h p p0 p1]
    by_cases e2 : p ∈ plc wds k
    · rw [if_pos e2, if_pos e2]; rfl
    · rw [if_neg e2, if_neg e2]; rfl
theorem steps_le {many hues : Int} {wds : List WD} {tb : List (List Int)} {ord : List Int} (f : Fit many hues wds tb ord) {tk tk' : List Int} {log log' : Log} (s : Steps wds tb ord tk log tk' log') (g : GoodK tb tk) : ∀ p, 0 ≤ p → atF tk p ≤ atF tk' p := by
  induction s with
  | refl => exact fun _ _ => Int.le_refl _
  | @step tk tk' log log' k e c s ih =>
    intro p p0
    have cf := (can_fit f e c).1
    have a := ih (bumpA_good g cf).1 p p0
    rw [atF_bumpA _ _ _ cf.nd (fun x hx => by rw [g.len]; exact cf.pl x hx) p0] at a
    split at a <;> omega
theorem steps_pre {wds : List WD} {tb : List (List Int)} {ord : List Int} {tk tk' : List Int} {log log' : Log} (s : Steps wds tb ord tk log tk' log') : ∃ more, log' = log ++ more := by
  induction s with
  | refl => exact ⟨[], by rw [List.append_nil]⟩
  | step e c s ih =>
    obtain ⟨more, h⟩ := ih
    exact ⟨_, by rw [h, List.append_assoc]⟩
/-! ### tables that agree so far -/
structure Agree (tb tb' : List (List Int)) (tk : List Int) : Prop where
  len : tb'.length = tb.length
  long : ∀ p : Nat, p < tb.length → tk.getD p 0 < ((tb'.getD p []).length : Int)
  eq : ∀ p : Nat, p < tb.length → (tb'.getD p []).take ((tk.getD p 0).toNat + 1) = (tb.getD p []).take ((tk.getD p 0).toNat + 1)
theorem take_at {a b : List Int} {n j : Nat} (h : a.take (n + 1) = b.take (n + 1)) (hj : j ≤ n) : a.getD j 0 = b.getD j 0 := by
  have z := congrArg (fun l : List Int => l[j]?) h
  simp only [List.getElem?_take] at z
  rw [if_pos (by omega), if_pos (by omega)] at z
  rw [List.getD_eq_getElem?_getD, List.getD_eq_getElem?_getD, z]
theorem Agree.stand {tb tb' : List (List Int)} {tk tkE : List Int} (a : Agree tb tb' tkE) (g : GoodK tb tk) (h : ∀ p, 0 ≤ p → atF tk p ≤ atF tkE p) : stand tb' tk = stand tb tk := by
  have g' : GoodK tb' tk := by
    refine ⟨by rw [a.len]; exact g.len, fun p hp => ?_⟩
    rw [a.len] at hp
    have b := g.at_ p hp
    have c := a.long p hp
    have d := h p (by omega)
    unfold atF at d
    rw [Int.toNat_natCast] at d
    omega
  refine List.ext_getElem? fun i => ?_
  by_cases hi : i < tb.length
  · rw [stand_get g' (by rw [a.len]; exact hi), stand_get g hi]
    have b := g.at_ i hi
    have d := h i (by omega)
    unfold atF at d ⊢
    rw [Int.toNat_natCast] at d
    rw [take_at (a.eq i hi) (by omega)]
  · rw [List.getElem?_eq_none (by rw [stand_len g', a.len]; omega), List.getElem?_eq_none (by rw [stand_len g]; omega)]
theorem agree_good {tb tb' : List (List Int)} {tk tkE : List Int} (a : Agree tb tb' tkE) (g : GoodK tb tk) (h : ∀ p, 0 ≤ p → atF tk p ≤ atF tkE p) : GoodK tb' tk := by
  refine ⟨by rw [a.len]; exact g.len, fun p hp => ?_⟩
  rw [a.len] at hp
  have b := g.at_ p hp
  have c := a.long p hp
  have d := h p (by omega)
  unfold atF at d
  rw [Int.toNat_natCast] at d
  omega
theorem steps_agree {many hues : Int} {wds : List WD} {tb tb' : List (List Int)} {ord : List Int} (f : Fit many hues wds tb ord) {tk tkE : List Int} {log log' : Log} (s : Steps wds tb ord tk log tkE log') (g : GoodK tb tk) (a : Agree tb tb' tkE) : Steps wds tb' ord tk log tkE log' := by
  induction s with
  | refl => exact .refl _ _
  | @step tk tkE log log' k e c s ih =>
    have cf := (can_fit f e c).1
    have g2 := (bumpA_good g cf).1
    have le2 := steps_le f s g2
    have le1 := steps_le f (.step e c s) g
    have es := a.stand g le1
    have ih2 := ih g2 a
    refine .step (k := k) (by rw [es]; exact e) ?_ (by rw [es]; exact ih2)
    refine List.all_eq_true.mpr fun p hp => decide_eq_true ?_
    have pp := cf.pl p hp
    have b := le2 p pp.1
    rw [atF_bumpA _ _ _ cf.nd (fun x hx => by rw [g.len]; exact cf.pl x hx) pp.1, if_pos hp] at b
    have d := a.long p.toNat (by omega)
    unfold atF lenAt at *
    omega
/-! ### the draws told back -/
def app1 (tb : List (List Int)) (p : Nat) (h : Int) : List (List Int) := tb.set p (tb.getD p [] ++ [h])
def appA (tb : List (List Int)) (ps row : List Int) : List (List Int) := (ps.zip row).foldl (fun t x => app1 t x.1.toNat x.2) tb
def toldL (wds : List WD) (n : Nat) (log : Log) : List (List Int) := log.foldl (fun t e => appA t (plc wds e.1) e.2) (List.replicate n [])
def finA (tb : List (List Int)) (fs : List Int) (i : Nat) : List (List Int) := (List.range i).foldl (fun t j => app1 t j (fs.getD j 0)) tb
def toldT (wds : List WD) (fs : List Int) (log : Log) : List (List Int) := finA (toldL wds fs.length log) fs fs.length
def takes (tb : List (List Int)) (tk : List Int) : List (List Int) := List.zipWith (fun ds k => ds.take k.toNat) tb tk
def firsts (tb : List (List Int)) (tk : List Int) : List (List Int) := List.zipWith (fun ds k => ds.take (k.toNat + 1)) tb tk
theorem app1_len (tb : List (List Int)) (p : Nat) (h : Int) : (app1 tb p h).length = tb.length := by simp [app1]
theorem app1_get (tb : List (List Int)) (p i : Nat) (h : Int) : (app1 tb p h).getD i [] = if i = p ∧ p < tb.length then tb.getD p [] ++ [h] else tb.getD i [] := by
  unfold app1
  rw [List.getD_eq_getElem?_getD, List.getElem?_set]
  by_cases e : p = i
  · subst e
    by_cases h2 : p < tb.length
    · rw [if_pos rfl, if_pos h2, if_pos ⟨rfl, h2⟩]; rfl
    · rw [if_pos rfl, if_neg h2, if_neg (fun z => h2 z.2), List.getD_eq_getElem?_getD, List.getElem?_eq_none (by omega)]
  · rw [if_neg e, if_neg (fun z => e z.1.symm), List.getD_eq_getElem?_getD]
theorem appA_len : ∀ (ps row : List Int) (tb : List (List Int)), (appA tb ps row).length = tb.length
  | [], _, _ => rfl
  | _ :: _, [], _ => rfl
  | p :: r, h :: q, tb => by
    show (appA (app1 tb p.toNat h) r q).length = _
    rw [appA_len r q, app1_len]
theorem toldL_len (wds : List WD) (n : Nat) : ∀ log : Log, (toldL wds n log).length = n := fun log => by
  unfold toldL
  have : ∀ (log : Log) (tb : List (List Int)), (log.foldl (fun t e => appA t (plc wds e.1) e.2) tb).length = tb.length := by
    intro log
    induction log with
    | nil => intro _; rfl
    | cons e r ih => intro tb; rw [List.foldl_cons, ih, appA_len]
  rw [this, List.length_replicate]
theorem toldL_snoc (wds : List WD) (n : Nat) (log : Log) (e : Int × List Int) : toldL wds n (log ++ [e]) = appA (toldL wds n log) (plc wds e.1) e.2 := by
  unfold toldL
  rw [List.foldl_append]
  rfl
theorem finA_succ (tb : List (List Int)) (fs : List Int) (i : Nat) : finA tb fs (i + 1) = app1 (finA tb fs i) i (fs.getD i 0) := by
  unfold finA
  rw [List.range_succ, List.foldl_append]
  rfl
theorem finA_len (tb : List (List Int)) (fs : List Int) : ∀ i : Nat, (finA tb fs i).length = tb.length
  | 0 => rfl
  | i + 1 => by rw [finA_succ, app1_len, finA_len tb fs i]
theorem finA_get (tb : List (List Int)) (fs : List Int) : ∀ (i q : Nat), i ≤ tb.length → (finA tb fs i).getD q [] = if q < i then tb.getD q [] ++ [fs.getD q 0] else tb.getD q []
  | 0, q, _ => by rw [if_neg (Nat.not_lt_zero _)]; rfl
  | i + 1, q, h => by
    rw [finA_succ, app1_get, finA_len, finA_get tb fs i q (by omega), finA_get tb fs i i (by omega)]
    by_cases e : q = i
    · subst e
      rw [if_pos ⟨rfl, by omega⟩, if_neg (Nat.lt_irrefl _), if_pos (Nat.lt_succ_self _)]
    · rw [if_neg (fun z => e z.1)]
      by_cases e2 : q < i
      · rw [if_pos e2, if_pos (by omega)]
      · rw [if_neg e2, if_neg (by omega)]
theorem toldT_len (wds : List WD) (fs : List Int) (log : Log) : (toldT wds fs log).length = fs.length := by
  rw [toldT, finA_len, toldL_len]
theorem toldT_get (wds : List WD) (fs : List Int) (log : Log) {q : Nat} (h : q < fs.length) : (toldT wds fs log).getD q [] = (toldL wds fs.length log).getD q [] ++ [fs.getD q 0] := by
  rw [toldT, finA_get _ _ _ _ (by rw [toldL_len]; exact Nat.le_refl _), if_pos h]
theorem takes_len {tb : List (List Int)} {tk : List Int} (g : GoodK tb tk) : (takes tb tk).length = tb.length := by
  unfold takes
  rw [List.length_zipWith, g.len, Nat.min_self]
theorem takes_get {tb : List (List Int)} {tk : List Int} (g : GoodK tb tk) {p : Nat} (hp : p < tb.length) : (takes tb tk)[p]? = some ((tb.getD p []).take (tk.getD p 0).toNat) := by
  have h2 : p < tk.length := by rw [g.len]; exact hp
  unfold takes
  rw [List.getElem?_zipWith, List.getElem?_eq_getElem hp, List.getElem?_eq_getElem h2, getD_get hp, getD_get h2]
theorem firsts_len {tb : List (List Int)} {tk : List Int} (g : GoodK tb tk) : (firsts tb tk).length = tb.length := by
  unfold firsts
  rw [List.length_zipWith, g.len, Nat.min_self]
theorem firsts_get {tb : List (List Int)} {tk : List Int} (g : GoodK tb tk) {p : Nat} (hp : p < tb.length) : (firsts tb tk)[p]? = some ((tb.getD p []).take ((tk.getD p 0).toNat + 1)) := by
  have h2 : p < tk.length := by rw [g.len]; exact hp
  unfold firsts
  rw [List.getElem?_zipWith, List.getElem?_eq_getElem hp, List.getElem?_eq_getElem h2, getD_get hp, getD_get h2]
theorem getD_of {α : Type} {l : List α} {i : Nat} {a d : α} (h : l[i]? = some a) : l.getD i d = a := by
  rw [List.getD_eq_getElem?_getD, h]
  rfl
theorem take1 {tb : List (List Int)} {tk : List Int} {p : Nat} (g : GoodK tb tk) (hp : p < tb.length) (h : tk.getD p 0 + 1 < ((tb.getD p []).length : Int)) : app1 (takes tb tk) p (atF (tb.getD p []) (tk.getD p 0)) = takes tb (bump tk p) := by
  have g2 := good_bump g hp h
  have a := g.at_ p hp
  refine List.ext_getElem? fun i => ?_
  unfold app1
  rw [List.getElem?_set]
  by_cases hi : i < tb.length
  · rw [takes_get g2 hi, bump_get]
    by_cases e : p = i
    · subst e
      rw [if_pos rfl, if_pos (by rw [takes_len g]; exact hp), if_pos ⟨rfl, by rw [g.len]; exact hp⟩, getD_of (takes_get g hp)]
      have en : (tk.getD p 0 + 1).toNat = (tk.getD p 0).toNat + 1 := by omega
      have hl : (tk.getD p 0).toNat < (tb.getD p []).length := by omega
      rw [en, List.take_add_one, atF, getD_get hl, List.getElem?_eq_getElem hl]
      rfl
    · rw [if_neg e, if_neg (fun z => e z.1.symm), takes_get g hi]
  · rw [if_neg (by omega), List.getElem?_eq_none (by rw [takes_len g]; omega), List.getElem?_eq_none (by rw [takes_len g2]; omega)]
theorem takeA : ∀ (ps : List Int) {tb : List (List Int)} {tk : List Int} (w : Int → Int), GoodK tb tk → Can tb tk ps → (∀ p ∈ ps, w p = atF (tb.getD p.toNat []) (atF tk p)) → appA (takes tb tk) ps (ps.map w) = takes tb (bumpA tk ps)
  | [], _, _, _, _, _, _ => rfl
  | p :: r, tb, tk, w, g, c, h => by
    have hp := c.pl p List.mem_cons_self
    have hn := c.nx p List.mem_cons_self
    have hpn : p.toNat < tb.length := by omega
    show appA (app1 (takes tb tk) p.toNat (w p)) r (r.map w) = takes tb (bumpA (bump tk p.toNat) r)
    rw [h p List.mem_cons_self, show atF tk p = tk.getD p.toNat 0 from rfl, take1 g hpn hn]
    refine takeA r w (good_bump g hpn hn) c.tail fun q hq => ?_
    have hq2 := c.pl q (List.mem_cons_of_mem _ hq)
    have hne : q ≠ p := fun z => (List.nodup_cons.mp c.nd).1 (z ▸ hq)
    rw [h q (List.mem_cons_of_mem _ hq), atF_bump tk p q hp.1 (by rw [g.len]; exact hp.2) hq2.1, if_neg hne, Int.add_zero]
theorem steps_told {many hues : Int} {wds : List WD} {tb : List (List Int)} {ord : List Int} (f : Fit many hues wds tb ord) {tk tk' : List Int} {log log' : Log} (s : Steps wds tb ord tk log tk' log') (g : GoodK tb tk) (h : toldL wds tb.length log = takes tb tk) : toldL wds tb.length log' = takes tb tk' := by
  induction s with
  | refl => exact h
  | @step tk tk' log log' k e c s ih =>
    have cf := (can_fit f e c).1
    refine ih (bumpA_good g cf).1 ?_
    rw [toldL_snoc, h]
    refine takeA _ _ g cf fun p hp => ?_
    have pp := cf.pl p hp
    have hpn : p.toNat < tb.length := by omega
    show atF (stand tb tk) p = _
    rw [atF, getD_of (stand_get g hpn)]
    rfl
theorem told_end {wds : List WD} {tb : List (List Int)} {tk : List Int} {log : Log} (g : GoodK tb tk) (h : toldL wds tb.length log = takes tb tk) : toldT wds (stand tb tk) log = firsts tb tk := by
  refine List.ext_getElem? fun i => ?_
  by_cases hi : i < tb.length
  · have hs : i < (stand tb tk).length := by rw [stand_len g]; exact hi
    have e := toldT_get wds (stand tb tk) log hs
    rw [stand_len g, h, getD_of (takes_get g hi), getD_of (stand_get g hi)] at e
    have hl : i < (toldT wds (stand tb tk) log).length := by rw [toldT_len]; exact hs
    rw [getD_get hl] at e
    rw [List.getElem?_eq_getElem hl, e, firsts_get g hi]
    have a := g.at_ i hi
    have hl2 : (tk.getD i 0).toNat < (tb.getD i []).length := by omega
    rw [List.take_add_one, atF, getD_get hl2, List.getElem?_eq_getElem hl2]
    rfl
  · rw [List.getElem?_eq_none (by rw [toldT_len, stand_len g]; omega), List.getElem?_eq_none (by rw [firsts_len g]; omega)]
theorem takes_zero {tb : List (List Int)} : toldL wds tb.length [] = takes tb (zerosI tb.length) := by
  show List.replicate tb.length [] = _
  unfold takes zerosI
  refine List.ext_getElem? fun i => ?_
  rw [List.getElem?_zipWith, List.getElem?_replicate, List.getElem?_replicate]
  by_cases hi : i < tb.length
  · rw [if_pos hi, if_pos hi, List.getElem?_eq_getElem hi]
    rfl
  · rw [if_neg hi, if_neg hi, List.getElem?_eq_none (by omega)]
/-- all of a run -/
structure RunEnd (many hues : Int) (wds : List WD) (tb : List (List Int)) (ord : List Int) (R : Res) (tk : List Int) : Prop where
  gk : GoodK tb tk
  st : Steps wds tb ord (zerosI tb.length) [] tk R.2.2
  fs : R.2.1 = stand tb tk
  en : EndsAt wds tb ord tk R.1
  told : toldT wds R.2.1 R.2.2 = firsts tb tk
  cnt : ∀ p, 0 ≤ p → p < (tb.length : Int) → atF tk p = cntP wds R.2.2 p
theorem runEnd_of {many hues : Int} {wds : List WD} {tb : List (List Int)} {ord : List Int} {R : Res} (gr : GoodR many hues wds) (nd : ∀ wd ∈ wds, wd.1.Nodup) (gt : GoodT many hues tb) (go : GoodO wds.length ord) (h : runOf wds tb ord = some R) : ∃ tk, RunEnd many hues wds tb ord R tk := by
  obtain ⟨tk, s, e, en⟩ := runOf_steps h
  have f : Fit many hues wds tb ord := ⟨gr, nd, gt.len, go⟩
  have g0 := zeros_good gt
  have gk := steps_good f s g0
  refine ⟨tk, gk, s, e, en, ?_, steps_cnt f s g0 fun p p0 _ => ?_⟩
  · rw [e]
    exact told_end gk (steps_told f s g0 takes_zero)
  · unfold atF
    rw [zeros_get]
    rfl
theorem firsts_good {many hues : Int} {tb : List (List Int)} {tk : List Int} (gt : GoodT many hues tb) (g : GoodK tb tk) : GoodT many hues (firsts tb tk) := by
  have key : ∀ ds ∈ firsts tb tk, ∃ d ∈ tb, ∃ n, ds = d.take (n + 1) := fun ds h => by
    obtain ⟨i, hi, e⟩ := List.getElem_of_mem h
    rw [firsts_len g] at hi
    have z := firsts_get g hi
    rw [List.getElem?_eq_getElem (by rw [firsts_len g]; exact hi), e] at z
    exact ⟨_, getD_mem hi, _, Option.some.inj z⟩
  refine ⟨by rw [firsts_len g]; exact gt.len, fun ds h => ?_, fun ds h => ?_, fun ds h z hz => ?_⟩
  · obtain ⟨d, hd, n, rfl⟩ := key ds h
    have := gt.one d hd
    rw [List.length_take]
    omega
  · obtain ⟨d, hd, n, rfl⟩ := key ds h
    have := gt.few d hd
    rw [List.length_take]
    omega
  · obtain ⟨d, hd, n, rfl⟩ := key ds h
    exact gt.hue d hd z (List.mem_of_mem_take hz)
theorem firsts_agree {tb : List (List Int)} {tk : List Int} (g : GoodK tb tk) : Agree tb (firsts tb tk) tk := by
  refine ⟨firsts_len g, fun p hp => ?_, fun p hp => ?_⟩
  · rw [getD_of (firsts_get g hp), List.length_take]
    have := g.at_ p hp
    omega
  · rw [getD_of (firsts_get g hp), List.take_take, Nat.min_self]
/-- the run of the draws taken alone -/
theorem run_firsts {many hues : Int} {wds : List WD} {tb : List (List Int)} {ord : List Int} {R : Res} {tk : List Int} (gr : GoodR many hues wds) (nd : ∀ wd ∈ wds, wd.1.Nodup) (gt : GoodT many hues tb) (go : GoodO wds.length ord) (e : RunEnd many hues wds tb ord R tk) : runOf wds (firsts tb tk) ord = some R := by
  have f : Fit many hues wds tb ord := ⟨gr, nd, gt.len, go⟩
  have ag := firsts_agree e.gk
  have s' := steps_agree f e.st (zeros_good gt) ag
  have es : stand (firsts tb tk) tk = stand tb tk := ag.stand e.gk fun _ _ => Int.le_refl _
  have s2 : Steps wds (firsts tb tk) ord (zerosI (firsts tb tk).length) [] tk R.2.2 := by rw [firsts_len e.gk]; exact s'
  have z := runOf_of gr nd (firsts_good gt e.gk) go (b := R.1) s2 ⟨fun b => by rw [es]; exact e.en.kept b, fun b => by
    obtain ⟨k, h1, h2⟩ := e.en.spent b
    refine ⟨k, by rw [es]; exact h1, ?_⟩
    obtain ⟨hk, hb⟩ := first_some h1
    obtain ⟨k0, k1⟩ := go.mem k hk
    obtain ⟨wd, hw, he⟩ := wd_of k0 k1
    have gw := gr.each wd (List.mem_of_getElem? hw)
    obtain ⟨p, hp⟩ := List.exists_mem_of_length_pos (show 0 < wd.1.length from gw.one)
    rw [canN, List.all_eq_false]
    refine ⟨p, by rw [he]; exact hp, ?_⟩
    have pp := gw.pl p hp
    have hl := gt.len
    have hpn : p.toNat < tb.length := by omega
    have a := e.gk.at_ _ hpn
    rw [decide_eq_true_eq, lenAt, getD_of (firsts_get e.gk hpn), List.length_take]
    unfold atF
    omega⟩
  rw [z, es, ← e.fs]
/-- the run of a table that goes on -/
theorem run_longer {many hues : Int} {wds : List WD} {tb tb' : List (List Int)} {ord : List Int} {R R' : Res} {tk : List Int} (gr : GoodR many hues wds) (nd : ∀ wd ∈ wds, wd.1.Nodup) (gt : GoodT many hues tb) (gt' : GoodT many hues tb') (go : GoodO wds.length ord) (e : RunEnd many hues wds tb ord R tk) (hR' : runOf wds tb' ord = some R')
    (pre : ∀ p : Nat, p < tb.length → ∃ more, tb'.getD p [] = tb.getD p [] ++ more) : (R.1 = true → R' = R) ∧ ∃ more, R'.2.2 = R.2.2 ++ more := by
  have f : Fit many hues wds tb ord := ⟨gr, nd, gt.len, go⟩
  have hl := gt.len
  have hl' := gt'.len
  have ag : Agree tb tb' tk := by
    refine ⟨by omega, fun p hp => ?_, fun p hp => ?_⟩
    · obtain ⟨more, hm⟩ := pre p hp
      have a := e.gk.at_ p hp
      rw [hm, List.length_append]
      omega
    · obtain ⟨more, hm⟩ := pre p hp
      have a := e.gk.at_ p hp
      rw [hm, List.take_append_of_le_length (by omega)]
  have s' := steps_agree f e.st (zeros_good gt) ag
  have es : stand tb' tk = stand tb tk := ag.stand e.gk fun _ _ => Int.le_refl _
  rw [← ag.len] at s'
  refine ⟨fun b => ?_, ?_⟩
  · have z := runOf_of gr nd gt' go (b := R.1) s' ⟨fun b => by rw [es]; exact e.en.kept b, fun z => by rw [b] at z; cases z⟩
    rw [hR', es, ← e.fs] at z
    exact Option.some.inj z
  · obtain ⟨c, hc⟩ := steps_goR s'
    have a := goR_more _ _ _ c hR'
    rw [hc] at a
    obtain ⟨tkE, s2, _⟩ := goR_steps _ _ _ a
    exact steps_pre s2
end Dt

set_option Elab.async false
set_option linter.all false
set_option maxRecDepth 100000
set_option maxHeartbeats 4000000
namespace Rd
open PySem PySem.Spec PyProof.Rows L2 Dt
/-- a statement that is never come to -/
theorem ps_never {X : Cx} {st : Stmt} : PS X st (fun _ _ _ => False) := ⟨fun _ _ _ _ _ _ h => h.elim⟩
/-! ### lists within one that are changed -/
theorem paired_mod {H : Hp} {d : Addr} {l' : List Int} : ∀ {das : List Addr} {T : List (List Int)} {p : Nat}, Paired (IsInts H) das T → das.Nodup → das[p]? = some d → Paired (IsInts (upd H d (.lst (l'.map V.int)))) das (T.set p l')
  | _, _, p, .nil, _, h => by simp at h
  | a :: r, l :: q, 0, .cons h t, nd, e => by
    have ea : a = d := Option.some.inj e
    subst ea
    have nd2 := List.nodup_cons.mp nd
    exact .cons (by show upd H a _ a = _; exact upd_same) (paired_upd t fun x hx (z : x = a) => nd2.1 (by rw [← z]; exact hx))
  | a :: r, l :: q, p + 1, .cons h t, nd, e => by
    have nd2 := List.nodup_cons.mp nd
    have hm : d ∈ r := List.mem_of_getElem? (show r[p]? = some d from e)
    exact .cons (by show upd H d _ a = _; rw [upd_ne (fun z : a = d => nd2.1 (by rw [z]; exact hm))]; exact h) (paired_mod t nd2.2 e)
theorem paired_len_upd {H : Hp} {D : Addr} {o : HO} {das : List Addr} {T : List (List Int)} (p : Paired (IsInts H) das T) (n : D ∉ das) : Paired (IsInts (upd H D o)) das T := paired_upd p fun d hd (z : d = D) => n (by rw [← z]; exact hd)
/-- a new list of new lists, no two one -/
structure NewTab (H H' : Hp) (ta : Addr) (das : List Addr) (T : List (List Int)) : Prop where
  ht : H' ta = some (.lst (das.map V.ref))
  nt : H ta = none
  nd : das.Nodup
  new : ∀ d ∈ das, H d = none ∧ d ≠ ta
  pr : Paired (IsInts H') das T
theorem NewTab.tab {H H' : Hp} {ta : Addr} {das : List Addr} {T : List (List Int)} (h : NewTab H H' ta das T) : IsTab (Old H) H' ta T := ⟨das, h.ht, fun z => z h.nt, fun d hd z => z (h.new d hd).1, h.pr⟩
theorem NewTab.app {H H' : Hp} {ta : Addr} {das : List Addr} {T : List (List Int)} {p : Nat} {d : Addr} {l : List Int} {x : Int} (h : NewTab H H' ta das T) (hd : das[p]? = some d) (hl : T[p]? = some l) : NewTab H (upd H' d (.lst ((l ++ [x]).map V.int))) ta das (app1 T p x) := by
  have hm := List.mem_of_getElem? hd
  refine ⟨by rw [upd_ne (h.new d hm).2.symm]; exact h.ht, h.nt, h.nd, h.new, ?_⟩
  unfold app1
  rw [getD_of hl]
  exact paired_mod h.pr h.nd hd
theorem NewTab.mono {H H' H2 : Hp} {ta : Addr} {das : List Addr} {T : List (List Int)} (h : NewTab H H' ta das T) (s : Seqs H' H2) : NewTab H H2 ta das T := ⟨s.2 _ _ h.ht, h.nt, h.nd, h.new, pairedMap (fun _ _ e => s.2 _ _ e) h.pr⟩
/-! ### how long told draws are -/
theorem app1_le (T : List (List Int)) (p q : Nat) (h : Int) : ((app1 T p h).getD q []).length ≤ (T.getD q []).length + 1 := by
  rw [app1_get]
  split
  · rename_i e
    rw [e.1, List.length_append]
    exact Nat.le_refl _
  · omega
theorem appA_le : ∀ (ps row : List Int) (T : List (List Int)) (q : Nat), ((appA T ps row).getD q []).length ≤ (T.getD q []).length + ps.length
  | [], _, _, _ => Nat.le_refl _
  | _ :: _, [], _, _ => Nat.le_add_right _ _
  | p :: r, h :: s, T, q => by
    have a := appA_le r s (app1 T p.toNat h) q
    have b := app1_le T p.toNat q h
    show ((appA (app1 T p.toNat h) r s).getD q []).length ≤ _
    rw [List.length_cons]
    omega
theorem appA_snoc (T : List (List Int)) : ∀ {ps row : List Int} {j : Nat} {p h : Int}, ps[j]? = some p → row[j]? = some h → appA T (ps.take (j + 1)) (row.take (j + 1)) = app1 (appA T (ps.take j) (row.take j)) p.toNat h := by
  intro ps row j p h hp hh
  unfold appA
  have e : (ps.take (j + 1)).zip (row.take (j + 1)) = (ps.take j).zip (row.take j) ++ [(p, h)] := by
    rw [take_snoc hp, take_snoc hh]
    rw [List.zip_append]
    · rfl
    · rw [List.length_take, List.length_take]
      have a := (List.getElem?_eq_some_iff.mp hp).1
      have b := (List.getElem?_eq_some_iff.mp hh).1
      omega
  rw [e, List.foldl_append]
  rfl
theorem toldL_le {wds : List WD} (h3 : ∀ wd ∈ wds, wd.1.length ≤ 3) (n q : Nat) : ∀ log : Log, ((toldL wds n log).getD q []).length ≤ 3 * log.length := by
  have pl3 : ∀ k : Int, (plc wds k).length ≤ 3 := fun k => by
    unfold plc
    rw [List.getD_eq_getElem?_getD]
    cases e : wds[k.toNat]? with
    | none => simp
    | some wd => exact h3 wd (List.mem_of_getElem? e)
  have key : ∀ (log : Log) (T : List (List Int)), ((log.foldl (fun t e => appA t (plc wds e.1) e.2) T).getD q []).length ≤ (T.getD q []).length + 3 * log.length := by
    intro log
    induction log with
    | nil => intro T; exact Nat.le_refl _
    | cons e r ih =>
      intro T
      rw [List.foldl_cons, List.length_cons]
      have a := ih (appA T (plc wds e.1) e.2)
      have b := appA_le (plc wds e.1) e.2 T q
      have c := pl3 e.1
      omega
  intro log
  have a := key log (List.replicate n [])
  have b : ((List.replicate n ([] : List Int)).getD q []).length = 0 := by
    rw [List.getD_eq_getElem?_getD, List.getElem?_replicate]
    split <;> rfl
  unfold toldL
  omega
/-! ### logs looked at -/
def entB (wds : List WD) (x : Int × List Int) : Bool := decide (0 ≤ x.1 ∧ x.1 < (wds.length : Int) ∧ x.2 ∈ (wds.getD x.1.toNat ([], [])).2)
def logB (wds : List WD) (log : Log) : Bool := log.all (entB wds)
theorem logB_ok {wds : List WD} {log : Log} (h : logB wds log = true) : LogOk wds log := fun e he => by
  obtain ⟨h0, h1, h2⟩ := of_decide_eq_true (List.all_eq_true.mp h e he)
  have hk : e.1.toNat < wds.length := by omega
  rw [getD_get hk] at h2
  exact ⟨h0, h1, _, List.getElem?_eq_getElem hk, h2⟩
theorem logB_of {wds : List WD} {log : Log} (h : LogOk wds log) : logB wds log = true := List.all_eq_true.mpr fun e he => by
  obtain ⟨h0, h1, wd, hw, hr⟩ := h e he
  exact decide_eq_true ⟨h0, h1, by rw [getD_of hw]; exact hr⟩
theorem shaped_row (r : Dt.Row) : SeqAt.shaped (rowD r) = true := by
  have a : ∀ l : List Int, PyData.canLayAll0 (l.map .int) = true := Gv.canAll_ints
  have b : ∀ l : List Int, PyData.depthAll (l.map .int) ≤ 1 := fun l => by
    induction l with
    | nil => simp [PyData.depthAll]
    | cons x q ih => simp only [List.map_cons, PyData.depthAll, PyData.depth]; omega
  show ((rowD r).canLay0 && decide ((rowD r).depth ≤ 64)) = true
  have d : (rowD r).depth ≤ 64 := by
    unfold rowD
    simp only [PyData.depth]
    have := b r
    omega
  have c : (rowD r).canLay0 = true := by
    unfold rowD
    simp only [PyData.canLay0]
    exact a r
  rw [c, decide_eq_true d]
  rfl
theorem row_hue {many hues : Int} {wds : List WD} (gr : GoodR many hues wds) {log : Log} (h : LogOk wds log) : ∀ e ∈ log, ∀ z ∈ e.2, 0 ≤ z ∧ z < hues := fun e he z hz => by
  obtain ⟨_, _, wd, hw, hr⟩ := h e he
  exact ((gr.each wd (List.mem_of_getElem? hw)).row _ hr).2 z hz
theorem app1_all {Pz : Int → Prop} {T : List (List Int)} {p : Nat} {x : Int} (h : ∀ l ∈ T, ∀ z ∈ l, Pz z) (hx : Pz x) : ∀ l ∈ app1 T p x, ∀ z ∈ l, Pz z := fun l hl z hz => by
  rcases List.mem_or_eq_of_mem_set hl with e | e
  · exact h l e z hz
  · rw [e] at hz
    rcases List.mem_append.mp hz with q | q
    · by_cases hp : p < T.length
      · exact h _ (getD_mem (d := []) hp) z q
      · rw [List.getD_eq_getElem?_getD, List.getElem?_eq_none (by omega)] at q
        cases q
    · rw [List.mem_singleton.mp q]; exact hx
theorem appA_all {Pz : Int → Prop} : ∀ (ps row : List Int) (T : List (List Int)), (∀ l ∈ T, ∀ z ∈ l, Pz z) → (∀ z ∈ row, Pz z) → ∀ l ∈ appA T ps row, ∀ z ∈ l, Pz z
  | [], _, _, h, _ => h
  | _ :: _, [], _, h, _ => h
  | p :: r, x :: s, T, h, hr => appA_all r s (app1 T p.toNat x) (app1_all h (hr x List.mem_cons_self)) fun z hz => hr z (List.mem_cons_of_mem _ hz)
theorem toldL_all {Pz : Int → Prop} (wds : List WD) (n : Nat) : ∀ log : Log, (∀ e ∈ log, ∀ z ∈ e.2, Pz z) → ∀ l ∈ toldL wds n log, ∀ z ∈ l, Pz z := by
  have key : ∀ (log : Log) (T : List (List Int)), (∀ l ∈ T, ∀ z ∈ l, Pz z) → (∀ e ∈ log, ∀ z ∈ e.2, Pz z) → ∀ l ∈ log.foldl (fun t e => appA t (plc wds e.1) e.2) T, ∀ z ∈ l, Pz z := by
    intro log
    induction log with
    | nil => intro T h _; exact h
    | cons e r ih =>
      intro T h hl
      rw [List.foldl_cons]
      exact ih _ (appA_all _ _ _ h (hl e List.mem_cons_self)) fun x hx => hl x (List.mem_cons_of_mem _ hx)
  intro log h
  refine key log _ (fun l hl z hz => ?_) h
  rw [(List.mem_replicate.mp hl).2] at hz
  cases hz
theorem told_good {many hues : Int} {wds : List WD} (gr : GoodR many hues wds) {fs : List Int} {log : Log} (gf : GoodF many hues fs) (h : LogOk wds log) (few : ∀ ds ∈ toldT wds fs log, ds.length ≤ 1000) : GoodT many hues (toldT wds fs log) := by
  have each : ∀ ds ∈ toldT wds fs log, ∃ q, q < fs.length ∧ ds = (toldL wds fs.length log).getD q [] ++ [fs.getD q 0] := fun ds hd => by
    obtain ⟨i, hi, e⟩ := List.getElem_of_mem hd
    rw [toldT_len] at hi
    refine ⟨i, hi, ?_⟩
    rw [← toldT_get wds fs log hi, getD_get (by rw [toldT_len]; exact hi), e]
  refine ⟨by rw [toldT_len]; exact gf.len, fun ds hd => ?_, few, fun ds hd z hz => ?_⟩
  · obtain ⟨q, _, e⟩ := each ds hd
    rw [e, List.length_append]
    exact Nat.le_add_left _ _
  · obtain ⟨q, hq, e⟩ := each ds hd
    rw [e] at hz
    rcases List.mem_append.mp hz with y | y
    · have hq2 : q < (toldL wds fs.length log).length := by rw [toldL_len]; exact hq
      exact toldL_all (Pz := fun z => 0 ≤ z ∧ z < hues) wds _ log (row_hue gr h) _ (getD_mem hq2) z y
    · rw [List.mem_singleton.mp y]
      exact gf.hue _ (Dt.getD_mem hq)
/-! ### equality of what is told -/
theorem eqv_ent (x y : Int × List Int) : PyData.eqv (entD x) (entD y) = decide (x = y) := by
  obtain ⟨a, r⟩ := x
  obtain ⟨b, s⟩ := y
  unfold entD
  have e := eqv_row r s
  simp only [PyData.eqv, PyData.eqvAll, e, Bool.and_true]
  by_cases h : a = b
  · subst h
    by_cases h2 : r = s
    · subst h2; simp
    · simp [h2]
  · simp [h]
theorem eqvAll_ents : ∀ a b : Log, PyData.eqvAll (a.map entD) (b.map entD) = decide (a = b)
  | [], [] => by simp [PyData.eqvAll]
  | [], _ :: _ => by simp [PyData.eqvAll]
  | _ :: _, [] => by simp [PyData.eqvAll]
  | x :: r, y :: q => by
    simp only [List.map_cons, PyData.eqvAll, eqv_ent, eqvAll_ents r q]
    by_cases h : x = y
    · subst h; simp
    · simp [h]
theorem eqv_log (a b : Log) : PyData.eqv (logD a) (logD b) = decide (a = b) := by
  unfold logD
  rw [PyData.eqv]
  exact eqvAll_ents a b
theorem eqv_endS (a b : Bool) : PyData.eqv (.str (endS a)) (.str (endS b)) = decide (a = b) := by
  cases a <;> cases b <;> decide +kernel
theorem eqv_res (R S : Res) : PyData.eqv (resD R) (resD S) = decide (R = S) := by
  obtain ⟨a, f, l⟩ := R
  obtain ⟨b, g, m⟩ := S
  unfold resD
  have e1 := eqv_endS a b
  have e2 := eqv_row f g
  have e3 := eqv_log l m
  rw [PyData.eqv]
  simp only [PyData.eqvAll, e1, e2, e3, Bool.and_true]
  by_cases h1 : a = b
  · by_cases h2 : f = g
    · by_cases h3 : l = m
      · subst h1; subst h2; subst h3; simp
      · simp [h3]
    · simp [h2]
  · simp [h1]
def isRunB (wds : List WD) (ord : List Int) (b : Bool) (fs : List Int) (log : Log) : Bool := logB wds log && decide (runOf wds (toldT wds fs log) ord = some (b, fs, log))
/-! ### frames but for the tape and some tables -/
structure FrT (tp : Addr) (Ps : List Addr) (H H' : Hp) : Prop where
  keep : ∀ b o, b ≠ tp → b ∉ Ps → H b = some o → H' b = some o
  tape : Tape H' tp
  tabs : Tabs Ps H'
theorem FrT.frs {tp : Addr} {Ps : List Addr} {H H' : Hp} (t : Tape H tp) (tt : Tabs Ps H) (f : FrS Ps H H') : FrT tp Ps H H' := ⟨fun b o _ n e => f.1 b o n e, t.seqs (f.seqs tt), f.2⟩
theorem FrT.taped {tp : Addr} {Ps : List Addr} {H H' : Hp} (t : Tape H tp) (tt : Tabs Ps H) (f : Taped tp H H') : FrT tp Ps H H' := ⟨fun b o n _ e => f.1 b o n e, f.2, f.tabs t tt⟩
theorem FrT.trans {tp : Addr} {Ps : List Addr} {H H1 H2 : Hp} (a : FrT tp Ps H H1) (b : FrT tp Ps H1 H2) : FrT tp Ps H H2 := ⟨fun x o n m e => b.keep x o n m (a.keep x o n m e), b.tape, b.tabs⟩
theorem FrT.refl {tp : Addr} {Ps : List Addr} {H : Hp} (t : Tape H tp) (tt : Tabs Ps H) : FrT tp Ps H H := ⟨fun _ _ _ _ e => e, t, tt⟩
theorem FrT.same {tp : Addr} {Ps : List Addr} {H H1 H2 : Hp} (a : FrT tp Ps H H1) (s : Same H1 H2) : FrT tp Ps H H2 := ⟨fun x o n m e => s _ _ (a.keep x o n m e), a.tape.same s, a.tabs.same s⟩
theorem FrT.put {tp : Addr} {Ps : List Addr} {H H1 : Hp} {b : Addr} {o : HO} (a : FrT tp Ps H H1) (n : H b = none) (nt : b ≠ tp) (np : b ∉ Ps) : FrT tp Ps H (upd H1 b o) := ⟨fun x u m k e => by rw [upd_ne (ne_of_none e n)]; exact a.keep x u m k e, a.tape.put nt, a.tabs.put np⟩
theorem FrT.tups {tp : Addr} {Ps : List Addr} {H H' : Hp} (t : Tape H tp) (tt : Tabs Ps H) (f : FrT tp Ps H H') : Tups H H' := fun b xs e => f.keep b _ (fun z => by
  obtain ⟨_, _, h1, _⟩ := t
  rw [z, h1] at e
  cases e) (tt.tup e) e
theorem FrT.lst {tp : Addr} {Ps : List Addr} {H H' : Hp} (tt : Tabs Ps H) (f : FrT tp Ps H H') {b : Addr} {xs : List V} (n : b ≠ tp) (e : H b = some (.lst xs)) : H' b = some (.lst xs) := f.keep b _ n (tt.lst e) e
theorem FrT.free {tp : Addr} {Ps : List Addr} {H H' : Hp} {b : Addr} (f : FrT tp Ps H H') (h : H' b = none) : H b = none := by
  cases e : H b with
  | none => rfl
  | some o =>
    have h1 := f.tape.new h
    have h2 := f.tabs.new h
    rw [f.keep b o h1 h2 e] at h
    cases h
theorem LI.frt {K : PySem.W.Frag} {a : Addr} {xs : List V} {Ps : List Addr} {tp : Addr} {H H' : Hp} (h : LI K a xs Ps tp H) (f : FrT tp Ps H H') : LI K a xs Ps tp H' := by
  refine ⟨f.tape, f.tabs, ?_, h.far⟩
  by_cases e : a = tp
  · exact h.far e H'
  · rcases h.scr with (z | ⟨o, z⟩) | z
    · exact .inl (.inl (f.lst h.tabs e z))
    · exact .inl (.inr ⟨o, f.keep a _ e (fun y => by obtain ⟨ps, q, _⟩ := h.tabs a y; rw [z] at q; cases q) z⟩)
    · exact .inr z
theorem IsTab.frt {tp : Addr} {Ps : List Addr} {H H' : Hp} {ta : Addr} {tb : List (List Int)} (h : IsTab (· = tp) H ta tb) (tt : Tabs Ps H) (f : FrT tp Ps H H') : IsTab (· = tp) H' ta tb := h.mono fun b xs n e => f.lst tt n e
/-- a list of the items of two lists -/
theorem lc_zipL {K : PySem.W.Frag} {a b : Addr} {xs ys : List V} {g : TG} {tt : TT} {te : TE} {vs : List Nat} {σ : L2.St} {H1 : Hp} {D : Addr} {Qd : Hp → Prop} (hl : xs.length = ys.length) (Pv : Nat → Hp → Prop) (h0 : Pv 0 (upd H1 D (.lst []))) (hq : ∀ i H, Pv i H → SqL K H a xs ∧ SqL K H b ys)
    (hs : ∀ i x y T H, xs[i]? = some x → ys[i]? = some y → Pv i H → H T = none → g (.ref T) (wipe σ vs) (upd H T (.tup [x, y])) fun σ2 H2 => wipe σ2 vs = wipe σ vs ∧ tt σ2 H2 fun b H3 =>
      if b = true then te σ2 H3 fun y H4 => ∃ acc, H4 D = some (.lst acc) ∧ acc.length < sizeLine ∧ Pv (i + 1) (upd H4 D (.lst (acc ++ [y]))) else Pv (i + 1) H3) (hd : ∀ H, Pv xs.length H → Qd H) :
    ∃ W : Nat → Nat → Hp → Prop, (∃ m, W 0 m (upd H1 D (.lst []))) ∧ ∀ i m H, W i m H →
      ((Itz K a b).stop i H ∧ Qd H) ∨ ((Itz K a b).go i H ∧ ∃ Nx : Hp → Prop, (∀ H', Nx H' → ∃ m', m' < m ∧ W (i + 1) m' H') ∧ ∀ x H', (Itz K a b).yld i H x H' → g x (wipe σ vs) H' fun σ2 H2 => wipe σ2 vs = wipe σ vs ∧ tt σ2 H2 fun b H3 =>
        if b = true then te σ2 H3 fun y H4 => ∃ acc, H4 D = some (.lst acc) ∧ acc.length < sizeLine ∧ Nx (upd H4 D (.lst (acc ++ [y]))) else Nx H3) := by
  refine ⟨fun i m H => m = xs.length - i ∧ i ≤ xs.length ∧ Pv i H, ⟨xs.length, by simp, Nat.zero_le _, h0⟩, ?_⟩
  rintro i m H ⟨rfl, hi, p⟩
  obtain ⟨qx, qy⟩ := hq i H p
  by_cases hlt : i < xs.length
  · have hx : xs[i]? = some xs[i] := List.getElem?_eq_getElem hlt
    have hlt2 : i < ys.length := by omega
    have hy : ys[i]? = some ys[i] := List.getElem?_eq_getElem hlt2
    refine .inr ⟨⟨xs, ys, _, _, qx, qy, hx, hy⟩, Pv (i + 1), fun H' p' => ⟨xs.length - (i + 1), by omega, rfl, hlt, p'⟩, fun v H' y => ?_⟩
    obtain ⟨T, x', y', rfl, hT, rfl, f1, f2⟩ := y
    exact hs i x' y' T H (f1 xs qx) (f2 ys qy) p hT
  · have e : i = xs.length := by omega
    subst e
    exact .inl ⟨⟨xs, ys, qx, qy, Or.inl (Nat.le_refl _)⟩, hd H p⟩
theorem pairedTake {α β : Type} {F : α → β → Prop} : ∀ {l : List α} {m : List β} (n : Nat), Paired F l m → Paired F (l.take n) (m.take n)
  | _, _, 0, _ => by rw [List.take_zero, List.take_zero]; exact .nil
  | _, _, _ + 1, .nil => .nil
  | _, _, n + 1, .cons h t => .cons h (pairedTake n t)
theorem pairedDrop {α β : Type} {F : α → β → Prop} : ∀ {l : List α} {m : List β} (n : Nat), Paired F l m → Paired F (l.drop n) (m.drop n)
  | _, _, 0, h => h
  | _, _, _ + 1, .nil => .nil
  | _, _, n + 1, .cons _ t => pairedDrop n t
end Rd

set_option Elab.async false
set_option linter.all false
set_option maxRecDepth 100000
set_option maxHeartbeats 4000000
namespace Rd
open PySem PySem.Spec PyProof.Rows L2 Dt
/-! ### numbers -/
def CPowW (i j : Int) : Prop := 0 ≤ j ∧ (Builtin.Int.intBits i : Int) * j ≤ 2 ^ 27
theorem op_powW {X : Cx} : OpR X (binaryOp .Pow) (rI CPowW fun i j => .int (i ^ j.toNat)) := opI fun _ _ _ _ _ _ _ hc q => pow_int hc.1 hc.2 q
theorem abs_of_bits {a : Int} {n : Nat} (h : Builtin.Int.intBits a ≤ n) : a.natAbs < 2 ^ n := by
  unfold Builtin.Int.intBits at h
  by_cases e : a = 0
  · subst e
    exact Nat.two_pow_pos n
  · have e2 : a.natAbs ≠ 0 := by omega
    have h2 : a.natAbs.log2 + 1 ≤ n := by
      split at h
      · rename_i q
        simp at q
        exact absurd q e
      · exact h
    exact Nat.lt_of_lt_of_le Nat.lt_log2_self (Nat.pow_le_pow_right (by decide) h2)
theorem mix_bits {sd c : Int} {n : Nat} (h0 : 0 ≤ sd) (h1 : sd ≤ 2147483629) (hc : Builtin.Int.intBits c ≤ n) (hn : 47 ≤ n) : Builtin.Int.intBits (sd * 50021 + c) ≤ n + 1 := by
  refine intBits_le ?_
  have a := abs_of_bits hc
  have b : (140737488355328 : Nat) ≤ 2 ^ n := Nat.le_trans (by decide : (140737488355328 : Nat) ≤ 2 ^ 47) (Nat.pow_le_pow_right (by decide) hn)
  rw [Nat.pow_succ]
  generalize (2 : Nat) ^ n = m at a b
  omega

/-! ### the well -/
structure WellC (cs : List Int) (b c : Int) : Prop where
  b0 : 0 ≤ b
  c0 : 0 ≤ c
  c1 : c ≤ 2147483647
  nn : ∀ x ∈ cs, 0 ≤ x
def Well (H : Hp) (wl cl : Addr) : Prop := ∃ (cs : List Int) (b c : Int), H wl = some (.lst [.ref cl, .int b, .int c]) ∧ H cl = some (.lst (cs.map V.int)) ∧ WellC cs b c
theorem Well.ne {H : Hp} {wl cl : Addr} (h : Well H wl cl) : wl ≠ cl := by
  obtain ⟨cs, b, c, h1, h2, _⟩ := h
  refine ne_of h1 h2 fun e => ?_
  cases cs with
  | nil => cases e
  | cons x r => cases e
/-- H' is H but for the well -/
def Drawn (wl cl : Addr) (H H' : Hp) : Prop := (∀ b o, b ≠ wl → b ≠ cl → H b = some o → H' b = some o) ∧ Well H' wl cl
theorem Well.same {H H' : Hp} {wl cl : Addr} (h : Well H wl cl) (s : Same H H') : Well H' wl cl := by
  obtain ⟨cs, b, c, h1, h2, hc⟩ := h
  exact ⟨cs, b, c, s _ _ h1, s _ _ h2, hc⟩
theorem Well.new {H : Hp} {wl cl b : Addr} (h : Well H wl cl) (n : H b = none) : b ≠ wl ∧ b ≠ cl := by
  obtain ⟨cs, x, c, h1, h2, hc⟩ := h
  exact ⟨(ne_of_none h1 n).symm, (ne_of_none h2 n).symm⟩
theorem Well.put {H : Hp} {wl cl b : Addr} {o : HO} (h : Well H wl cl) (n : b ≠ wl ∧ b ≠ cl) : Well (upd H b o) wl cl := by
  obtain ⟨cs, x, c, h1, h2, hc⟩ := h
  exact ⟨cs, x, c, by rw [upd_ne n.1.symm]; exact h1, by rw [upd_ne n.2.symm]; exact h2, hc⟩
theorem Drawn.refl {H : Hp} {wl cl : Addr} (h : Well H wl cl) : Drawn wl cl H H := ⟨fun _ _ _ _ e => e, h⟩
theorem Drawn.trans {H H1 H2 : Hp} {wl cl : Addr} (a : Drawn wl cl H H1) (b : Drawn wl cl H1 H2) : Drawn wl cl H H2 := ⟨fun x o n1 n2 e => b.1 x o n1 n2 (a.1 x o n1 n2 e), b.2⟩
theorem Drawn.same {H H1 H2 : Hp} {wl cl : Addr} (a : Drawn wl cl H H1) (s : Same H1 H2) : Drawn wl cl H H2 := ⟨fun x o n1 n2 e => s _ _ (a.1 x o n1 n2 e), a.2.same s⟩
/-- a store at a place that wasn't there at first -/
theorem Drawn.put {H H1 : Hp} {wl cl b : Addr} {o : HO} (a : Drawn wl cl H H1) (n : H b = none) (nb : b ≠ wl ∧ b ≠ cl) : Drawn wl cl H (upd H1 b o) :=
  ⟨fun x u n1 n2 e => by rw [upd_ne (ne_of_none e n)]; exact a.1 x u n1 n2 e, a.2.put nb⟩
theorem Drawn.tups {H H' : Hp} {wl cl : Addr} (w : Well H wl cl) (a : Drawn wl cl H H') : Tups H H' := fun b xs e => by
  obtain ⟨cs, x, c, h1, h2, hc⟩ := w
  exact a.1 b _ (fun z => by rw [z, h1] at e; cases e) (fun z => by rw [z, h2] at e; cases e) e
theorem Drawn.free {H H' : Hp} {wl cl b : Addr} (w : Well H wl cl) (a : Drawn wl cl H H') (n : H' b = none) : H b = none := by
  cases e : H b with
  | none => rfl
  | some o =>
    obtain ⟨m1, m2⟩ := a.2.new n
    rw [a.1 b o m1 m2 e] at n
    cases n

/-! ### things popped at drawn places -/
structure PopsD {α : Type} (f : α → V) (wl cl : Addr) (H : Hp) (l D : Addr) (zs0 : List α) (i : Nat) (H5 : Hp) (acc ls : List α) : Prop where
  fr : Drawn wl cl H H5
  hL : H5 l = some (.lst (ls.map f))
  hD : H5 D = some (.lst (acc.map f))
  la : acc.length = i
  ll : ls.length + i = zs0.length
  pm : (acc ++ ls).Perm zs0
theorem popD_step {α : Type} {f : α → V} {wl cl : Addr} {H : Hp} {l D : Addr} {zs0 : List α} {i : Nat} {H5 H6 : Hp} {acc ls : List α} {d : Int} (nl : H l = none) (nlt : l ≠ wl ∧ l ≠ cl) (nD : H D = none) (nDt : D ≠ wl ∧ D ≠ cl) (nlD : l ≠ D) (hz : zs0.length ≤ 999) (p : PopsD f wl cl H l D zs0 i H5 acc ls) (D6 : Drawn wl cl H5 H6) (d0 : 0 ≤ d) (d1 : d < (ls.length : Int)) :
    ∃ y, (ls.map f)[d.toNat]? = some y ∧ H6 l = some (.lst (ls.map f)) ∧ seqIndex? d (ls.map f).length = some d.toNat ∧ ∃ acc', upd H6 l (.lst ((ls.map f).eraseIdx d.toNat)) D = some (.lst acc') ∧ acc'.length < sizeLine ∧ ∃ acc2 ls2, PopsD f wl cl H l D zs0 (i + 1) (upd (upd H6 l (.lst ((ls.map f).eraseIdx d.toNat))) D (.lst (acc' ++ [y]))) acc2 ls2 := by
  have hd : d.toNat < ls.length := by omega
  have hL6 := D6.1 l _ nlt.1 nlt.2 p.hL
  have hD6 := D6.1 D _ nDt.1 nDt.2 p.hD
  have la := p.la
  have ll := p.ll
  refine ⟨f ls[d.toNat], map_at (List.getElem?_eq_getElem hd), hL6, seqIndex_of d0 (by rw [List.length_map]; exact d1), acc.map f, ?_, ?_, acc ++ [ls[d.toNat]], ls.eraseIdx d.toNat, ?_, ?_, ?_, ?_, ?_, ?_⟩
  · rw [upd_ne (Ne.symm nlD)]
    exact hD6
  · rw [List.length_map]
    exact small1000 (by omega)
  · exact ((p.fr.trans D6).put nl nlt).put nD nDt
  · rw [upd_ne nlD, upd_same, map_erase]
  · rw [upd_same, List.map_append]
    rfl
  · rw [List.length_append, la]
    rfl
  · rw [List.length_eraseIdx_of_lt hd]
    omega
  · refine List.Perm.trans ?_ p.pm
    rw [List.append_assoc]
    exact List.Perm.append_left acc (erase_perm ls _ hd)
theorem Drawn.tabs {Ps : List Addr} {H H' : Hp} {wl cl : Addr} (w : Well H wl cl) (a : Drawn wl cl H H') (t : Tabs Ps H) : Tabs Ps H' := fun P hP => by
  obtain ⟨ps, hp, ht⟩ := t P hP
  obtain ⟨cs, x, c, h1, h2, hc⟩ := w
  exact ⟨ps, a.1 P _ (fun z => by rw [z, h1] at hp; cases hp) (fun z => by rw [z, h2] at hp; cases hp) hp, ht⟩
theorem FrS.well {Ps : List Addr} {H H' : Hp} {wl cl : Addr} (t : Tabs Ps H) (f : FrS Ps H H') (w : Well H wl cl) : Well H' wl cl := by
  obtain ⟨cs, x, c, h1, h2, hc⟩ := w
  exact ⟨cs, x, c, f.1 _ _ (t.lst h1) h1, f.1 _ _ (t.lst h2) h2, hc⟩
theorem Drawn.lst {H H' : Hp} {wl cl : Addr} (a : Drawn wl cl H H') {b : Addr} {xs : List V} (n : b ≠ wl ∧ b ≠ cl) (e : H b = some (.lst xs)) : H' b = some (.lst xs) := a.1 b _ n.1 n.2 e
theorem eqv_nil_cons (z : Int) (r : List Int) : PyData.eqv (.list ((z :: r).map PyData.int)) (.list []) = false := by
  simp [PyData.eqv, PyData.eqvAll]
theorem eqv_nil_nil : PyData.eqv (.list (([] : List Int).map PyData.int)) (.list []) = true := by
  simp [PyData.eqv, PyData.eqvAll]
def rInt1 : List V → Hp → VK → Prop := fun xs H Q => (∃ i, xs = [.int i] ∧ Q (.int i) H) ∨ ∃ k, xs = [.bl k] ∧ Q (.int (if k then 1 else 0)) H
theorem lc_enumL {K : PySem.W.Frag} {a : Addr} {xs : List V} {g : TG} {tt : TT} {te : TE} {vs : List Nat} {σ : L2.St} {H1 : Hp} {D : Addr} {Qd : Hp → Prop} (Pv : Nat → Hp → Prop) (h0 : Pv 0 (upd H1 D (.lst []))) (hl : ∀ i H, i ≤ xs.length → Pv i H → SqL K H a xs)
    (hs : ∀ i x H T, xs[i]? = some x → Pv i H → H T = none → g (.ref T) (wipe σ vs) (upd H T (.tup [.int (i : Nat), x])) fun σ2 H2 => wipe σ2 vs = wipe σ vs ∧ tt σ2 H2 fun b H3 =>
      if b = true then te σ2 H3 fun y H4 => ∃ acc, H4 D = some (.lst acc) ∧ acc.length < sizeLine ∧ Pv (i + 1) (upd H4 D (.lst (acc ++ [y]))) else Pv (i + 1) H3) (hd : ∀ H, Pv xs.length H → Qd H) :
    ∃ W : Nat → Nat → Hp → Prop, (∃ m, W 0 m (upd H1 D (.lst []))) ∧ ∀ i m H, W i m H →
      ((Ite K a).stop i H ∧ Qd H) ∨ ((Ite K a).go i H ∧ ∃ Nx : Hp → Prop, (∀ H', Nx H' → ∃ m', m' < m ∧ W (i + 1) m' H') ∧ ∀ x H', (Ite K a).yld i H x H' → g x (wipe σ vs) H' fun σ2 H2 => wipe σ2 vs = wipe σ vs ∧ tt σ2 H2 fun b H3 =>
        if b = true then te σ2 H3 fun y H4 => ∃ acc, H4 D = some (.lst acc) ∧ acc.length < sizeLine ∧ Nx (upd H4 D (.lst (acc ++ [y]))) else Nx H3) := by
  refine ⟨fun i m H => i + m = xs.length ∧ Pv i H, ⟨xs.length, by omega, h0⟩, ?_⟩
  rintro i m H ⟨e, p⟩
  have q := hl i H (by omega) p
  by_cases c : i < xs.length
  · refine .inr ⟨⟨xs, xs[i], q, List.getElem?_eq_getElem c⟩, Pv (i + 1), fun H' p' => ⟨m - 1, by omega, by omega, p'⟩, fun v H' hy => ?_⟩
    obtain ⟨T, x, rfl, nT, rfl, fx⟩ := hy
    exact hs i x H T (fx xs q) p nT
  · have e2 : i = xs.length := by omega
    subst e2
    exact .inl ⟨⟨xs, q, Nat.le_refl _⟩, hd H p⟩
theorem bumpA_get {tk ps : List Int} {i : Nat} {x : Int} (nd : ps.Nodup) (pl : ∀ p ∈ ps, 0 ≤ p ∧ p < (tk.length : Int)) (h : tk[i]? = some x) : ∃ y, (bumpA tk ps)[i]? = some y ∧ y = x + (if (i : Int) ∈ ps then 1 else 0) := by
  have hi : i < tk.length := (List.getElem?_eq_some_iff.mp h).1
  have bl : ∀ (ps tk : List Int), (bumpA tk ps).length = tk.length := fun ps => by
    unfold bumpA
    induction ps with
    | nil => intro tk; rfl
    | cons p r ih => intro tk; rw [List.foldl_cons, ih, bump_len]
  have hi2 : i < (bumpA tk ps).length := by rw [bl]; exact hi
  refine ⟨(bumpA tk ps)[i], List.getElem?_eq_getElem hi2, ?_⟩
  have z := atF_bumpA ps tk (i : Int) nd pl (by omega)
  unfold atF at z
  rw [Int.toNat_natCast, getD_get hi2, getD_of h] at z
  exact z
end Rd

set_option Elab.async false
set_option linter.all false
set_option maxRecDepth 100000
set_option maxHeartbeats 4000000
/-! generator expressions within generator expressions: the outer one's code is kept track of -/
namespace Gx
open PySem PySem.Spec PyProof.Rows L2 GenW
/-- a code object and its table's place -/
def CodeO (c P : Addr) : HO := .ext fun h => PySem.W.CodeHd h c P
theorem codeO_ok {Pr : Program} {w : World} {H : Hp} {h : Heap} {c P : Addr} (x : PySem.W.CodeHd h c P) : ObjOk Pr w H h c (CodeO c P) := by
  refine ⟨x, ?_, fun h1 h2 y k => ?_⟩
  · obtain ⟨o, _, _, _, _, _, _, _, _, e, _⟩ := x
    exact ⟨o, e⟩
  · obtain ⟨o, vs, file, tf, flags, tg, inF, text, tt, e, r⟩ := y
    exact ⟨o, vs, file, tf, flags, tg, inF, text, tt, k _ e, r⟩
/-- a table, all codes of which are kept track of -/
def NestG (A : List Addr) (H : Hp) (P : Addr) : Prop := ∃ ps : Array Value, H P = some (.tbl ps) ∧ TriplesOk ps.toList ∧ ∀ pos cv, codeAmong pos ps.toList = some cv → ∃ c' P', cv = .ref c' ∧ H c' = some (CodeO c' P') ∧ GxR.TabG H P' ∧ P' ∉ A
def Nests (A Qs : List Addr) (H : Hp) : Prop := (∀ P ∈ A, H P ≠ none) ∧ ∀ P ∈ Qs, P ∈ A ∧ NestG A H P
theorem NestG.tab {A : List Addr} {H : Hp} {P : Addr} (h : NestG A H P) : GxR.TabG H P := let ⟨ps, h1, h2, _⟩ := h; ⟨ps, h1, h2⟩
theorem NestG.new {A : List Addr} {H : Hp} {P : Addr} (h : H P = some (.tbl #[])) : NestG A H P := ⟨#[], h, trivial, fun pos cv e => by simp [codeAmong] at e⟩
structure Nested (A Qs : List Addr) (P c' P' : Addr) (H1 H2 : Hp) : Prop where
  nest : Nests A Qs H2
  code : H2 c' = some (CodeO c' P')
  tab : GxR.TabG H2 P'
  ne : P' ∉ A
  keep : ∀ b o, b ≠ P → H1 b = some o → H2 b = some o
theorem Nests.tabbed {A Qs : List Addr} {H H' : Hp} {P' : Addr} (h : Nests A Qs H) (ne : P' ∉ A) (hP : GxR.TabG H P') (t : GxR.Tabbed P' H H') : Nests A Qs H' := by
  refine ⟨fun P hm => by rw [t.2 P (fun z => ne (z ▸ hm))]; exact h.1 P hm, fun P hm => ⟨(h.2 P hm).1, ?_⟩⟩
  obtain ⟨hA, ps, h1, h2, h3⟩ := h.2 P hm
  refine ⟨ps, by rw [t.2 P (fun z => ne (z ▸ hA))]; exact h1, h2, fun pos cv e => ?_⟩
  obtain ⟨c2, P2, e1, e2, e3, e4⟩ := h3 pos cv e
  obtain ⟨qs, q1, _⟩ := hP
  refine ⟨c2, P2, e1, ?_, ?_, e4⟩
  · rw [t.2 c2 (fun z => by rw [z, q1] at e2; cases e2)]
    exact e2
  · by_cases hb : P2 = P'
    · rw [hb]
      exact t.1
    · obtain ⟨rs, r1, r2⟩ := e3
      exact ⟨rs, by rw [t.2 P2 hb]; exact r1, r2⟩
theorem among_snoc {pos pos' : Pos} {c cv : Value} (l : List Value) (h : TriplesOk l) (e : codeAmong pos (l ++ [rawInt pos'.line, rawInt pos'.col, c]) = some cv) : codeAmong pos l = some cv ∨ cv = c := by
  fun_induction TriplesOk l with
  | case1 =>
    simp only [List.nil_append, codeAmong, rawInt] at e
    split at e
    · exact .inr (Option.some.inj e).symm
    · cases e
  | case2 a b d f g r ih =>
    simp only [List.cons_append, codeAmong] at e ⊢
    split at e
    · rename_i hh
      rw [if_pos hh]
      exact .inl e
    · rename_i hh
      rw [if_neg hh]
      exact ih h e
  | case3 => exact h.elim
section
variable {X : Cx} {pins : List (Addr × Obj)} {σ : L2.St} {H : Hp} {s : Shared}
theorem inv_tabN {P c' P' : Addr} {ps more : Array Value} {h' : Heap} {g' : Array GenState} {d' : Drawn} {t' : Nat} (I : Inv X pins σ H s) (hP : H P = some (.tbl ps)) (k : ∀ b o, b ≠ P → s.heap.get? b = some o → h'.get? b = some o)
    (hm : h'.get? P = some { cls := .none, data := .fields (ps ++ more) }) (hg : AllBare g') (c0 : s.heap.objs.size ≤ c') (p0 : s.heap.objs.size ≤ P') (hc : PySem.W.CodeHd h' c' P') (hp : h'.get? P' = some { cls := .none, data := .fields #[] }) :
    Inv X pins σ (upd (upd (upd H P (.tbl (ps ++ more))) c' (CodeO c' P')) P' (.tbl #[])) { s with heap := h', gens := g', drawn := d', toks := t' } := by
  have hPl : P < s.heap.objs.size := (I.hok P _ hP).lt
  have Pc : P ≠ c' := Nat.ne_of_lt (Nat.lt_of_lt_of_le hPl c0)
  have PP : P ≠ P' := Nat.ne_of_lt (Nat.lt_of_lt_of_le hPl p0)
  have cP : c' ≠ P' := by
    obtain ⟨_, _, _, _, _, _, _, _, _, _, _, _, _, _, _, _, _, _, n⟩ := hc
    exact n
  have hcn : H c' = none := I.hok.fresh c0
  have hpn : H P' = none := I.hok.fresh p0
  have at_ : ∀ b, b ≠ P → b ≠ c' → b ≠ P' → upd (upd (upd H P (.tbl (ps ++ more))) c' (CodeO c' P')) P' (.tbl #[]) b = H b := fun b h1 h2 h3 => by rw [upd_ne h3, upd_ne h2, upd_ne h1]
  have atP : upd (upd (upd H P (.tbl (ps ++ more))) c' (CodeO c' P')) P' (.tbl #[]) P = some (.tbl (ps ++ more)) := by
    rw [upd_ne PP, upd_ne Pc, upd_same]
  have nP : ∀ b u, H b = some u → (∀ q, u ≠ .tbl q) → b ≠ P := fun b u e q z => by
    rw [z, hP] at e
    exact q ps (Option.some.inj e).symm
  have nN : ∀ b, H b = none → b ≠ P := fun b e z => by
    rw [z, hP] at e
    cases e
  have nc : ∀ b u, H b = some u → b ≠ c' ∧ b ≠ P' := fun b u e => ⟨fun z => (by rw [z, hcn] at e; cases e), fun z => (by rw [z, hpn] at e; cases e)⟩
  have ns : ∀ b o, s.heap.get? b = some o → b ≠ c' ∧ b ≠ P' := fun b o e => by
    have l := Heap.lt_size e
    exact ⟨Nat.ne_of_lt (Nat.lt_of_lt_of_le l c0), Nat.ne_of_lt (Nat.lt_of_lt_of_le l p0)⟩
  refine I.step (g' := g') (d' := d') (ch := []) (fun b hb => absurd hb (by simp)) (fun b o _ _ _ e n => k b o (nN b n) e) (fun b o _ _ _ e n => ⟨o.slots, k b o (nN b n) e⟩)
    (fun b o _ e n => by rw [at_ b (nN b n) (ns b o e).1 (ns b o e).2]; exact n) (fun b o _ e => ?_) (fun b xs e => by rw [at_ b (nP b _ e (fun q z => by cases z)) (nc b _ e).1 (nc b _ e).2]; exact e) (fun b o u e => by rw [at_ b (nP b _ e (fun q z => by cases z)) (nc b _ e).1 (nc b _ e).2]; exact e) (fun b qs e => ?_) (fun m hn => ?_) (fun b u e => ?_) hg
  · by_cases hb : b = P
    · rw [hb]
      exact ⟨_, hm⟩
    · exact ⟨o, k b o hb e⟩
  · by_cases hb : b = P
    · rw [hb, hP] at e
      cases e
      rw [hb, atP]
      exact ⟨more, rfl⟩
    · rw [at_ b hb (nc b _ e).1 (nc b _ e).2, e]
      exact ⟨#[], by simp⟩
  · obtain ⟨ob, es, ep, ho, r⟩ := hn
    exact ⟨ob, es, ep, k _ ob (nN _ I.free) ho, r⟩
  · by_cases h3 : b = P'
    · subst h3
      rw [upd_same] at e
      cases e
      exact hp
    by_cases h2 : b = c'
    · subst h2
      rw [upd_ne h3, upd_same] at e
      cases e
      exact codeO_ok hc
    by_cases h1 : b = P
    · subst h1
      rw [atP] at e
      cases e
      exact hm
    · rw [at_ b h1 h2 h3] at e
      refine (I.hok b u e).stay (fun d v hd q => k d v ?_ q) (fun d q => by rw [at_ d (nP d _ q (fun q z => by cases z)) (nc d _ q).1 (nc d _ q).2]; exact q) fun d xs q => by rw [at_ d (nP d _ q (fun q z => by cases z)) (nc d _ q).1 (nc d _ q).2]; exact q
      rcases hd with z | z
      · rw [z]
        exact h1
      · exact nP d _ z (fun q z => by cases z)
theorem gen_madeO {c P : Addr} {elt tg iter : Expr} {ifs : List Expr} {gpos : Pos} {scope : Scope} {own : List (Str × Nat)} {wi : TI} {g : TG} {tt : TT} {te : Value → TE} {k : Nat} {AA Qs : List Addr} {QQ : List V → Hp → Prop}
    (hr : Room (k + 1) X.A) (hc : X.calm = true) (hN : X.N.Nodup) (TB : GxR.TabB X.base X.mg c P) (hPm : P ∈ Qs) (hcode : X.env.code = .ref c) (ok : BlkOk X.N X.env.scope scope own) (S : GenK scope) (hi : PI X tg iter wi) (hs : ∀ v, genFold iter X.env v = pure v)
    (hg : ∀ (A : Around) (s : Shared) (H : Hp) (C : Addr) (code : Value) (fp : List Addr), Room k A → PG (gcx X A s H (genEnv scope (cloFrom X.env.cells scope.names []) C code builtinsNs X.env) fp) tg g)
    (ht : ∀ (A : Around) (s : Shared) (H : Hp) (C : Addr) (code : Value) (fp : List Addr), Room k A → PTs (gcx X A s H (genEnv scope (cloFrom X.env.cells scope.names []) C code builtinsNs X.env) fp) ifs tt)
    (he : ∀ (A : Around) (s : Shared) (H : Hp) (C : Addr) (code : Value) (fp : List Addr), Room k A → PE (gcx X A s H (genEnv scope (cloFrom X.env.cells scope.names []) C code builtinsNs X.env) fp) elt (te code))
    (I : Inv X pins σ H s) (h : wi σ H fun J H1 => Nests AA Qs H1 ∧ ∀ c' P' H2, Nested AA Qs P c' P' H1 H2 → ∃ W : Nat → Nat → List V → Hp → Prop, (∃ m, W 0 m [] H2) ∧ TurnsC J g tt (te (.ref c')) (own.map (·.2)) σ QQ W) :
    wpAny (model X.prog X.w) X.A (eval (.GeneratorExp elt [⟨tg, iter, ifs, 0⟩] scope gpos) X.env) (fun v s5 => ∃ (s3 : Shared) (H3 : Hp) (fp : List Addr), GMade X.prog X.w (k + 1) X.stack H3 s3 fp QQ (fun _ _ _ => False) v s5 ∧
      ∀ (H' : Hp) (s' : Shared), s'.os = s3.os → AllBare s'.gens → Un (frs X.stack) fp H3 H' s3.heap s'.heap → HOk X.prog X.w H' s'.heap → Inv X pins σ H' s') X.xe s := by
  have hfree : ∀ y ∈ scope.names, y.2 = .free → ∃ c, X.env.cells.lookup y.1 = some c := fun y hy e => by
    rcases ok.free y hy e with k | k
    · exact I.ok.has _ (.inl k)
    · exact I.ok.has _ (.inr k)
  refine wpAny_GeneratorExp_make S.co (closure_ok hfree) S.cell S.dot ok.kind hr.depth (wpAny_mono (hi.run pins s σ H _ I h) (fun xv s1 h1 => wpAny_mono h1 (fun itv s2 h2 => ?_) fun _ _ e => e) fun _ _ e => e) hs
  obtain ⟨it, fp, tn, J, H1, rfl, I2, T, st2, f2, hNest, hW⟩ := h2
  refine ⟨I2.nolimit, ?_⟩
  obtain ⟨hPA, ps, hP, htr, hall⟩ := hNest.2 P hPm
  have tabS : s2.heap.get? P = some { cls := .none, data := .fields ps } := I2.hok P _ hP
  have hd : PySem.W.CodeHd s2.heap c P := TB.code.keeps fun b u e => I2.bk b u e
  have key : ∀ (REST : Value → Shared → Prop), (∀ (c' P' : Addr) (h3 : Heap) (tk : Nat) (H3 : Hp), Heap.ExtBut P s2.heap h3 → s2.heap.objs.size ≤ h3.objs.size → Inv X pins σ H3 { s2 with heap := h3, toks := tk } → Nested AA Qs P c' P' H1 H3 → (∀ b o, s2.heap.get? b = some o → H1 b = none → H3 b = none) → REST (.ref c') { s2 with heap := h3, toks := tk }) →
      wpAny (model X.prog X.w) X.A (genexprCode X.env gpos (X.env.qual ++ "<genexpr>") scope) REST X.xe s2 := fun REST fin => by
    cases hf : codeAmong gpos ps.toList with
    | some cv =>
      obtain ⟨c', P', rfl, e1, e2, e3⟩ := hall gpos cv hf
      exact wpAny_genexprCode_hit hcode (hd.code tabS htr) hf (fin c' P' _ s2.toks H1 (Heap.ExtBut.refl _ _) (Nat.le_refl _) I2 ⟨hNest, e1, e2, e3, fun b o _ e => e⟩ fun b o _ e => e)
    | none =>
      refine wpAny_genexprCodeX hcode (hd.code tabS htr) (hd.tab tabS) hf fun c' h3 tk ex ge lt ic _ ta tp => ?_
      obtain ⟨_, _, _, _, _, _, _, _, _, _, _, _, _, _, _, _, _, _, _, tr, _⟩ := ic
      obtain ⟨P', pge, ic', ta'⟩ := tp
      have hc' := PySem.W.CodeHd.of ic' ta'
      have I3 := inv_tabN (g' := s2.gens) (d' := s2.drawn) (t' := tk) (more := #[rawInt gpos.line, rawInt gpos.col, .ref c']) I2 hP (fun b o n e => ex b o n e) ta.2 I2.bare ge pge hc' ta'.2
      have hPl : P < s2.heap.objs.size := Heap.lt_size tabS
      have Pc : P ≠ c' := Nat.ne_of_lt (Nat.lt_of_lt_of_le hPl ge)
      have PP : P ≠ P' := Nat.ne_of_lt (Nat.lt_of_lt_of_le hPl pge)
      have cP : c' ≠ P' := by
        obtain ⟨_, _, _, _, _, _, _, _, _, _, _, _, _, _, _, _, _, _, n⟩ := hc'
        exact n
      have hcn : H1 c' = none := I2.hok.fresh ge
      have hpn : H1 P' = none := I2.hok.fresh pge
      have kp : ∀ b o, b ≠ P → H1 b = some o → upd (upd (upd H1 P (.tbl (ps ++ #[rawInt gpos.line, rawInt gpos.col, .ref c']))) c' (CodeO c' P')) P' (.tbl #[]) b = some o := fun b o n e => by
        rw [upd_ne (fun z => by rw [z, hpn] at e; cases e), upd_ne (fun z => by rw [z, hcn] at e; cases e), upd_ne n]
        exact e
      have tabN : GxR.TabG (upd (upd (upd H1 P (.tbl (ps ++ #[rawInt gpos.line, rawInt gpos.col, .ref c']))) c' (CodeO c' P')) P' (.tbl #[])) P' := ⟨#[], upd_same, trivial⟩
      have codN : upd (upd (upd H1 P (.tbl (ps ++ #[rawInt gpos.line, rawInt gpos.col, .ref c']))) c' (CodeO c' P')) P' (.tbl #[]) c' = some (CodeO c' P') := by rw [upd_ne cP, upd_same]
      have neP : P' ∉ AA := fun z => hNest.1 P' z hpn
      refine fin c' P' h3 tk _ ex (Nat.le_trans ge (Nat.le_of_lt lt)) I3 ⟨⟨fun Q hQ => ?_, fun Q hQ => ⟨(hNest.2 Q hQ).1, ?_⟩⟩, codN, tabN, neP, kp⟩ fun b o e n => ?_
      · intro z
        by_cases hb : Q = P
        · rw [hb, upd_ne PP, upd_ne Pc, upd_same] at z
          cases z
        · cases e : H1 Q with
          | none => exact hNest.1 Q hQ e
          | some u =>
            rw [kp Q u hb e] at z
            cases z
      · by_cases hb : Q = P
        · subst hb
          refine ⟨_, by rw [upd_ne PP, upd_ne Pc, upd_same], tr, fun pos cv e => ?_⟩
          rw [show (ps ++ #[rawInt gpos.line, rawInt gpos.col, Value.ref c']).toList = ps.toList ++ [rawInt gpos.line, rawInt gpos.col, .ref c'] by simp] at e
          rcases among_snoc _ htr e with z | z
          · obtain ⟨c2, P2, e1, e2, ⟨qs, q1, q2⟩, e4⟩ := hall pos cv z
            exact ⟨c2, P2, e1, kp _ _ (fun z => by rw [z, hP] at e2; cases e2) e2, ⟨qs, kp _ _ (fun z => e4 (z ▸ hPA)) q1, q2⟩, e4⟩
          · exact ⟨c', P', z, codN, tabN, neP⟩
        · obtain ⟨_, qs0, g1, g2, g3⟩ := hNest.2 Q hQ
          refine ⟨qs0, kp _ _ hb g1, g2, fun pos cv e => ?_⟩
          obtain ⟨c2, P2, e1, e2, ⟨qs, q1, q2⟩, e4⟩ := g3 pos cv e
          exact ⟨c2, P2, e1, kp _ _ (fun z => by rw [z, hP] at e2; cases e2) e2, ⟨qs, kp _ _ (fun z => e4 (z ▸ hPA)) q1, q2⟩, e4⟩
      · have l := Heap.lt_size e
        rw [upd_ne (Nat.ne_of_lt (Nat.lt_of_lt_of_le l pge)), upd_ne (Nat.ne_of_lt (Nat.lt_of_lt_of_le l ge)), upd_ne (fun z => by rw [z, hP] at n; cases n)]
        exact n
  refine key _ fun c' P' h3 tk H3' ex ge I3 nst fr3 => ?_
  obtain ⟨bm, ob, b1, b2, b3, b4, b5, b6, b7, b8⟩ := TB.bm
  refine wpAny_builtinsFor (m := X.mg) (by rw [I2.ok.glob]; exact (I2.mod.glob.keeps I2.bk).extBut ex TB.gP) b1 b2 (ex _ _ b4 (I2.bk _ _ b5)) b6 b7 b8 ?_
  intro h' hn' hs'
  generalize hs3 : ({ s2 with heap := h3, toks := tk } : Shared) = s3 at hn' hs' ⊢
  have e3 : s3.heap = h3 := by rw [← hs3]
  rw [hs3] at I3
  obtain ⟨W, ⟨m0, w0⟩, turn⟩ := hW c' P' H3' nst
  have neP : ∀ b ∈ fp, b ≠ P := fun b hb z => by
    have := (f2 b hb).1
    rw [z, hP] at this
    cases this
  have f3 : ∀ b ∈ fp, FpOk X pins H3' b ∧ b < s3.heap.objs.size := fun b hb => by
    obtain ⟨o, e, _⟩ := T.obj _ _ st2 b hb
    exact ⟨⟨fr3 b o e (f2 b hb).1, (f2 b hb).2⟩, by rw [e3]; exact Nat.lt_of_lt_of_le (Heap.lt_size e) ge⟩
  have st3 : tn 0 s3.heap := T.keep _ _ _ st2 fun b hb o e => by rw [e3]; exact ex b o (neP b hb) e
  generalize hH3 : H3' = H3 at I3 w0 f3
  have nf : ∀ b ∈ fp, H3 b = none := fun b hb => (f3 b hb).1.1
  generalize hgo : ({ cls := .type "generator", data := .fields #[.int s3.gens.size 0, .str "<genexpr>" (s3.toks + 1), .str (X.env.qual ++ "<genexpr>") (s3.toks + 1 + 1)] } : Obj) = go
  have sz' : h'.objs.size = s3.heap.objs.size + 1 := by rw [hs'.1, Heap.size_push]
  generalize hs5 : ({ s3 with gens := s3.gens.push (.fresh (.compStart (.GeneratorExp elt [⟨tg, iter, ifs, 0⟩] scope gpos) 0 (.ref it) .none (genEnv scope (cloFrom X.env.cells scope.names []) s3.heap.objs.size (.ref c') builtinsNs X.env))), toks := s3.toks + 1 + 1 + 1, heap := h'.push go } : Shared) = s5
  have h5 : s5.heap = h'.push go := by rw [← hs5]
  have sz5 : s5.heap.objs.size = h'.objs.size + 1 := by rw [h5, Heap.size_push]
  have kp : Kept s3 s5 := by
    refine ⟨by rw [← hs5], by rw [← hs5]; exact AllBare.push I3.bare rfl, fun b o e => ?_⟩
    rw [h5]
    exact Heap.get?_push_of_some _ (hs'.extBut b o (Nat.ne_of_lt (Heap.lt_size e)) (Heap.get?_push_of_some _ e))
  have hga : s5.heap.get? h'.objs.size = some go := by rw [h5, ← hgo]; exact Heap.get?_push_size _ rfl
  have isg : ∀ h : Heap, h.get? h'.objs.size = some go → h.IsGen h'.objs.size s3.gens.size := fun h e => ⟨go, _, _, e, by rw [← hgo], by rw [← hgo], by rw [← hgo]⟩
  have hgs : s5.gens[s3.gens.size]? = some (.fresh (.compStart (.GeneratorExp elt [⟨tg, iter, ifs, 0⟩] scope gpos) 0 (.ref it) .none (genEnv scope (cloFrom X.env.cells scope.names []) s3.heap.objs.size (.ref c') builtinsNs X.env))) := by
    rw [← hs5]
    exact Array.getElem?_push_size ..
  have hns : s5.heap.Ns s3.heap.objs.size (fun y => if y = ".0" then some (.ref it) else none) := by rw [h5]; exact hn'.push _
  have nstk : ∀ b, s3.heap.objs.size ≤ b → b ∉ frs X.stack := fun b hb z => by
    rcases List.mem_cons.mp (I3.stkSub _ z) with z | z
    · exact absurd (Nat.lt_of_lt_of_le I3.lt (show s3.heap.objs.size ≤ X.env.locals by rw [← z]; exact hb)) (Nat.lt_irrefl _)
    · exact I3.nofs hb z
  have lt35 : s3.heap.objs.size < s5.heap.objs.size := by omega
  refine ⟨s3, H3, fp, ⟨h'.objs.size, s3.gens.size, _, rfl, (show s3.heap.objs.size ≤ h'.objs.size by omega), (show h'.objs.size < s5.heap.objs.size by omega), isg _ hga, hgs, kp.os, kp.bare, I3.nolimit.keeps kp.keep, kp.keep, fun A' Sx s6 hrA hfrA hSx hk6 hSo hos hba => ?_⟩, fun H' s' ho hb hu hok => I3.call' (ch := fp) ho hu hok hb fun b hb => ⟨(f3 b hb).1.2.2.2.1, (f3 b hb).1.2.1, (f3 b hb).1.2.2.2.2.1, (f3 b hb).1.2.2.2.2.2⟩⟩
  have k6 : Kept s3 s6 := ⟨hos, hba, fun b o e => hk6 b o (kp.keep b o e)⟩
  have rm : Room k (A'.over (.compLoop (.GeneratorExp elt [⟨tg, iter, ifs, 0⟩] scope gpos) 0 (.ref it) .none (genEnv scope (cloFrom X.env.cells scope.names []) s3.heap.objs.size (.ref c') builtinsNs X.env)) []) := by
    have h1 := hrA.dp
    have h2 := hrA.un
    refine ⟨hrA.hd, ?_, ?_⟩
    · show A'.depth + 0 + 1 + 3 * k + 5 < _
      omega
    · show A'.units + 0 + 3 + 16 * k + 200 < _
      omega
  have Ig := gen_start I3 ok S hN f3 rm.hd (over_gen hfrA) k6 (hns.keeps hk6)
  obtain ⟨cS, heS⟩ := hSo
  have Sx3 : s3.heap.objs.size ≤ Sx := Nat.le_trans (Nat.le_of_lt lt35) hSx
  have SxC : Sx ≠ s3.heap.objs.size := Nat.ne_of_gt (Nat.lt_of_lt_of_le lt35 hSx)
  have aS : h'.objs.size ≠ Sx := Nat.ne_of_lt (Nat.lt_of_lt_of_le (by omega) hSx)
  have hG : GI (gcx X (A'.over (.compLoop (.GeneratorExp elt [⟨tg, iter, ifs, 0⟩] scope gpos) 0 (.ref it) .none (genEnv scope (cloFrom X.env.cells scope.names []) s3.heap.objs.size (.ref c') builtinsNs X.env)) []) s3 H3 (genEnv scope (cloFrom X.env.cells scope.names []) s3.heap.objs.size (.ref c') builtinsNs X.env) fp) Sx [(h'.objs.size, go)] [] (wipe σ (own.map (·.2))) H3 s6 := by
    refine ⟨#[], cS, .nil, Ig.pins_of fun p hp => ?_⟩
    rcases List.mem_cons.mp hp with z | z
    · rw [z]
      exact ⟨heS, I3.hok.fresh Sx3, SxC, nstk _ Sx3, fun v q => by cases q⟩
    · rw [List.mem_singleton.mp z]
      exact ⟨hk6 _ _ hga, I3.hok.fresh (by omega), by show h'.objs.size ≠ s3.heap.objs.size; omega, nstk _ (by omega), fun v q => by rw [← hgo] at q; cases q⟩
  have st6 : tn 0 s6.heap := T.keep _ _ _ st3 fun b hb o e => k6.keep b o e
  have hAp : Apart (gcx X (A'.over (.compLoop (.GeneratorExp elt [⟨tg, iter, ifs, 0⟩] scope gpos) 0 (.ref it) .none (genEnv scope (cloFrom X.env.cells scope.names []) s3.heap.objs.size (.ref c') builtinsNs X.env)) []) s3 H3 (genEnv scope (cloFrom X.env.cells scope.names []) s3.heap.objs.size (.ref c') builtinsNs X.env) fp) Sx := by
    refine ⟨Sx3, SxC, fun x c e z => ?_⟩
    obtain ⟨v, q⟩ := Ig.cell x c e
    have hcl : X.env.cells.lookup x = some c := by
      have e : (cloFrom X.env.cells scope.names []).lookup x = some c := e
      rcases cloFrom_mem (PySem.mem_of_lookup e) with hm | ⟨h1, rfl⟩
      · cases hm
      · obtain ⟨c, hc⟩ := hfree _ h1 rfl
        rw [hc]
        rfl
    obtain ⟨v3, q3⟩ := I3.cell x c hcl
    exact absurd (Nat.lt_of_lt_of_le q3.lt (by rw [z]; exact Sx3)) (Nat.lt_irrefl _)
  refine seg_start T st6 (seg_loopC T hc rfl S.co (fun z => ?_) (fun z => ?_) aS hAp isg (hg _ _ _ _ _ _ rm) (ht _ _ _ _ _ _ rm) (he _ _ _ _ _ _ rm) turn m0 sizeLine 0 [] _ _ H3 (Nat.add_zero _) hG st6 nf w0)
  · have q : h'.objs.size < s3.heap.objs.size := (f3 _ z).2
    omega
  · exact absurd (Nat.lt_of_lt_of_le (f3 _ z).2 Sx3) (Nat.lt_irrefl _)
theorem gen_madeI {c0 P0 c P : Addr} {elt tg iter : Expr} {ifs : List Expr} {gpos : Pos} {scope : Scope} {own : List (Str × Nat)} {wi : TI} {g : TG} {tt : TT} {te : TE} {k : Nat} {QQ : List V → Hp → Prop}
    (hr : Room (k + 1) X.A) (hc : X.calm = true) (hN : X.N.Nodup) (TB : GxR.TabB X.base X.mg c0 P0) (hcode : X.env.code = .ref c) (ok : BlkOk X.N X.env.scope scope own) (S : GenK scope) (hi : PI X tg iter wi) (hs : ∀ v, genFold iter X.env v = pure v)
    (hg : ∀ (A : Around) (s : Shared) (H : Hp) (C : Addr) (code : Value) (fp : List Addr), Room k A → PG (gcx X A s H (genEnv scope (cloFrom X.env.cells scope.names []) C code builtinsNs X.env) fp) tg g)
    (ht : ∀ (A : Around) (s : Shared) (H : Hp) (C : Addr) (code : Value) (fp : List Addr), Room k A → PTs (gcx X A s H (genEnv scope (cloFrom X.env.cells scope.names []) C code builtinsNs X.env) fp) ifs tt)
    (he : ∀ (A : Around) (s : Shared) (H : Hp) (C : Addr) (code : Value) (fp : List Addr), Room k A → PE (gcx X A s H (genEnv scope (cloFrom X.env.cells scope.names []) C code builtinsNs X.env) fp) elt te)
    (I : Inv X pins σ H s) (h : wi σ H fun J H1 => H1 c = some (CodeO c P) ∧ GxR.TabG H1 P ∧ ∀ H2, GxR.Tabbed P H1 H2 → ∃ W : Nat → Nat → List V → Hp → Prop, (∃ m, W 0 m [] H2) ∧ TurnsC J g tt te (own.map (·.2)) σ QQ W) :
    wpAny (model X.prog X.w) X.A (eval (.GeneratorExp elt [⟨tg, iter, ifs, 0⟩] scope gpos) X.env) (fun v s5 => ∃ (s3 : Shared) (H3 : Hp) (fp : List Addr), GMade X.prog X.w (k + 1) X.stack H3 s3 fp QQ (fun _ _ _ => False) v s5 ∧
      ∀ (H' : Hp) (s' : Shared), s'.os = s3.os → AllBare s'.gens → Un (frs X.stack) fp H3 H' s3.heap s'.heap → HOk X.prog X.w H' s'.heap → Inv X pins σ H' s') X.xe s := by
  have hfree : ∀ y ∈ scope.names, y.2 = .free → ∃ c, X.env.cells.lookup y.1 = some c := fun y hy e => by
    rcases ok.free y hy e with k | k
    · exact I.ok.has _ (.inl k)
    · exact I.ok.has _ (.inr k)
  refine wpAny_GeneratorExp_make S.co (closure_ok hfree) S.cell S.dot ok.kind hr.depth (wpAny_mono (hi.run pins s σ H _ I h) (fun xv s1 h1 => wpAny_mono h1 (fun itv s2 h2 => ?_) fun _ _ e => e) fun _ _ e => e) hs
  obtain ⟨it, fp, tn, J, H1, rfl, I2, T, st2, f2, hco, ⟨ps, hP, htr⟩, hW⟩ := h2
  refine ⟨I2.nolimit, ?_⟩
  have tabS : s2.heap.get? P = some { cls := .none, data := .fields ps } := I2.hok P _ hP
  have hd : PySem.W.CodeHd s2.heap c P := (I2.hok c _ hco).1
  have key : ∀ (REST : Value → Shared → Prop), (∀ (cv : Value) (h3 : Heap) (tk : Nat) (more : Array Value), Heap.ExtBut P s2.heap h3 → s2.heap.objs.size ≤ h3.objs.size → h3.get? P = some { cls := .none, data := .fields (ps ++ more) } → TriplesOk (ps ++ more).toList → REST cv { s2 with heap := h3, toks := tk }) →
      wpAny (model X.prog X.w) X.A (genexprCode X.env gpos (X.env.qual ++ "<genexpr>") scope) REST X.xe s2 := fun REST fin => by
    cases hf : codeAmong gpos ps.toList with
    | some cv =>
      have e : ps = ps ++ #[] := by simp
      exact wpAny_genexprCode_hit hcode (hd.code tabS htr) hf (fin cv _ s2.toks #[] (Heap.ExtBut.refl _ _) (Nat.le_refl _) (e ▸ tabS) (e ▸ htr))
    | none =>
      refine wpAny_genexprCodeX hcode (hd.code tabS htr) (hd.tab tabS) hf fun c' h3 tk ex ge lt ic _ ta _ => ?_
      obtain ⟨_, _, _, _, _, _, _, _, _, _, _, _, _, _, _, _, _, _, _, tr, _⟩ := ic
      exact fin _ h3 tk _ ex (Nat.le_trans ge (Nat.le_of_lt lt)) ta.2 tr
  refine key _ fun cv h3 tk more ex ge tab3 tr3 => ?_
  obtain ⟨bm, ob, b1, b2, b3, b4, b5, b6, b7, b8⟩ := TB.bm
  have neB : ∀ b o, X.base.get? b = some o → b ≠ P := fun b o e z => by
    have y := (I2.bs b o e).2
    rw [z, hP] at y
    cases y
  have neM : mainGlobals ≠ P := by
    obtain ⟨o, _, _, e, _⟩ := I2.mod.glob
    exact neB _ _ e
  refine wpAny_builtinsFor (m := X.mg) (by rw [I2.ok.glob]; exact (I2.mod.glob.keeps I2.bk).extBut ex neM) b1 b2 (ex _ _ (neB _ _ b5) (I2.bk _ _ b5)) b6 b7 b8 ?_
  intro h' hn' hs'
  generalize hs3 : ({ s2 with heap := h3, toks := tk } : Shared) = s3 at hn' hs' ⊢
  have e3 : s3.heap = h3 := by rw [← hs3]
  have I3 : Inv X pins σ (upd H1 P (.tbl (ps ++ more))) s3 := by
    rw [← hs3]
    exact GxR.inv_tab (more := more) (h' := h3) (g' := s2.gens) (d' := s2.drawn) (t' := tk) I2 hP (fun b o n e => ex b o n e) tab3 I2.bare
  obtain ⟨W, ⟨m0, w0⟩, turn⟩ := hW _ ⟨⟨ps ++ more, upd_same, tr3⟩, fun b hb => upd_ne hb⟩
  have neP : ∀ b ∈ fp, b ≠ P := fun b hb z => by
    have := (f2 b hb).1
    rw [z, hP] at this
    cases this
  have f3 : ∀ b ∈ fp, FpOk X pins (upd H1 P (.tbl (ps ++ more))) b ∧ b < s3.heap.objs.size := fun b hb => by
    obtain ⟨o, e, _⟩ := T.obj _ _ st2 b hb
    refine ⟨⟨?_, (f2 b hb).2⟩, by rw [e3]; exact Nat.lt_of_lt_of_le (Heap.lt_size e) ge⟩
    rw [upd_ne (neP b hb)]
    exact (f2 b hb).1
  have st3 : tn 0 s3.heap := T.keep _ _ _ st2 fun b hb o e => by rw [e3]; exact ex b o (neP b hb) e
  generalize hH3 : upd H1 P (.tbl (ps ++ more)) = H3 at I3 w0 f3
  have nf : ∀ b ∈ fp, H3 b = none := fun b hb => (f3 b hb).1.1
  generalize hgo : ({ cls := .type "generator", data := .fields #[.int s3.gens.size 0, .str "<genexpr>" (s3.toks + 1), .str (X.env.qual ++ "<genexpr>") (s3.toks + 1 + 1)] } : Obj) = go
  have sz' : h'.objs.size = s3.heap.objs.size + 1 := by rw [hs'.1, Heap.size_push]
  generalize hs5 : ({ s3 with gens := s3.gens.push (.fresh (.compStart (.GeneratorExp elt [⟨tg, iter, ifs, 0⟩] scope gpos) 0 (.ref it) .none (genEnv scope (cloFrom X.env.cells scope.names []) s3.heap.objs.size cv builtinsNs X.env))), toks := s3.toks + 1 + 1 + 1, heap := h'.push go } : Shared) = s5
  have h5 : s5.heap = h'.push go := by rw [← hs5]
  have sz5 : s5.heap.objs.size = h'.objs.size + 1 := by rw [h5, Heap.size_push]
  have kp : Kept s3 s5 := by
    refine ⟨by rw [← hs5], by rw [← hs5]; exact AllBare.push I3.bare rfl, fun b o e => ?_⟩
    rw [h5]
    exact Heap.get?_push_of_some _ (hs'.extBut b o (Nat.ne_of_lt (Heap.lt_size e)) (Heap.get?_push_of_some _ e))
  have hga : s5.heap.get? h'.objs.size = some go := by rw [h5, ← hgo]; exact Heap.get?_push_size _ rfl
  have isg : ∀ h : Heap, h.get? h'.objs.size = some go → h.IsGen h'.objs.size s3.gens.size := fun h e => ⟨go, _, _, e, by rw [← hgo], by rw [← hgo], by rw [← hgo]⟩
  have hgs : s5.gens[s3.gens.size]? = some (.fresh (.compStart (.GeneratorExp elt [⟨tg, iter, ifs, 0⟩] scope gpos) 0 (.ref it) .none (genEnv scope (cloFrom X.env.cells scope.names []) s3.heap.objs.size cv builtinsNs X.env))) := by
    rw [← hs5]
    exact Array.getElem?_push_size ..
  have hns : s5.heap.Ns s3.heap.objs.size (fun y => if y = ".0" then some (.ref it) else none) := by rw [h5]; exact hn'.push _
  have nstk : ∀ b, s3.heap.objs.size ≤ b → b ∉ frs X.stack := fun b hb z => by
    rcases List.mem_cons.mp (I3.stkSub _ z) with z | z
    · exact absurd (Nat.lt_of_lt_of_le I3.lt (show s3.heap.objs.size ≤ X.env.locals by rw [← z]; exact hb)) (Nat.lt_irrefl _)
    · exact I3.nofs hb z
  have lt35 : s3.heap.objs.size < s5.heap.objs.size := by omega
  refine ⟨s3, H3, fp, ⟨h'.objs.size, s3.gens.size, _, rfl, (show s3.heap.objs.size ≤ h'.objs.size by omega), (show h'.objs.size < s5.heap.objs.size by omega), isg _ hga, hgs, kp.os, kp.bare, I3.nolimit.keeps kp.keep, kp.keep, fun A' Sx s6 hrA hfrA hSx hk6 hSo hos hba => ?_⟩, fun H' s' ho hb hu hok => I3.call' (ch := fp) ho hu hok hb fun b hb => ⟨(f3 b hb).1.2.2.2.1, (f3 b hb).1.2.1, (f3 b hb).1.2.2.2.2.1, (f3 b hb).1.2.2.2.2.2⟩⟩
  have k6 : Kept s3 s6 := ⟨hos, hba, fun b o e => hk6 b o (kp.keep b o e)⟩
  have rm : Room k (A'.over (.compLoop (.GeneratorExp elt [⟨tg, iter, ifs, 0⟩] scope gpos) 0 (.ref it) .none (genEnv scope (cloFrom X.env.cells scope.names []) s3.heap.objs.size cv builtinsNs X.env)) []) := by
    have h1 := hrA.dp
    have h2 := hrA.un
    refine ⟨hrA.hd, ?_, ?_⟩
    · show A'.depth + 0 + 1 + 3 * k + 5 < _
      omega
    · show A'.units + 0 + 3 + 16 * k + 200 < _
      omega
  have Ig := gen_start I3 ok S hN f3 rm.hd (over_gen hfrA) k6 (hns.keeps hk6)
  obtain ⟨cS, heS⟩ := hSo
  have Sx3 : s3.heap.objs.size ≤ Sx := Nat.le_trans (Nat.le_of_lt lt35) hSx
  have SxC : Sx ≠ s3.heap.objs.size := Nat.ne_of_gt (Nat.lt_of_lt_of_le lt35 hSx)
  have aS : h'.objs.size ≠ Sx := Nat.ne_of_lt (Nat.lt_of_lt_of_le (by omega) hSx)
  have hG : GI (gcx X (A'.over (.compLoop (.GeneratorExp elt [⟨tg, iter, ifs, 0⟩] scope gpos) 0 (.ref it) .none (genEnv scope (cloFrom X.env.cells scope.names []) s3.heap.objs.size cv builtinsNs X.env)) []) s3 H3 (genEnv scope (cloFrom X.env.cells scope.names []) s3.heap.objs.size cv builtinsNs X.env) fp) Sx [(h'.objs.size, go)] [] (wipe σ (own.map (·.2))) H3 s6 := by
    refine ⟨#[], cS, .nil, Ig.pins_of fun p hp => ?_⟩
    rcases List.mem_cons.mp hp with z | z
    · rw [z]
      exact ⟨heS, I3.hok.fresh Sx3, SxC, nstk _ Sx3, fun v q => by cases q⟩
    · rw [List.mem_singleton.mp z]
      exact ⟨hk6 _ _ hga, I3.hok.fresh (by omega), by show h'.objs.size ≠ s3.heap.objs.size; omega, nstk _ (by omega), fun v q => by rw [← hgo] at q; cases q⟩
  have st6 : tn 0 s6.heap := T.keep _ _ _ st3 fun b hb o e => k6.keep b o e
  have hAp : Apart (gcx X (A'.over (.compLoop (.GeneratorExp elt [⟨tg, iter, ifs, 0⟩] scope gpos) 0 (.ref it) .none (genEnv scope (cloFrom X.env.cells scope.names []) s3.heap.objs.size cv builtinsNs X.env)) []) s3 H3 (genEnv scope (cloFrom X.env.cells scope.names []) s3.heap.objs.size cv builtinsNs X.env) fp) Sx := by
    refine ⟨Sx3, SxC, fun x c e z => ?_⟩
    obtain ⟨v, q⟩ := Ig.cell x c e
    have hcl : X.env.cells.lookup x = some c := by
      have e : (cloFrom X.env.cells scope.names []).lookup x = some c := e
      rcases cloFrom_mem (PySem.mem_of_lookup e) with hm | ⟨h1, rfl⟩
      · cases hm
      · obtain ⟨c, hc⟩ := hfree _ h1 rfl
        rw [hc]
        rfl
    obtain ⟨v3, q3⟩ := I3.cell x c hcl
    exact absurd (Nat.lt_of_lt_of_le q3.lt (by rw [z]; exact Sx3)) (Nat.lt_irrefl _)
  refine seg_start T st6 (seg_loopC T hc rfl S.co (fun z => ?_) (fun z => ?_) aS hAp isg (hg _ _ _ _ _ _ rm) (ht _ _ _ _ _ _ rm) (he _ _ _ _ _ _ rm) turn m0 sizeLine 0 [] _ _ H3 (Nat.add_zero _) hG st6 nf w0)
  · have q : h'.objs.size < s3.heap.objs.size := (f3 _ z).2
    omega
  · exact absurd (Nat.lt_of_lt_of_le (f3 _ z).2 Sx3) (Nat.lt_irrefl _)
end
end Gx

set_option Elab.async false
set_option linter.all false
set_option maxRecDepth 100000
set_option maxHeartbeats 4000000
/-! s.join(..) of a generator expression: any source, any target, any element -/
namespace Gx
open PySem PySem.Spec PyProof.Rows L2 GenW Builtin Builtin.Str Builtin.Int
theorem collect_new {P : Program} {w : World} {outer : List Env} {H : Hp} {sc s : Shared} {ex : List Addr} {Q : List V → Hp → Prop} {A A2 : Around} {k : Nat} {u : Value} {QC : List Value → Shared → Prop} {EC : Value → Shared → Prop}
    (hr : Room (k + 1) A) (h : GMade P w k outer H sc ex Q (fun _ _ _ => False) u s) (h1 : A2.handled = none) (h2 : A2.depth = A.depth) (h3 : A2.units ≤ A.units + 8) (h4 : A2.frames = some outer)
    (hq : ∀ (s' : Shared) (acc : Array Value) (H' : Hp) (ys : List V), Vals ys acc.toList → ys.length ≤ sizeLine → s'.os = sc.os → AllBare s'.gens → Un (frs outer) ex H H' sc.heap s'.heap → HOk P w H' s'.heap → Q ys H' → QC acc.toList s') : wpAny (model P w) A2 (collect u) QC EC s := by
  obtain ⟨a, g, c, rfl, ha1, ha2, hg, hgs, hos, hb, hl, hkp, wake⟩ := h
  have hSa : s.heap.objs.size ≠ a := Nat.ne_of_gt ha2
  have hcl : cStatics < s.heap.objs.size := let ⟨_, hn, _⟩ := hl; hn.lt
  have hSc : s.heap.objs.size ≠ cStatics := Nat.ne_of_gt hcl
  unfold collect
  refine wpAny_bind (wpAny_runValue (codeAny_builtin F.entry_proto_collect ?_))
  rw [Around.under_plainId F.plain_proto_collect _]
  show wpAny _ A2.in1 (newList [] >>= fun l => again (.builtin "list.__iadd__" ⟨[l, .ref a], []⟩)) _ _ s
  refine wpAny_bind (wpAny_newObj_type ?_)
  refine wpAny_pure ⟨plainId_quiet F.plain_list_iadd _, codeAny_builtin F.entry_list_iadd ?_⟩
  rw [Around.under_plainId F.plain_list_iadd _]
  show wpAny _ A2.in1 (Builtin.List.listExtendWith (.ref s.heap.objs.size) (.ref a) (.ref s.heap.objs.size)) _ _ _
  unfold Builtin.List.listExtendWith
  have up : ∀ (h : Heap) (f : Obj → Obj), (∀ b o, s.heap.get? b = some o → h.get? b = some o) → ∀ b o, s.heap.get? b = some o → (h.update s.heap.objs.size f).get? b = some o := fun h f q b o e =>
    (Heap.get?_update_other _ _ (Ne.symm (Nat.ne_of_lt (Heap.lt_size e)))).trans (q b o e)
  have k1 : ∀ b o, s.heap.get? b = some o → (s.heap.push { cls := .type "list", data := .seq ([] : List Value).toArray }).get? b = some o := fun b o e => Heap.get?_push_of_some _ e
  have gty : ∀ {h : Heap}, (∀ b o, s.heap.get? b = some o → h.get? b = some o) → h.IsGen a g := fun {h} q => hg.keeps q
  refine wpAny_bind (wpAny_typeOf (Heap.IsGen.typeIs (s := { s with heap := _ }) (gty k1)) ?_)
  have e1 : Builtin.List.listSameRef (.ref s.heap.objs.size) (.ref a) = false := by simp [Builtin.List.listSameRef, hSa]
  have e2 : (Value.type "generator" == Value.type "list") = false := by decide
  have e3 : (Value.type "generator" == Value.type "tuple") = false := by decide
  simp only [e1, e2, e3, Bool.or_false, Bool.false_eq_true, if_false]
  refine wpAny_bind (wpAny_pyIter_gen (s := { s with heap := _ }) (gty k1) ?_)
  refine wpAny_bind (wpAny_holding ?_)
  unfold Builtin.List.listLengthHint
  refine wpAny_bind (wpAny_specialOf (Heap.IsGen.typeIs (s := { s with heap := _ }) (gty k1)) F.gen_no_len ?_)
  show wpAny _ A2.in1 (specialOf (Value.ref a) (Str.ofString "__length_hint__") >>= _) _ _ _
  refine wpAny_bind (wpAny_specialOf (Heap.IsGen.typeIs (s := { s with heap := _ }) (gty k1)) F.gen_no_hint ?_)
  refine wpAny_pure ?_
  show wpAny _ A2.in1 (rule "list.extend.makes-room" >>= fun _ => Builtin.List.listTouch (.ref s.heap.objs.size) >>= fun _ =>
    again (.builtin "list.extend.loop" ⟨[.ref s.heap.objs.size, .ref a, .ref s.heap.objs.size], []⟩)) _ _ _
  refine wpAny_bind (wpAny_rule ?_)
  have hS₁ : (s.heap.push { cls := .type "list", data := .seq ([] : List Value).toArray }).get? s.heap.objs.size = some { cls := .type "list", data := .seq ([] : List Value).toArray } := Heap.get?_push_size _ rfl
  refine wpAny_bind ?_
  show wpAny _ A2.in1 (updateSeq s.heap.objs.size (·.push .none) >>= fun _ => updateSeq s.heap.objs.size (·.pop)) _ _ _
  refine wpAny_bind (wpAny_updateSeq hS₁ rfl ?_)
  have hS₂ := Heap.get?_update_self (Obj.mapSeq (·.push Value.none)) hS₁ rfl
  refine wpAny_updateSeq hS₂ rfl ?_
  have hS₃ := Heap.get?_update_self (Obj.mapSeq (·.pop)) hS₂ rfl
  have k4 := up _ (Obj.mapSeq (·.pop)) (up _ (Obj.mapSeq (·.push Value.none)) k1)
  refine wpAny_pure ⟨plainId_quiet F.plain_extend_loop _, ?_⟩
  refine drain (P := P) (w := w) (outer := outer) (H := H) (sc := sc) (ex := ex) (Q := Q) (EX := fun _ _ _ => False) (A := A2) (g := g) h1 (by have := hr.dp; omega) hSa hSc
    (fun s' acc c H' ys q1 q2 q3 q4 q5 q6 q7 q8 q9 => ?_) (fun e s' hc => by obtain ⟨_, _, _, _, _, _, _, _, _, _, _, _, hf⟩ := hc; exact hf.elim)
    sizeLine _ (gty k4) (hl.keeps k4) ⟨_, hgs, rfl, ?_⟩
  · show wpAny _ A2 (load s.heap.objs.size >>= _) _ _ s'
    refine wpAny_bind (wpAny_load q1 ?_)
    exact wpAny_pure (hq s' acc H' ys q2 q3 q4 q5 q6 q7 q9)
  · refine wake _ _ _ ⟨h1, ?_, ?_⟩ h4 (Nat.le_refl _) k4 ⟨_, hS₃⟩ hos (allBare_setGen (s := { s with heap := _ }) hb rfl)
    · have := hr.dp
      show A2.depth + 3 * k + 5 < _
      omega
    · have := hr.un
      show A2.units + 1 + 1 + 16 * k + 200 < _
      omega
theorem vals_strs : ∀ (ws : List Str) (vs : List Value), Vals (ws.map V.str) vs → ∃ l : List (Str × Tok), strValues l = vs ∧ l.map (·.1) = ws
  | [], _, .nil => ⟨[], rfl, rfl⟩
  | x :: r, _, .cons h t => by
    obtain ⟨tk, rfl⟩ := (show ∃ t, _ = Value.str x t from h)
    obtain ⟨l, h1, h2⟩ := vals_strs r _ t
    refine ⟨(x, tk) :: l, ?_, ?_⟩
    · show Value.str x tk :: strValues l = _
      rw [h1]
    · rw [List.map_cons, h2]
theorem call_join_new {P : Program} {w : World} {outer : List Env} {H : Hp} {sc s : Shared} {ex : List Addr} {Q : List V → Hp → Prop} {A : Around} {k : Nat} {u : Value} {x : Str} {t : Tok} {Q' : Value → Shared → Prop} {E : Value → Shared → Prop}
    (hr : Room (k + 1) A) (hfr : A.frames = some outer) (h : GMade P w k outer H sc ex Q (fun _ _ _ => False) u s)
    (hQ : ∀ (s' : Shared) (H' : Hp) (ys : List V), s'.os = sc.os → AllBare s'.gens → Un (frs outer) ex H H' sc.heap s'.heap → HOk P w H' s'.heap → Q ys H' → ∃ ws : List Str, ys = ws.map V.str ∧ JoinOk x ws = true ∧ ∀ t' tk, Q' (.str (Txt.join x ws) t') { s' with toks := tk }) :
    wpAny (model P w) A (call (.builtin "str.join") [.str x t, u]) Q' E s := by
  obtain ⟨a, g, c, rfl, ha1, ha2, hg, r⟩ := id h
  have hTI := hg.typeIs (s := s)
  refine wpAny_call (codeAny_call_builtin F.slot_str_join.plain F.entry_str_join (F.slot_str_join.check _ _ _ _ _ _ _ _ (typeIs_str _ _ _) (F.args_str_join_2 _ _) ?_))
  rw [join_tree_other]
  refine wpAny_bind (wpAny_typeOf hTI ?_)
  show wpAny _ A.in1 ((pyIter (.ref a)).tryCatch _ >>= fun it => collect it >>= fun items => joinTail x items) _ _ s
  refine wpAny_bind (wpAny_tryCatch (wpAny_pyIter_gen hg ?_))
  refine wpAny_bind (collect_new (A := A) hr h hr.hd rfl (by show A.units + 1 ≤ A.units + 8; omega) hfr fun s' acc H' ys q1 q2 q3 q4 q5 q6 q7 => ?_)
  obtain ⟨ws, rfl, hok, hpost⟩ := hQ s' H' ys q3 q4 q5 q6 q7
  obtain ⟨l, hl, rfl⟩ := vals_strs ws _ q1
  rw [← hl]
  unfold JoinOk at hok
  rw [Bool.not_eq_true'] at hok
  have gg : Gives (joinTail x (strValues l)) (joinMade x l) := by
    have g0 := gives_joinTail x l hok
    cases l with
    | nil => exact g0
    | cons p r => cases r with
      | nil => exact g0
      | cons q r' => exact g0
  exact gg P w A (wants Q' E) s' (post_join l ⟨joinFit_length hok, hpost⟩)
/-- to.join(te for g in wi if tt), the code kept track of -/
def tJN (to : TE) (wi : TI) (g : TG) (tt : TT) (te : Value → TE) (vs : List Nat) (AA Qs : List Addr) (P : Addr) : TE := fun σ H Q => to σ H fun v H0 => ∃ sep : Str, v = .str sep ∧ wi σ H0 fun J H1 => Nests AA Qs H1 ∧ ∀ c' P' H2, Nested AA Qs P c' P' H1 H2 → ∃ W : Nat → Nat → List V → Hp → Prop, (∃ m, W 0 m [] H2) ∧
  TurnsC J g tt (te (.ref c')) vs σ (fun ys H => ∃ ws : List Str, ys = ws.map V.str ∧ JoinOk sep ws = true ∧ Q (.str (Txt.join sep ws)) H) W
/-- the same within another one, whose code is kept track of -/
def tJI (to : TE) (wi : TI) (g : TG) (tt : TT) (te : TE) (vs : List Nat) (cv : Value) : TE := fun σ H Q => to σ H fun v H0 => ∃ sep : Str, v = .str sep ∧ ∃ c P : Addr, cv = .ref c ∧ wi σ H0 fun J H1 => H1 c = some (CodeO c P) ∧ GxR.TabG H1 P ∧ ∀ H2, GxR.Tabbed P H1 H2 → ∃ W : Nat → Nat → List V → Hp → Prop, (∃ m, W 0 m [] H2) ∧
  TurnsC J g tt te vs σ (fun ys H => ∃ ws : List Str, ys = ws.map V.str ∧ JoinOk sep ws = true ∧ Q (.str (Txt.join sep ws)) H) W
section
variable {X : Cx} {pins : List (Addr × Obj)} {σ : L2.St} {H : Hp} {s : Shared}
theorem pe_joinN {c P : Addr} {o elt tg iter : Expr} {ifs : List Expr} {gpos apos cpos : Pos} {scope : Scope} {own : List (Str × Nat)} {to : TE} {wi : TI} {g : TG} {tt : TT} {te : Value → TE} {k : Nat} {AA Qs : List Addr}
    (hr : Room (k + 2) X.A) (hc : X.calm = true) (hN : X.N.Nodup) (TB : GxR.TabB X.base X.mg c P) (hPm : P ∈ Qs) (hcode : X.env.code = .ref c) (ok : BlkOk X.N X.env.scope scope own) (S : GenK scope) (ho : PE X o to) (hi : PI X tg iter wi)
    (hg : ∀ (A : Around) (s : Shared) (H : Hp) (C : Addr) (code : Value) (fp : List Addr), Room k A → PG (gcx X A s H (genEnv scope (cloFrom X.env.cells scope.names []) C code builtinsNs X.env) fp) tg g)
    (ht : ∀ (A : Around) (s : Shared) (H : Hp) (C : Addr) (code : Value) (fp : List Addr), Room k A → PTs (gcx X A s H (genEnv scope (cloFrom X.env.cells scope.names []) C code builtinsNs X.env) fp) ifs tt)
    (he : ∀ (A : Around) (s : Shared) (H : Hp) (C : Addr) (code : Value) (fp : List Addr), Room k A → PE (gcx X A s H (genEnv scope (cloFrom X.env.cells scope.names []) C code builtinsNs X.env) fp) elt (te code))
    (hs : ∀ v, genFold iter X.env v = pure v := by intro _; rfl) (hbase : attributeBase o "join" X.env (eval o X.env) = eval o X.env := by rfl)
    (hfew : ((backTo cpos (starEach [.GeneratorExp elt [⟨tg, iter, ifs, 0⟩] scope gpos] X.env)).all (fun x => !x.1) && (backToKw cpos (keywordEach [] X.env)).all (fun x => x.1.isSome)
      && decide (([.GeneratorExp elt [⟨tg, iter, ifs, 0⟩] scope gpos] : List Expr).length + ([] : List Keyword).length + (if ([] : List Keyword).isEmpty then 0 else 1) < 30)) = true := by rfl)
    (hline : (apos.endLine == cpos.line) = true := by rfl)
    (hst : starEach [.GeneratorExp elt [⟨tg, iter, ifs, 0⟩] scope gpos] X.env = (false, eval (.GeneratorExp elt [⟨tg, iter, ifs, 0⟩] scope gpos) X.env) :: starEach [] X.env := by rfl)
    (hplain : (backTo cpos (starEach [] X.env)).any (·.1) = false := by rfl) :
    PE X (.Call (.Attribute o "join" apos) [.GeneratorExp elt [⟨tg, iter, ifs, 0⟩] scope gpos] [] cpos) (tJN to wi g tt te (own.map (·.2)) AA Qs P) := by
  refine ⟨fun pins s σ H Q I h => ?_⟩
  refine wpAny_Call_method_late hbase hfew hline rfl (thn (ho.run pins s σ H _ I h) fun v s1 ⟨x', H1, I1, r1, sep, ex, q1⟩ => ?_)
  subst ex
  obtain ⟨tk, rfl⟩ := (show ∃ t, v = Value.str sep t from r1)
  refine ⟨"str", _, PySem.F.plainAttrs_str, PySem.F.slot_str_join, PySem.F.type_str_join, typeIs_str _ _ _, (fun _ e => nomatch e), ?_⟩
  rw [hst]
  refine Calls.callWith_builtin (by show (false || (backTo cpos (starEach [] X.env)).any (·.1)) = false; rw [hplain] <;> rfl) (Calls.evalArgs_plain ?_)
  show wpAny _ _ (spliced ((false, eval (.GeneratorExp elt [⟨tg, iter, ifs, 0⟩] scope gpos) X.env) :: backTo cpos (starEach [] X.env))) _ _ s1
  refine Calls.spliced_cons (wpAny_mono (gen_madeO (k := k) (hr.mono (by omega)) hc hN TB hPm hcode ok S hi hs hg ht he I1 q1) (fun v s5 hx => ?_) fun _ _ e => e)
  obtain ⟨s3, H3, fp, hG, back⟩ := hx
  refine Calls.spliced_nil (call_join_new hr I.ok.frames hG fun s' H' ys q3 q4 q5 q6 q7 => ?_)
  obtain ⟨ws, e1, e2, e3⟩ := q7
  have J := back H' s' q3 q4 q5 q6
  refine ⟨ws, e1, e2, fun t' tk' => ⟨.str _, H', ?_, ⟨t', rfl⟩, e3⟩⟩
  exact J.tok _
theorem pe_joinI {c0 P0 : Addr} {o elt tg iter : Expr} {ifs : List Expr} {gpos apos cpos : Pos} {scope : Scope} {own : List (Str × Nat)} {to : TE} {wi : TI} {g : TG} {tt : TT} {te : TE} {k : Nat} {cv : Value}
    (hr : Room (k + 2) X.A) (hc : X.calm = true) (hN : X.N.Nodup) (TB : GxR.TabB X.base X.mg c0 P0) (hcode : X.env.code = cv) (ok : BlkOk X.N X.env.scope scope own) (S : GenK scope) (ho : PE X o to) (hi : PI X tg iter wi)
    (hg : ∀ (A : Around) (s : Shared) (H : Hp) (C : Addr) (code : Value) (fp : List Addr), Room k A → PG (gcx X A s H (genEnv scope (cloFrom X.env.cells scope.names []) C code builtinsNs X.env) fp) tg g)
    (ht : ∀ (A : Around) (s : Shared) (H : Hp) (C : Addr) (code : Value) (fp : List Addr), Room k A → PTs (gcx X A s H (genEnv scope (cloFrom X.env.cells scope.names []) C code builtinsNs X.env) fp) ifs tt)
    (he : ∀ (A : Around) (s : Shared) (H : Hp) (C : Addr) (code : Value) (fp : List Addr), Room k A → PE (gcx X A s H (genEnv scope (cloFrom X.env.cells scope.names []) C code builtinsNs X.env) fp) elt te)
    (hs : ∀ v, genFold iter X.env v = pure v := by intro _; rfl) (hbase : attributeBase o "join" X.env (eval o X.env) = eval o X.env := by rfl)
    (hfew : ((backTo cpos (starEach [.GeneratorExp elt [⟨tg, iter, ifs, 0⟩] scope gpos] X.env)).all (fun x => !x.1) && (backToKw cpos (keywordEach [] X.env)).all (fun x => x.1.isSome)
      && decide (([.GeneratorExp elt [⟨tg, iter, ifs, 0⟩] scope gpos] : List Expr).length + ([] : List Keyword).length + (if ([] : List Keyword).isEmpty then 0 else 1) < 30)) = true := by rfl)
    (hline : (apos.endLine == cpos.line) = true := by rfl)
    (hst : starEach [.GeneratorExp elt [⟨tg, iter, ifs, 0⟩] scope gpos] X.env = (false, eval (.GeneratorExp elt [⟨tg, iter, ifs, 0⟩] scope gpos) X.env) :: starEach [] X.env := by rfl)
    (hplain : (backTo cpos (starEach [] X.env)).any (·.1) = false := by rfl) :
    PE X (.Call (.Attribute o "join" apos) [.GeneratorExp elt [⟨tg, iter, ifs, 0⟩] scope gpos] [] cpos) (tJI to wi g tt te (own.map (·.2)) cv) := by
  refine ⟨fun pins s σ H Q I h => ?_⟩
  refine wpAny_Call_method_late hbase hfew hline rfl (thn (ho.run pins s σ H _ I h) fun v s1 ⟨x', H1, I1, r1, sep, ex, c, P, ecv, q1⟩ => ?_)
  subst ex
  obtain ⟨tk, rfl⟩ := (show ∃ t, v = Value.str sep t from r1)
  refine ⟨"str", _, PySem.F.plainAttrs_str, PySem.F.slot_str_join, PySem.F.type_str_join, typeIs_str _ _ _, (fun _ e => nomatch e), ?_⟩
  rw [hst]
  refine Calls.callWith_builtin (by show (false || (backTo cpos (starEach [] X.env)).any (·.1)) = false; rw [hplain] <;> rfl) (Calls.evalArgs_plain ?_)
  show wpAny _ _ (spliced ((false, eval (.GeneratorExp elt [⟨tg, iter, ifs, 0⟩] scope gpos) X.env) :: backTo cpos (starEach [] X.env))) _ _ s1
  refine Calls.spliced_cons (wpAny_mono (gen_madeI (c := c) (P := P) (k := k) (hr.mono (by omega)) hc hN TB (hcode.trans ecv) ok S hi hs hg ht he I1 q1) (fun v s5 hx => ?_) fun _ _ e => e)
  obtain ⟨s3, H3, fp, hG, back⟩ := hx
  refine Calls.spliced_nil (call_join_new hr I.ok.frames hG fun s' H' ys q3 q4 q5 q6 q7 => ?_)
  obtain ⟨ws, e1, e2, e3⟩ := q7
  have J := back H' s' q3 q4 q5 q6
  refine ⟨ws, e1, e2, fun t' tk' => ⟨.str _, H', ?_, ⟨t', rfl⟩, e3⟩⟩
  exact J.tok _
/-- tuple(te for g in wi if tt), the code kept track of -/
def tTN (wi : TI) (g : TG) (tt : TT) (te : Value → TE) (vs : List Nat) (AA Qs : List Addr) (P : Addr) : TE := fun σ H Q => wi σ H fun J H1 => Nests AA Qs H1 ∧ ∀ c' P' H2, Nested AA Qs P c' P' H1 H2 → ∃ W : Nat → Nat → List V → Hp → Prop, (∃ m, W 0 m [] H2) ∧
  TurnsC J g tt (te (.ref c')) vs σ (fun ys H => ∀ p, H p = none → Q (.ref p) (upd H p (.tup ys))) W
def tTI (wi : TI) (g : TG) (tt : TT) (te : TE) (vs : List Nat) (cv : Value) : TE := fun σ H Q => ∃ c P : Addr, cv = .ref c ∧ wi σ H fun J H1 => H1 c = some (CodeO c P) ∧ GxR.TabG H1 P ∧ ∀ H2, GxR.Tabbed P H1 H2 → ∃ W : Nat → Nat → List V → Hp → Prop, (∃ m, W 0 m [] H2) ∧
  TurnsC J g tt te vs σ (fun ys H => ∀ p, H p = none → Q (.ref p) (upd H p (.tup ys))) W
theorem pe_tupN {c P : Addr} {elt tg iter : Expr} {ifs : List Expr} {gpos p pos : Pos} {scope : Scope} {own : List (Str × Nat)} {wi : TI} {g : TG} {tt : TT} {te : Value → TE} {k : Nat} {AA Qs : List Addr}
    (hr : Room (k + 2) X.A) (hgl : Gl X "tuple") (hm : X.mg "tuple" = none) (hc : X.calm = true) (hN : X.N.Nodup) (TB : GxR.TabB X.base X.mg c P) (hPm : P ∈ Qs) (hcode : X.env.code = .ref c) (ok : BlkOk X.N X.env.scope scope own) (S : GenK scope) (hi : PI X tg iter wi)
    (hg : ∀ (A : Around) (s : Shared) (H : Hp) (C : Addr) (code : Value) (fp : List Addr), Room k A → PG (gcx X A s H (genEnv scope (cloFrom X.env.cells scope.names []) C code builtinsNs X.env) fp) tg g)
    (ht : ∀ (A : Around) (s : Shared) (H : Hp) (C : Addr) (code : Value) (fp : List Addr), Room k A → PTs (gcx X A s H (genEnv scope (cloFrom X.env.cells scope.names []) C code builtinsNs X.env) fp) ifs tt)
    (he : ∀ (A : Around) (s : Shared) (H : Hp) (C : Addr) (code : Value) (fp : List Addr), Room k A → PE (gcx X A s H (genEnv scope (cloFrom X.env.cells scope.names []) C code builtinsNs X.env) fp) elt (te code))
    (hs : ∀ v, genFold iter X.env v = pure v := by intro _; rfl)
    (hst : starEach [.GeneratorExp elt [⟨tg, iter, ifs, 0⟩] scope gpos] X.env = (false, eval (.GeneratorExp elt [⟨tg, iter, ifs, 0⟩] scope gpos) X.env) :: starEach [] X.env := by rfl) :
    PE X (.Call (.Name "tuple" p) [.GeneratorExp elt [⟨tg, iter, ifs, 0⟩] scope gpos] [] pos) (tTN wi g tt te (own.map (·.2)) AA Qs P) := by
  refine ⟨fun pins s σ H Q I h => ?_⟩
  refine wpAny_Call_Name_kw (ld_blt I hgl hm boot_tuple (PyProof.Rows.callWith_type1 ?_ hst (by rfl)))
  rw [hst]
  show wpAny _ _ (spliced ((false, _) :: backTo pos (starEach [] X.env))) _ _ s
  refine Calls.spliced_cons (wpAny_mono (gen_madeO (k := k) (hr.mono (by omega)) hc hN TB hPm hcode ok S hi hs hg ht he I h) (fun v s5 hx => ?_) fun _ _ e => e)
  obtain ⟨s3, H3, fp, hG, back⟩ := hx
  refine Calls.spliced_nil (call_tuple_new hr I.ok.frames hG fun s' acc H' ys q1 q2 q3 q4 q5 q6 q7 => ?_)
  have J := back H' s' q3 q4 q5 q6
  refine ⟨.ref s'.heap.objs.size, _, J.laid (t' := s'.toks) (o := .tup ys) (fun b u e => Heap.get?_push_of_some _ e) (Nat.le_refl _) ⟨q2, acc.toList, q1, ?_⟩, rfl, q7 _ (J.hok.fresh (Nat.le_refl _))⟩
  have z := IsTup.new s'.heap acc
  simpa using z
theorem pe_tupI {c0 P0 : Addr} {elt tg iter : Expr} {ifs : List Expr} {gpos p pos : Pos} {scope : Scope} {own : List (Str × Nat)} {wi : TI} {g : TG} {tt : TT} {te : TE} {k : Nat} {cv : Value}
    (hr : Room (k + 2) X.A) (hgl : Gl X "tuple") (hm : X.mg "tuple" = none) (hc : X.calm = true) (hN : X.N.Nodup) (TB : GxR.TabB X.base X.mg c0 P0) (hcode : X.env.code = cv) (ok : BlkOk X.N X.env.scope scope own) (S : GenK scope) (hi : PI X tg iter wi)
    (hg : ∀ (A : Around) (s : Shared) (H : Hp) (C : Addr) (code : Value) (fp : List Addr), Room k A → PG (gcx X A s H (genEnv scope (cloFrom X.env.cells scope.names []) C code builtinsNs X.env) fp) tg g)
    (ht : ∀ (A : Around) (s : Shared) (H : Hp) (C : Addr) (code : Value) (fp : List Addr), Room k A → PTs (gcx X A s H (genEnv scope (cloFrom X.env.cells scope.names []) C code builtinsNs X.env) fp) ifs tt)
    (he : ∀ (A : Around) (s : Shared) (H : Hp) (C : Addr) (code : Value) (fp : List Addr), Room k A → PE (gcx X A s H (genEnv scope (cloFrom X.env.cells scope.names []) C code builtinsNs X.env) fp) elt te)
    (hs : ∀ v, genFold iter X.env v = pure v := by intro _; rfl)
    (hst : starEach [.GeneratorExp elt [⟨tg, iter, ifs, 0⟩] scope gpos] X.env = (false, eval (.GeneratorExp elt [⟨tg, iter, ifs, 0⟩] scope gpos) X.env) :: starEach [] X.env := by rfl) :
    PE X (.Call (.Name "tuple" p) [.GeneratorExp elt [⟨tg, iter, ifs, 0⟩] scope gpos] [] pos) (tTI wi g tt te (own.map (·.2)) cv) := by
  refine ⟨fun pins s σ H Q I h => ?_⟩
  obtain ⟨c, P, ecv, h⟩ := h
  refine wpAny_Call_Name_kw (ld_blt I hgl hm boot_tuple (PyProof.Rows.callWith_type1 ?_ hst (by rfl)))
  rw [hst]
  show wpAny _ _ (spliced ((false, _) :: backTo pos (starEach [] X.env))) _ _ s
  refine Calls.spliced_cons (wpAny_mono (gen_madeI (c := c) (P := P) (k := k) (hr.mono (by omega)) hc hN TB (hcode.trans ecv) ok S hi hs hg ht he I h) (fun v s5 hx => ?_) fun _ _ e => e)
  obtain ⟨s3, H3, fp, hG, back⟩ := hx
  refine Calls.spliced_nil (call_tuple_new hr I.ok.frames hG fun s' acc H' ys q1 q2 q3 q4 q5 q6 q7 => ?_)
  have J := back H' s' q3 q4 q5 q6
  refine ⟨.ref s'.heap.objs.size, _, J.laid (t' := s'.toks) (o := .tup ys) (fun b u e => Heap.get?_push_of_some _ e) (Nat.le_refl _) ⟨q2, acc.toList, q1, ?_⟩, rfl, q7 _ (J.hok.fresh (Nat.le_refl _))⟩
  have z := IsTup.new s'.heap acc
  simpa using z
end
end Gx

set_option Elab.async false
set_option linter.all false
set_option maxRecDepth 100000
set_option maxHeartbeats 4000000
/-! riddles as texts -/
namespace Rd
open PySem PySem.Spec PyProof.Rows L2 Dt TL
def numT (i : Int) : Str := Str.ofString (toString i)
def placesT (ps : List Int) : Str := Txt.join (Str.ofString " ") (ps.map numT)
def rowT (r : List Int) : Str := Txt.join (Str.ofString "") (r.map numT)
def rowsT (rs : List (List Int)) : Str := Txt.join (Str.ofString " ") (rs.map rowT)
def wishT (wd : WD) : Str := (((Str.empty ++ Str.ofString "wish ") ++ placesT wd.1) ++ Str.ofString ": ") ++ rowsT wd.2
def headT (many hues : Int) : Str := (((Str.empty ++ Str.ofString "places ") ++ numT many) ++ Str.ofString " hues ") ++ numT hues
def ridT (many hues : Int) (wds : List WD) : Str := Txt.join (Str.ofString "\n") ([headT many hues] ++ wds.map wishT)
/-! as the law writes them -/
def rowsL (r : Str) (rs : List (List Int)) : Str := rs.foldl (fun r h => (r ++ Str.ofString " ") ++ rowT h) r
def wishL (wd : WD) : Str := rowsL ((Str.ofString "wish " ++ placesT wd.1) ++ Str.ofString ":") wd.2
def headL (many hues : Int) : Str := ((Str.ofString "places " ++ numT many) ++ Str.ofString " hues ") ++ numT hues
def ridL (many hues : Int) (wds : List WD) : Str := Txt.join (Str.ofString "\n") ([headL many hues] ++ wds.map wishL)
theorem tl_joinT (y : Str) (ps : List Str) : tl (Txt.join y ps) = joinL (tl y) (ps.map tl) := by rw [join_eq, tl_join]
theorem tl_empty : tl Str.empty = [] := rfl
theorem tl_sp : tl (Str.ofString " ") = [32] := by decide +kernel
theorem rows_tl : ∀ (rs : List (List Int)) (r : Str), tl (rowsL r rs) = tl r ++ (rs.map fun h => 32 :: tl (rowT h)).flatten
  | [], r => by simp [rowsL]
  | h :: rs, r => by
    show tl (rowsL ((r ++ Str.ofString " ") ++ rowT h) rs) = _
    rw [rows_tl rs, tl_append, tl_append, tl_sp]
    simp
theorem join_sp : ∀ (ps : List (List Nat)), ps ≠ [] → 32 :: joinL [32] ps = (ps.map fun p => 32 :: p).flatten
  | [], h => absurd rfl h
  | [p], _ => by simp [joinL]
  | p :: q :: r, _ => by
    have ih := join_sp (q :: r) (by simp)
    rw [joinL, List.map_cons, List.flatten_cons, ← ih]
    simp
theorem wish_same {wd : WD} (h : wd.2 ≠ []) : wishT wd = wishL wd := by
  refine ext_tl ?_
  unfold wishT wishL rowsT
  rw [tl_append, tl_append, tl_append, tl_append, tl_empty, rows_tl, tl_append, tl_append, tl_joinT, tl_sp, List.map_map]
  have e1 : tl (Str.ofString ": ") = tl (Str.ofString ":") ++ [32] := by decide +kernel
  have e2 := join_sp (wd.2.map (tl ∘ rowT)) (by simpa using h)
  rw [List.map_map] at e2
  rw [e1, List.nil_append, List.append_assoc, List.append_assoc, List.append_assoc]
  show _ ++ (_ ++ (_ ++ ([32] ++ joinL [32] (wd.2.map (tl ∘ rowT))))) = _
  rw [show [32] ++ joinL [32] (wd.2.map (tl ∘ rowT)) = 32 :: joinL [32] (wd.2.map (tl ∘ rowT)) from rfl, e2, List.append_assoc]
  rfl
theorem head_same (many hues : Int) : headT many hues = headL many hues := by
  refine ext_tl ?_
  unfold headT headL
  rw [tl_append, tl_append, tl_append, tl_append, tl_empty, List.nil_append, tl_append, tl_append, tl_append]
theorem rid_same {many hues : Int} {wds : List WD} (g : GoodR many hues wds) : ridT many hues wds = ridL many hues wds := by
  unfold ridT ridL
  rw [head_same]
  congr 2
  refine List.map_congr_left fun wd hw => wish_same fun z => ?_
  have := (g.each wd hw).some_
  rw [z] at this
  exact absurd this (by decide)
/-! lengths -/
theorem len_app (x y : Str) : (x ++ y).length = x.length + y.length := by rw [len_tl, tl_append, List.length_append, ← len_tl, ← len_tl]
theorem len_num {i : Int} (h0 : 0 ≤ i) (h1 : i ≤ 9) : (numT i).length ≤ 1 := by
  have all : ∀ n : Nat, n < 10 → (numT (n : Int)).length ≤ 1 := by decide +kernel
  have z := all i.toNat (by omega)
  rw [show ((i.toNat : Nat) : Int) = i by omega] at z
  exact z
theorem num_small {i : Int} (h0 : 0 ≤ i) (h1 : i ≤ 9) : i.natAbs.log2 < 1920 := by
  have : i.natAbs ≤ 9 := by omega
  have all : ∀ n : Nat, n < 10 → n.log2 < 1920 := by decide +kernel
  exact all _ (by omega)
theorem sum_le {α : Type} (l : List α) (f : α → Nat) (b : Nat) (h : ∀ x ∈ l, f x ≤ b) : (l.map f).sum ≤ l.length * b := by
  induction l with
  | nil => simp
  | cons x r ih =>
    rw [List.map_cons, List.sum_cons, List.length_cons, Nat.succ_mul]
    have h1 := h x List.mem_cons_self
    have h2 := ih fun y hy => h y (List.mem_cons_of_mem _ hy)
    omega
theorem joinOk_of {sep : Str} {ws : List Str} (h : (ws.map (·.length)).sum + ws.length * sep.length ≤ 16777216) : JoinOk sep ws = true := PyProof.Rows.joinOk_of h
theorem len_join (sep : Str) (ws : List Str) (b : Nat) (h : ∀ w ∈ ws, w.length ≤ b) : (Txt.join sep ws).length ≤ ws.length * b + ws.length * sep.length := by
  rw [join_eq]
  have a := StrLaws.join_length_le sep ws
  have c := sum_le ws (·.length) b h
  omega
theorem len_ofs {s : String} {n : Nat} (h : (Str.ofString s).length = n) : (Str.ofString s).length ≤ n := Nat.le_of_eq h
theorem len_places {many : Int} {ps : List Int} (m : many ≤ 6) (h : ∀ p ∈ ps, 0 ≤ p ∧ p < many) (h3 : ps.length ≤ 3) : (placesT ps).length ≤ 6 := by
  have z := len_join (Str.ofString " ") (ps.map numT) 1 fun w hw => by
    obtain ⟨p, hp, rfl⟩ := List.mem_map.mp hw
    have := h p hp
    exact len_num (by omega) (by omega)
  have e : (Str.ofString " ").length = 1 := by decide +kernel
  rw [List.length_map, e] at z
  unfold placesT
  omega
theorem len_row {hues : Int} {r : List Int} (m : hues ≤ 4) (h : ∀ p ∈ r, 0 ≤ p ∧ p < hues) (h3 : r.length ≤ 3) : (rowT r).length ≤ 3 := by
  have z := len_join (Str.ofString "") (r.map numT) 1 fun w hw => by
    obtain ⟨p, hp, rfl⟩ := List.mem_map.mp hw
    have := h p hp
    exact len_num (by omega) (by omega)
  have e : (Str.ofString "").length = 0 := by decide +kernel
  rw [List.length_map, e] at z
  unfold rowT
  omega
theorem len_rows {many hues : Int} {wd : WD} (m : hues ≤ 4) (g : Good many hues wd) : (rowsT wd.2).length ≤ 256 := by
  have z := len_join (Str.ofString " ") (wd.2.map rowT) 3 fun w hw => by
    obtain ⟨r, hr, rfl⟩ := List.mem_map.mp hw
    have := g.row r hr
    have := g.three
    exact len_row m (g.row r hr).2 (by omega)
  have e : (Str.ofString " ").length = 1 := by decide +kernel
  rw [List.length_map, e] at z
  have := g.few
  unfold rowsT
  omega
theorem len_wish {many hues : Int} {wd : WD} (m6 : many ≤ 6) (m : hues ≤ 4) (g : Good many hues wd) : (wishT wd).length ≤ 300 := by
  unfold wishT
  rw [len_app, len_app, len_app, len_app]
  have a := len_places m6 g.pl g.three
  have b := len_rows m g
  have e1 : Str.empty.length = 0 := rfl
  have e2 : (Str.ofString "wish ").length = 5 := by decide +kernel
  have e3 : (Str.ofString ": ").length = 2 := by decide +kernel
  omega
theorem len_head {many hues : Int} (m0 : 0 ≤ many) (m6 : many ≤ 6) (h0 : 0 ≤ hues) (m : hues ≤ 4) : (headT many hues).length ≤ 20 := by
  unfold headT
  rw [len_app, len_app, len_app, len_app]
  have a := len_num m0 (by omega : many ≤ 9)
  have b := len_num h0 (by omega : hues ≤ 9)
  have e1 : Str.empty.length = 0 := rfl
  have e2 : (Str.ofString "places ").length = 7 := by decide +kernel
  have e3 : (Str.ofString " hues ").length = 6 := by decide +kernel
  omega
/-! all but tables stays -/
def IsTbl (H : Hp) (b : Addr) : Prop := ∃ ps, H b = some (.tbl ps)
structure NFr (A Qs : List Addr) (H H' : Hp) : Prop where
  keep : ∀ b o, (∀ ps, o ≠ .tbl ps) → H b = some o → H' b = some o
  tabs : ∀ b, IsTbl H b → IsTbl H' b
  tabg : ∀ b, GxR.TabG H b → GxR.TabG H' b
  nest : Gx.Nests A Qs H'
theorem NFr.trans {A Qs : List Addr} {H H1 H2 : Hp} (a : NFr A Qs H H1) (b : NFr A Qs H1 H2) : NFr A Qs H H2 := ⟨fun x o n e => b.keep x o n (a.keep x o n e), fun x t => b.tabs x (a.tabs x t), fun x t => b.tabg x (a.tabg x t), b.nest⟩
theorem NFr.seqs {A Qs : List Addr} {H H' : Hp} (a : NFr A Qs H H') : Seqs H H' := ⟨fun b xs e => a.keep b _ (fun _ z => by cases z) e, fun b xs e => a.keep b _ (fun _ z => by cases z) e⟩
theorem nests_keep {A Qs : List Addr} {H H' : Hp} (h : Gx.Nests A Qs H) (k0 : ∀ b, b ∈ A → H b ≠ none → H' b ≠ none) (k : ∀ b o, ((∃ ps, o = .tbl ps) ∨ ∃ φ, o = .ext φ) → H b = some o → H' b = some o) : Gx.Nests A Qs H' := by
  refine ⟨fun P hP => k0 P hP (h.1 P hP), fun P hP => ⟨(h.2 P hP).1, ?_⟩⟩
  obtain ⟨_, ps, h1, h2, h3⟩ := h.2 P hP
  refine ⟨ps, k _ _ (.inl ⟨_, rfl⟩) h1, h2, fun pos cv e => ?_⟩
  obtain ⟨c2, P2, e1, e2, ⟨qs, q1, q2⟩, e4⟩ := h3 pos cv e
  exact ⟨c2, P2, e1, k _ _ (.inr ⟨_, rfl⟩) e2, ⟨qs, k _ _ (.inl ⟨_, rfl⟩) q1, q2⟩, e4⟩
theorem nests_same {A Qs : List Addr} {H H' : Hp} (h : Gx.Nests A Qs H) (s : Same H H') : Gx.Nests A Qs H' := nests_keep h (fun b _ n z => by
  cases e : H b with
  | none => exact n e
  | some o => rw [s b o e] at z; cases z) fun b o _ e => s _ _ e
theorem NFr.refl {A Qs : List Addr} {H : Hp} (h : Gx.Nests A Qs H) : NFr A Qs H H := ⟨fun _ _ _ e => e, fun _ t => t, fun _ t => t, h⟩
theorem NFr.same {A Qs : List Addr} {H H1 H2 : Hp} (a : NFr A Qs H H1) (s : Same H1 H2) : NFr A Qs H H2 := ⟨fun b o n e => s _ _ (a.keep b o n e), fun b t => (a.tabs b t).imp fun _ e => s _ _ e, fun b t => let ⟨ps, e, r⟩ := a.tabg b t; ⟨ps, s _ _ e, r⟩, nests_same a.nest s⟩
theorem NFr.nested {A Qs : List Addr} {H H1 H2 : Hp} {P c' P' : Addr} (a : NFr A Qs H H1) (hP : P ∈ Qs) (n : Gx.Nested A Qs P c' P' H1 H2) : NFr A Qs H H2 := by
  obtain ⟨_, ps, t1, _⟩ := a.nest.2 P hP
  obtain ⟨_, rs, r, r2, _⟩ := n.nest.2 P hP
  refine ⟨fun b o nt e => ?_, fun b t => ?_, fun b t => ?_, n.nest⟩
  · have e1 := a.keep b o nt e
    exact n.keep b o (fun z => by rw [z, t1] at e1; exact nt ps (Option.some.inj e1).symm) e1
  · obtain ⟨qs, q⟩ := a.tabs b t
    by_cases hb : b = P
    · rw [hb]
      exact ⟨rs, r⟩
    · exact ⟨qs, n.keep b _ hb q⟩
  · obtain ⟨qs, q, q2⟩ := a.tabg b t
    by_cases hb : b = P
    · rw [hb]
      exact ⟨rs, r, r2⟩
    · exact ⟨qs, n.keep b _ hb q, q2⟩
theorem NFr.tabbed {A Qs : List Addr} {H H1 H2 : Hp} {P' : Addr} (a : NFr A Qs H H1) (ne : P' ∉ A) (hP : GxR.TabG H1 P') (t : GxR.Tabbed P' H1 H2) : NFr A Qs H H2 := by
  obtain ⟨ps, t1, _⟩ := id hP
  refine ⟨fun b o nt e => ?_, fun b tb => ?_, fun b tb => ?_, a.nest.tabbed ne hP t⟩
  · have e1 := a.keep b o nt e
    rw [t.2 b (fun z => by rw [z, t1] at e1; exact nt ps (Option.some.inj e1).symm)]
    exact e1
  · by_cases hb : b = P'
    · obtain ⟨rs, r, _⟩ := t.1
      rw [hb]
      exact ⟨rs, r⟩
    · obtain ⟨qs, q⟩ := a.tabs b tb
      exact ⟨qs, by rw [t.2 b hb]; exact q⟩
  · by_cases hb : b = P'
    · rw [hb]
      exact t.1
    · obtain ⟨qs, q, q2⟩ := a.tabg b tb
      exact ⟨qs, by rw [t.2 b hb]; exact q, q2⟩
theorem NFr.free {A Qs : List Addr} {H H1 : Hp} {b : Addr} (a : NFr A Qs H H1) (h : H1 b = none) : H b = none := by
  cases e : H b with
  | none => rfl
  | some o =>
    by_cases ht : ∃ ps, o = .tbl ps
    · obtain ⟨ps, rfl⟩ := ht
      obtain ⟨qs, q⟩ := a.tabs b ⟨ps, e⟩
      rw [h] at q
      cases q
    · have := a.keep b o (fun ps z => ht ⟨ps, z⟩) e
      rw [h] at this
      cases this
theorem NFr.put {A Qs : List Addr} {H H1 : Hp} {b : Addr} {xs : List V} {o : HO} (a : NFr A Qs H H1) (n : H b = none) (l : H1 b = some (.lst xs)) : NFr A Qs H (upd H1 b o) := by
  refine ⟨fun c u nt e => ?_, fun c t => ?_, fun c t => ?_, nests_keep a.nest (fun c _ h z => ?_) fun c u h e => ?_⟩
  · rw [upd_ne (fun z => by rw [z, n] at e; cases e)]
    exact a.keep c u nt e
  · obtain ⟨ps, e⟩ := id t
    obtain ⟨qs, q⟩ := a.tabs c t
    exact ⟨qs, by rw [upd_ne (fun z => by rw [z, n] at e; cases e)]; exact q⟩
  · obtain ⟨ps, e, _⟩ := id t
    obtain ⟨qs, q, q2⟩ := a.tabg c t
    exact ⟨qs, by rw [upd_ne (fun z => by rw [z, n] at e; cases e)]; exact q, q2⟩
  · by_cases hb : c = b
    · rw [hb, upd_same] at z
      cases z
    · rw [upd_ne hb] at z
      exact h z
  · rw [upd_ne (fun z => by
      rw [z, l] at e
      have e := Option.some.inj e
      rcases h with ⟨ps, h⟩ | ⟨φ, h⟩
      · rw [h] at e
        cases e
      · rw [h] at e
        cases e)]
    exact e
/-- a frame over plain tables -/
theorem NFr.ofS {A Qs Ps : List Addr} {H H' : Hp} (hT : Tabs Ps H) (hN : Gx.Nests A Qs H) (sub : ∀ P ∈ Ps, P ∈ A) (dis : ∀ P ∈ Qs, P ∉ Ps) (f : FrS Ps H H') : NFr A Qs H H' := by
  have nt : ∀ b o, (∀ ps, o ≠ .tbl ps) → H b = some o → b ∉ Ps := fun b o n e hb => by
    obtain ⟨ps, h, _⟩ := hT b hb
    rw [h] at e
    exact n ps (Option.some.inj e).symm
  have tg : ∀ b, GxR.TabG H b → GxR.TabG H' b := fun b t => by
    by_cases hb : b ∈ Ps
    · exact f.2 b hb
    · obtain ⟨ps, e, r⟩ := t
      exact ⟨ps, f.1 b _ hb e, r⟩
  refine ⟨fun b o n e => f.1 b o (nt b o n e) e, fun b t => ?_, tg, ⟨fun P hP z => ?_, fun P hP => ⟨(hN.2 P hP).1, ?_⟩⟩⟩
  · by_cases hb : b ∈ Ps
    · obtain ⟨qs, q, _⟩ := f.2 b hb
      exact ⟨qs, q⟩
    · exact t.imp fun _ e => f.1 b _ hb e
  · by_cases hb : P ∈ Ps
    · obtain ⟨qs, q, _⟩ := f.2 P hb
      rw [q] at z
      cases z
    · cases e : H P with
      | none => exact hN.1 P hP e
      | some o =>
        rw [f.1 P o hb e] at z
        cases z
  · obtain ⟨_, ps, h1, h2, h3⟩ := hN.2 P hP
    refine ⟨ps, f.1 P _ (dis P hP) h1, h2, fun pos cv e => ?_⟩
    obtain ⟨c2, P2, e1, e2, e3, e4⟩ := h3 pos cv e
    exact ⟨c2, P2, e1, f.1 c2 _ (nt c2 _ (fun _ z => by cases z) e2) e2, tg P2 e3, e4⟩
theorem NFr.tab {A Qs Ps : List Addr} {H H' : Hp} (a : NFr A Qs H H') (hT : Tabs Ps H) : Tabs Ps H' := fun P hP => a.tabg P (hT P hP)
end Rd

set_option Elab.async false
set_option linter.all false
set_option maxRecDepth 100000
set_option maxHeartbeats 4000000
/-! the greatest of a list of pairs -/
namespace Rd
open PySem PySem.Spec PyProof.Rows L2 Dt
def pairD (z : Int × Int) : PyData := .tuple [.int z.1, .int z.2]
theorem pairD_inj {a b : Int × Int} (h : pairD a = pairD b) : a = b := by
  unfold pairD at h
  injection h with h
  injection h with h1 h2
  injection h1 with h1
  injection h2 with h2 _
  injection h2 with h2
  exact Prod.ext h1 h2
def ltP (a b : Int × Int) : Bool := PySem.W.dataLt (pairD a) (pairD b)
theorem ltP_le {a b : Int × Int} (h : ltP a b = true) : a.1 ≤ b.1 := by
  by_cases e : a.1 = b.1
  · omega
  · unfold ltP pairD at h
    rw [PySem.W.dataLt_tuple, PySem.W.dataLt_all_no (by simp [PySem.W.alike]) (by simp [PyData.eqv]; exact e), PySem.W.dataLt_int] at h
    have := of_decide_eq_true h
    omega
theorem ltP_of {a b : Int × Int} (h : a.1 < b.1) : ltP a b = true := by
  unfold ltP pairD
  rw [PySem.W.dataLt_tuple, PySem.W.dataLt_all_no (by simp [PySem.W.alike]) (by simp [PyData.eqv]; omega), PySem.W.dataLt_int]
  exact decide_eq_true h
def maxP (x : Int × Int) (xs : List (Int × Int)) : Int × Int := xs.foldl (fun a y => if ltP a y then y else a) x
theorem maxD_pairs : ∀ (xs : List (Int × Int)) (x : Int × Int), PySem.W.maxD (pairD x) (xs.map pairD) = pairD (maxP x xs)
  | [], _ => rfl
  | y :: r, x => by
    have ih := maxD_pairs r (if ltP x y then y else x)
    unfold PySem.W.maxD maxP at ih ⊢
    rw [List.map_cons, List.foldl_cons, List.foldl_cons, ← ih]
    congr 1
    unfold ltP
    split <;> rfl
theorem maxP_is : ∀ (xs : List (Int × Int)) (x : Int × Int), maxP x xs ∈ x :: xs ∧ x.1 ≤ (maxP x xs).1 ∧ ∀ y ∈ xs, y.1 ≤ (maxP x xs).1
  | [], x => ⟨List.mem_cons_self, Int.le_refl _, fun _ h => nomatch h⟩
  | y :: r, x => by
    obtain ⟨m, a, b⟩ := maxP_is r (if ltP x y then y else x)
    have e : maxP x (y :: r) = maxP (if ltP x y then y else x) r := rfl
    rw [e]
    by_cases c : ltP x y = true
    · rw [if_pos c] at m a b ⊢
      have := ltP_le c
      refine ⟨List.mem_cons_of_mem _ m, by omega, fun z hz => ?_⟩
      rcases List.mem_cons.mp hz with rfl | hz
      · exact a
      · exact b z hz
    · rw [if_neg c] at m a b ⊢
      have : y.1 ≤ x.1 := by
        by_cases d : x.1 < y.1
        · exact absurd (ltP_of d) c
        · omega
      refine ⟨?_, a, fun z hz => ?_⟩
      · rcases List.mem_cons.mp m with m | m
        · rw [m]
          exact List.mem_cons_self
        · exact List.mem_cons_of_mem _ (List.mem_cons_of_mem _ m)
      · rcases List.mem_cons.mp hz with rfl | hz
        · omega
        · exact b z hz
/-- max(xs) of a list of pairs: one of the greatest first ones -/
def rMaxP (K : PySem.W.Frag) : List V → Hp → VK → Prop := fun vs H Q => ∃ (a : Addr) (ts : List Addr) (k : Addr → Int × Int), vs = [V.ref a] ∧ SqL K H a (ts.map V.ref) ∧ ts ≠ [] ∧ (∀ t ∈ ts, H t = some (.tup [.int (k t).1, .int (k t).2])) ∧
  ∀ t ∈ ts, (∀ u ∈ ts, (k u).1 ≤ (k t).1) → Q (.ref t) H
theorem dpPairs {K : PySem.W.Frag} {H : Hp} {k : Addr → Int × Int} : ∀ {ts : List Addr}, (∀ t ∈ ts, H t = some (.tup [.int (k t).1, .int (k t).2])) → DpAll K H (ts.map V.ref) ((ts.map k).map pairD)
  | [], _ => .nil
  | t :: r, h => .cons (.tup (.inl (.inl (h t List.mem_cons_self))) (.cons (.int _) (.cons (.int _) .nil))) (dpPairs fun u hu => h u (List.mem_cons_of_mem _ hu))
theorem readsAll_get {h : Heap} : ∀ {vs : List Value} {xs : List PyData} {as : List Addr}, ReadsAll h vs xs as → ∀ {i : Nat} {v : Value} {d : PyData}, vs[i]? = some v → xs[i]? = some d → ∃ bs, Reads h v d bs
  | _, _, _, .nil, _, _, _, hv, _ => by simp at hv
  | _, _, _, .cons r rs, 0, v, d, hv, hd => by
    cases Option.some.inj (show some _ = some v from hv)
    cases Option.some.inj (show some _ = some d from hd)
    exact ⟨_, r⟩
  | _, _, _, .cons r rs, i + 1, v, d, hv, hd => readsAll_get rs (i := i) hv hd
theorem cr_maxP {X : Cx} (hc : X.calm = true) (hu : X.A.units + 64 < cLine) : CallR X (.builtin "max") (rMaxP X.K) := by
  intro pins s σ H vs us Q I r h
  obtain ⟨a, ts, k, rfl, hs, hne, hk, q⟩ := h
  obtain ⟨its, rv, hl, _⟩ := I.list hs
  rw [Vals.ref1 r]
  have ei := Tt.vals_refs rv
  obtain ⟨as, rr⟩ := Dp.readsAll I _ _ _ (dpPairs hk) rv
  cases ts with
  | nil => exact absurd rfl hne
  | cons t0 tr =>
    refine PySem.W.max_list_data (x := pairD (k t0)) (xs := (tr.map k).map pairD) (I.ok.hd hc) hl.isList rr ⟨fun x hx y hy => ?_, fun x hx => ?_⟩ ?_ fun i v h' tk bs hi hrd hkp => ?_
    · have px : ∀ x ∈ pairD (k t0) :: (tr.map k).map pairD, ∃ z, x = pairD z := fun x hx => by
        rcases List.mem_cons.mp hx with e | e
        · exact ⟨_, e⟩
        · obtain ⟨z, _, e⟩ := List.mem_map.mp e
          exact ⟨z, e.symm⟩
      obtain ⟨z, rfl⟩ := px x hx
      obtain ⟨z', rfl⟩ := px y hy
      simp [pairD, PySem.W.alike, PySem.W.alikeAll]
    · rcases List.mem_cons.mp hx with e | e
      · rw [e]
        exact fun z => nomatch z
      · obtain ⟨z, _, e⟩ := List.mem_map.mp e
        rw [← e]
        exact fun z => nomatch z
    · have d : PyData.depthAll (pairD (k t0) :: (tr.map k).map pairD) ≤ 3 := by
        have all : ∀ zs : List (Int × Int), PyData.depthAll (zs.map pairD) ≤ 3 := fun zs => by
          induction zs with
          | nil => simp [PyData.depthAll]
          | cons z r ih =>
            rw [List.map_cons]
            simp only [PyData.depthAll, pairD, PyData.depth]
            omega
        exact all (k t0 :: tr.map k)
      omega
    · have hi' : ((t0 :: tr).map Value.ref)[i]? = some v := by
        rw [← ei]
        have z := hi
        rw [List.getElem?_toArray] at z
        exact z
      rw [List.getElem?_map] at hi'
      cases et : (t0 :: tr)[i]? with
      | none => rw [et] at hi'; cases hi'
      | some t =>
        rw [et] at hi'
        cases hi'
        have mt := List.mem_of_getElem? et
        obtain ⟨bs2, r2⟩ := readsAll_get rr (i := i) (v := .ref t) (d := pairD (k t)) (by rw [ei, List.getElem?_map, et]; rfl) (by rw [List.getElem?_map, List.getElem?_map, et]; rfl)
        have e := (PyProof.Rows.reads_det (fun b o e _ => hkp b o e) r2 hrd).1
        rw [maxD_pairs] at e
        have ek := pairD_inj e
        obtain ⟨_, m1, m2⟩ := maxP_is (tr.map k) (k t0)
        refine ⟨.ref t, H, I.kept hkp, rfl, q t mt fun u hu' => ?_⟩
        rw [← ek]
        rcases List.mem_cons.mp hu' with rfl | hu'
        · exact m1
        · exact m2 _ (List.mem_map.mpr ⟨u, hu', rfl⟩)
end Rd

set_option Elab.async false
set_option linter.all false
set_option maxRecDepth 100000
set_option maxHeartbeats 4000000
/-! how many fillings break one wish: rows times hues to the power of the other places -/
namespace Rd
open PySem PySem.Spec PyProof.Rows L2 Dt
def okG (g : Nat → Option Int) (n : Nat) (f : List Int) : Bool := (List.range n).all fun i => match g i with
  | none => true
  | some z => decide (f.getD i 0 = z)
theorem okG_snoc (g : Nat → Option Int) {n : Nat} {f : List Int} (hl : f.length = n) (x : Int) : okG g (n + 1) (f ++ [x]) = (okG g n f && (match g n with | none => true | some z => decide (x = z))) := by
  unfold okG
  rw [List.range_succ, List.all_append]
  have e1 : ((List.range n).all fun i => match g i with | none => true | some z => decide ((f ++ [x]).getD i 0 = z)) = (List.range n).all fun i => match g i with | none => true | some z => decide (f.getD i 0 = z) := by
    rw [Bool.eq_iff_iff, List.all_eq_true, List.all_eq_true]
    have e : ∀ i ∈ List.range n, (f ++ [x]).getD i 0 = f.getD i 0 := fun i hi => by
      have := List.mem_range.mp hi
      rw [List.getD_eq_getElem?_getD, List.getD_eq_getElem?_getD, List.getElem?_append_left (by omega)]
    constructor
    · intro h i hi
      have := h i hi
      rw [e i hi] at this
      exact this
    · intro h i hi
      rw [e i hi]
      exact h i hi
  rw [e1]
  have e2 : (f ++ [x]).getD n 0 = x := by
    rw [List.getD_eq_getElem?_getD, List.getElem?_append_right (by omega), hl, Nat.sub_self]
    rfl
  simp only [List.all_cons, List.all_nil, Bool.and_true, e2]
def wt (h : Nat) (g : Nat → Option Int) : Nat → Nat
  | 0 => 1
  | n + 1 => wt h g n * (match g n with | none => h | some _ => 1)
theorem cnt_none : ∀ (h : Nat) (z : Int), ¬ (0 ≤ z ∧ z < (h : Int)) → (List.range h).countP (fun i => decide (((i : Nat) : Int) = z)) = 0
  | 0, _, _ => rfl
  | h + 1, z, n => by
    rw [List.range_succ, List.countP_append, cnt_none h z (by omega), List.countP_cons, decide_eq_false (by omega : ¬ ((h : Nat) : Int) = z)]
    rfl
theorem cnt_eq : ∀ (h : Nat) (z : Int), 0 ≤ z → z < (h : Int) → (List.range h).countP (fun i => decide (((i : Nat) : Int) = z)) = 1
  | 0, z, h0, h1 => by omega
  | h + 1, z, h0, h1 => by
    rw [List.range_succ, List.countP_append, List.countP_cons]
    by_cases e : z = (h : Int)
    · rw [cnt_none h z (by omega), decide_eq_true e.symm]
      rfl
    · rw [cnt_eq h z h0 (by omega), decide_eq_false (by omega : ¬ ((h : Nat) : Int) = z)]
      rfl
theorem sum_map_if {α : Type} (p : α → Bool) (c : Nat) : ∀ l : List α, (l.map fun x => if p x = true then c else 0).sum = l.countP p * c
  | [] => by simp
  | x :: r => by
    rw [List.map_cons, List.sum_cons, sum_map_if p c r, List.countP_cons]
    by_cases e : p x = true
    · rw [if_pos e, if_pos e, Nat.add_mul]; omega
    · rw [if_neg e, if_neg e, Nat.zero_add, Nat.add_zero]
theorem cnt_ok (h : Nat) (g : Nat → Option Int) (hg : ∀ i z, g i = some z → 0 ≤ z ∧ z < (h : Int)) : ∀ n : Nat, (fillL h n).countP (okG g n) = wt h g n
  | 0 => rfl
  | n + 1 => by
    show ((fillL h n).flatMap (longer h)).countP (okG g (n + 1)) = _
    rw [List.countP_flatMap]
    have e : (fillL h n).map (List.countP (okG g (n + 1)) ∘ longer h) = (fillL h n).map fun f => if okG g n f = true then (match g n with | none => h | some _ => 1) else 0 := by
      refine List.map_congr_left fun f hf => ?_
      have fl := (fill_good hf).1
      show ((longer h f).countP (okG g (n + 1))) = _
      unfold longer
      rw [List.countP_map]
      have e3 : (okG g (n + 1) ∘ fun x : Nat => f ++ [((x : Nat) : Int)]) = fun x : Nat => (okG g n f && (match g n with | none => true | some z => decide (((x : Nat) : Int) = z))) := by
        funext x
        exact okG_snoc g fl _
      rw [e3]
      cases ok : okG g n f with
      | false => simp
      | true =>
        cases eg : g n with
        | none => simp
        | some z =>
          simp only [Bool.true_and, if_true]
          exact cnt_eq h z (hg n z eg).1 (hg n z eg).2
    rw [e, sum_map_if, cnt_ok h g hg n]
    rfl
/-- what a row asks of a place -/
def askG (ps row : List Int) (i : Nat) : Option Int := if ((i : Nat) : Int) ∈ ps then some (row.getD (ps.idxOf ((i : Nat) : Int)) 0) else none
theorem ok_ask {ps row f : List Int} {n : Nat} (nd : ps.Nodup) (hp : ∀ p ∈ ps, 0 ≤ p ∧ p < (n : Int)) (hr : row.length = ps.length) : okG (askG ps row) n f = decide (huesA f ps = row) := by
  rw [Bool.eq_iff_iff, decide_eq_true_eq]
  unfold okG
  rw [List.all_eq_true]
  constructor
  · intro h
    refine List.ext_getElem (by rw [huesA, List.length_map, hr]) fun k h1 h2 => ?_
    have hk : k < ps.length := by rw [huesA, List.length_map] at h1; exact h1
    have hm := List.getElem_mem hk
    obtain ⟨p0, p1⟩ := hp _ hm
    have z := h ps[k].toNat (List.mem_range.mpr (by omega))
    have e : ((ps[k].toNat : Nat) : Int) = ps[k] := by omega
    have ei : ps.idxOf ps[k] = k := nd.idxOf_getElem k hk
    unfold askG at z
    rw [e, if_pos hm, ei] at z
    have z := of_decide_eq_true z
    simp only [huesA, List.getElem_map, atF]
    rw [z, List.getD_eq_getElem?_getD, List.getElem?_eq_getElem h2]
    rfl
  · intro h i hi
    unfold askG
    by_cases e : ((i : Nat) : Int) ∈ ps
    · rw [if_pos e]
      refine decide_eq_true ?_
      have hx := List.idxOf_lt_length_of_mem e
      have e2 : (List.map (atF f) ps).getD (List.idxOf ((i : Nat) : Int) ps) 0 = f.getD i 0 := by
        rw [List.getD_eq_getElem?_getD, List.getElem?_map, List.getElem?_eq_getElem hx]
        simp only [Option.map_some, Option.getD_some, List.getElem_idxOf, atF, Int.toNat_natCast]
      rw [← h, huesA, e2]
    · rw [if_neg e]
theorem wt_ask (h : Nat) (ps row : List Int) : ∀ n : Nat, wt h (askG ps row) n = h ^ ((List.range n).countP fun i => decide (¬ ((i : Nat) : Int) ∈ ps))
  | 0 => rfl
  | n + 1 => by
    rw [wt, wt_ask h ps row n, List.range_succ, List.countP_append, List.countP_cons, List.countP_nil, Nat.zero_add, Nat.pow_add]
    congr 1
    unfold askG
    by_cases e : ((n : Nat) : Int) ∈ ps
    · rw [if_pos e, decide_eq_false (fun z => z e)]
      rfl
    · rw [if_neg e, decide_eq_true e]
      simp
theorem cnt_in (n : Nat) : ∀ ps : List Int, ps.Nodup → (∀ p ∈ ps, 0 ≤ p ∧ p < (n : Int)) → ((List.range n).countP fun i => decide (((i : Nat) : Int) ∈ ps)) = ps.length
  | [], _, _ => by simp
  | p :: r, nd, hp => by
    obtain ⟨n1, n2⟩ := List.nodup_cons.mp nd
    have ih := cnt_in n r n2 fun q hq => hp q (List.mem_cons_of_mem _ hq)
    have h1 := cnt_eq n p (hp p List.mem_cons_self).1 (hp p List.mem_cons_self).2
    rw [List.length_cons, ← ih, ← h1]
    clear ih h1 hp nd n2
    induction n with
    | zero => rfl
    | succ n ih =>
      rw [List.range_succ, List.countP_append, List.countP_append, List.countP_append, ih]
      have e : ((([n] : List Nat).countP fun i => decide (((i : Nat) : Int) ∈ p :: r)) : Nat) = (([n] : List Nat).countP fun i => decide (((i : Nat) : Int) ∈ r)) + (([n] : List Nat).countP fun i => decide (((i : Nat) : Int) = p)) := by
        rw [List.countP_singleton, List.countP_singleton, List.countP_singleton]
        by_cases a : ((n : Nat) : Int) = p
        · have b : ¬ ((n : Nat) : Int) ∈ r := fun z => n1 (a ▸ z)
          rw [decide_eq_true a, decide_eq_false b, decide_eq_true (List.mem_cons.mpr (.inl a))]
          rfl
        · rw [decide_eq_false a]
          by_cases b : ((n : Nat) : Int) ∈ r
          · rw [decide_eq_true b, decide_eq_true (List.mem_cons_of_mem _ b)]
            rfl
          · rw [decide_eq_false b, decide_eq_false fun z => (List.mem_cons.mp z).elim a b]
            rfl
      rw [e]
      omega
theorem cnt_out {n : Nat} {ps : List Int} (nd : ps.Nodup) (hp : ∀ p ∈ ps, 0 ≤ p ∧ p < (n : Int)) : ((List.range n).countP fun i => decide (¬ ((i : Nat) : Int) ∈ ps)) = n - ps.length := by
  have a := cnt_in n ps nd hp
  have b := List.length_eq_countP_add_countP (l := List.range n) (fun i : Nat => decide (((i : Nat) : Int) ∈ ps))
  rw [List.length_range, a] at b
  have e : (fun i : Nat => decide (¬ ((i : Nat) : Int) ∈ ps)) = fun i : Nat => decide ¬ (decide (((i : Nat) : Int) ∈ ps) = true) := by
    funext i
    by_cases m : ((i : Nat) : Int) ∈ ps
    · rw [decide_eq_false (fun z => z m), decide_eq_true m]
      rfl
    · rw [decide_eq_true m, decide_eq_false m]
      rfl
  rw [e]
  omega
theorem cnt_row (h : Nat) {n : Nat} {ps row : List Int} (nd : ps.Nodup) (hp : ∀ p ∈ ps, 0 ≤ p ∧ p < (n : Int)) (hr : row.length = ps.length) (hh : ∀ z ∈ row, 0 ≤ z ∧ z < (h : Int)) : ((fillL h n).countP fun f => decide (huesA f ps = row)) = h ^ (n - ps.length) := by
  have c := cnt_ok h (askG ps row) (fun i z e => ?_) n
  · have e : okG (askG ps row) n = fun f => decide (huesA f ps = row) := funext fun f => ok_ask nd hp hr
    rw [e, wt_ask, cnt_out nd hp] at c
    exact c
  · unfold askG at e
    by_cases m : ((i : Nat) : Int) ∈ ps
    · rw [if_pos m] at e
      injection e with e
      have hx := List.idxOf_lt_length_of_mem m
      rw [List.getD_eq_getElem?_getD, List.getElem?_eq_getElem (by omega)] at e
      rw [← e]
      exact hh _ (List.getElem_mem _)
    · rw [if_neg m] at e
      cases e
/-- how many fillings a wish's rows break -/
theorem cnt_brk (h : Nat) {n : Nat} {ps : List Int} (nd : ps.Nodup) (hp : ∀ p ∈ ps, 0 ≤ p ∧ p < (n : Int)) : ∀ rows : List (List Int), rows.Nodup → (∀ r ∈ rows, r.length = ps.length ∧ ∀ z ∈ r, 0 ≤ z ∧ z < (h : Int)) → ((fillL h n).countP fun f => decide (huesA f ps ∈ rows)) = rows.length * h ^ (n - ps.length)
  | [], _, _ => by simp
  | r :: q, nr, hr => by
    obtain ⟨n1, n2⟩ := List.nodup_cons.mp nr
    have ih := cnt_brk h nd hp q n2 fun x hx => hr x (List.mem_cons_of_mem _ hx)
    have h1 := cnt_row h nd hp (hr r List.mem_cons_self).1 (hr r List.mem_cons_self).2
    rw [List.length_cons, Nat.add_mul, Nat.one_mul, ← ih, ← h1]
    clear ih h1 hr nr n2
    induction fillL h n with
    | nil => rfl
    | cons f l il =>
      rw [List.countP_cons, List.countP_cons, List.countP_cons, il]
      by_cases a : huesA f ps = r
      · have b : ¬ huesA f ps ∈ q := fun z => n1 (a ▸ z)
        rw [decide_eq_true a, decide_eq_false b, decide_eq_true (List.mem_cons.mpr (.inl a))]
        simp
        omega
      · rw [decide_eq_false a]
        by_cases b : huesA f ps ∈ q
        · rw [decide_eq_true b, decide_eq_true (List.mem_cons_of_mem _ b)]
          simp
          omega
        · rw [decide_eq_false b, decide_eq_false fun z => (List.mem_cons.mp z).elim a b]
          simp
/-! ### counts: their sum, and wishes counted twice -/
theorem bro_cnt (f : List Int) : ∀ wds : List WD, (List.range wds.length).countP (brkAt f wds) = wds.countP (brk f)
  | [] => rfl
  | w :: r => by
    rw [List.length_cons, List.range_succ_eq_map, List.countP_cons, List.countP_map, List.countP_cons]
    have e : (brkAt f (w :: r) ∘ Nat.succ) = brkAt f r := by
      funext k
      simp [brkAt]
    rw [e, bro_cnt f r]
    rfl
theorem bro_len (f : List Int) (wds : List WD) : (broL f wds wds.length).length = wds.countP (brk f) := by
  unfold broL
  rw [List.length_map, ← List.countP_eq_length_filter, bro_cnt]
theorem bump_sum : ∀ (ns : List Int) (i : Nat), i < ns.length → (bump ns i).sum = ns.sum + 1
  | [], i, h => absurd h (Nat.not_lt_zero _)
  | x :: r, 0, _ => by
    show (x + 1) + r.sum = (x + r.sum) + 1
    omega
  | x :: r, i + 1, h => by
    have z := bump_sum r i (Nat.lt_of_succ_lt_succ h)
    show x + (bump r i).sum = (x + r.sum) + 1
    omega
/-- each number times its place -/
def wsum : Nat → List Int → Int
  | _, [] => 0
  | k, x :: r => (k : Int) * x + wsum (k + 1) r
theorem bump_wsum : ∀ (ns : List Int) (i k : Nat), i < ns.length → wsum k (bump ns i) = wsum k ns + ((k + i : Nat) : Int)
  | [], i, k, h => absurd h (Nat.not_lt_zero _)
  | x :: r, 0, k, _ => by
    show (k : Int) * (x + 1) + wsum (k + 1) r = ((k : Int) * x + wsum (k + 1) r) + ((k + 0 : Nat) : Int)
    rw [Int.mul_add, Int.mul_one]
    omega
  | x :: r, i + 1, k, h => by
    have z := bump_wsum r i (k + 1) (Nat.lt_of_succ_lt_succ h)
    show (k : Int) * x + wsum (k + 1) (bump r i) = ((k : Int) * x + wsum (k + 1) r) + ((k + (i + 1) : Nat) : Int)
    rw [z]
    omega
theorem bro_le (f : List Int) (wds : List WD) : (broL f wds wds.length).length ≤ wds.length := by
  rw [bro_len]
  exact List.countP_le_length
theorem cnt_sums (wds : List WD) : ∀ (fss : List (List Int)) (ns : List Int), ns.length = wds.length + 1 → (fss.foldl (fun ns f => bump ns (broL f wds wds.length).length) ns).sum = ns.sum + (fss.length : Nat) ∧ wsum 0 (fss.foldl (fun ns f => bump ns (broL f wds wds.length).length) ns) = wsum 0 ns + ((fss.map fun f => wds.countP (brk f)).sum : Nat)
  | [], ns, _ => by simp
  | f :: r, ns, hl => by
    have b := bro_le f wds
    obtain ⟨z1, z2⟩ := cnt_sums wds r (bump ns (broL f wds wds.length).length) (by rw [bump_len]; exact hl)
    rw [List.foldl_cons, z1, z2, bump_sum ns _ (by omega), bump_wsum ns _ 0 (by omega), bro_len, List.map_cons, List.sum_cons, List.length_cons]
    constructor <;> omega
theorem wsum_rep : ∀ (n k : Nat), wsum k (List.replicate n 0) = 0
  | 0, _ => rfl
  | n + 1, k => by
    show (k : Int) * 0 + wsum (k + 1) (List.replicate n 0) = 0
    rw [wsum_rep n (k + 1)]
    omega
theorem sum_rep : ∀ n : Nat, (List.replicate n (0 : Int)).sum = 0
  | 0 => rfl
  | n + 1 => by
    show (0 : Int) + (List.replicate n 0).sum = 0
    rw [sum_rep n]
    rfl
theorem cnt_sum (wds : List WD) (fss : List (List Int)) : (cntL wds fss).sum = (fss.length : Nat) := by
  have z := (cnt_sums wds fss (cnt0 wds) (by simp [cnt0])).1
  unfold cntL
  rw [z, cnt0, sum_rep]
  omega
theorem cnt_wsum (wds : List WD) (fss : List (List Int)) : wsum 0 (cntL wds fss) = ((fss.map fun f => wds.countP (brk f)).sum : Nat) := by
  have z := (cnt_sums wds fss (cnt0 wds) (by simp [cnt0])).2
  unfold cntL
  rw [z, cnt0, wsum_rep]
  omega
theorem swap_cnt {α β : Type} (p : α → β → Bool) (m : List β) : ∀ l : List α, (l.map fun a => m.countP (p a)).sum = (m.map fun b => l.countP fun a => p a b).sum
  | [] => by
    induction m with
    | nil => rfl
    | cons b r ih => simpa using ih
  | a :: l => by
    rw [List.map_cons, List.sum_cons, swap_cnt p m l]
    clear swap_cnt
    induction m with
    | nil => rfl
    | cons b r ih =>
      rw [List.map_cons, List.map_cons, List.sum_cons, List.sum_cons, List.countP_cons, List.countP_cons, ← ih]
      omega
/-- the wishes of the fillings counted by fillings, and by wishes -/
theorem cnt_due {many hues : Int} {wds : List WD} (m0 : 0 ≤ many) (hw : ∀ wd ∈ wds, wd.1.Nodup ∧ wd.2.Nodup ∧ (∀ p ∈ wd.1, 0 ≤ p ∧ p < many) ∧ ∀ r ∈ wd.2, r.length = wd.1.length ∧ ∀ z ∈ r, 0 ≤ z ∧ z < hues) (h0 : 0 ≤ hues) :
    wsum 0 (cntL wds (fillL hues.toNat many.toNat)) = ((wds.map fun wd => wd.2.length * hues.toNat ^ (many.toNat - wd.1.length)).sum : Nat) := by
  rw [cnt_wsum, swap_cnt]
  congr 2
  refine List.map_congr_left fun wd hd => ?_
  obtain ⟨n1, n2, n3, n4⟩ := hw wd hd
  exact cnt_brk hues.toNat n1 (fun p hp => by have := n3 p hp; omega) wd.2 n2 fun r hr => ⟨(n4 r hr).1, fun z hz => by have := (n4 r hr).2 z hz; omega⟩
/-! ### counts, place by place -/
theorem bump_get (ns : List Int) (i k : Nat) (hk : k < ns.length) : (bump ns i).getD k 0 = ns.getD k 0 + (if i = k then 1 else 0) := by
  unfold Dt.bump
  by_cases e : i = k
  · subst e
    rw [if_pos rfl, List.getD_eq_getElem?_getD, List.getElem?_set_self hk]
    rfl
  · rw [if_neg e, List.getD_eq_getElem?_getD, List.getElem?_set_ne e, ← List.getD_eq_getElem?_getD]
    omega
theorem cnt_gets (wds : List WD) {k : Nat} (hk : k < wds.length + 1) : ∀ (fss : List (List Int)) (ns : List Int), ns.length = wds.length + 1 → (fss.foldl (fun ns f => bump ns (broL f wds wds.length).length) ns).getD k 0 = ns.getD k 0 + ((fss.countP fun f => decide (wds.countP (brk f) = k) : Nat) : Int)
  | [], ns, _ => by simp
  | f :: r, ns, hl => by
    rw [List.foldl_cons, cnt_gets wds hk r (bump ns (broL f wds wds.length).length) (by rw [bump_len]; exact hl), bump_get ns _ k (by omega), bro_len, List.countP_cons]
    by_cases e : wds.countP (brk f) = k
    · rw [if_pos e, if_pos (decide_eq_true e)]
      omega
    · rw [if_neg e, decide_eq_false e, if_neg (by decide)]
      omega
def cntF (wds : List WD) (fss : List (List Int)) (k : Nat) : Int := ((fss.countP fun f => decide (wds.countP (brk f) = k) : Nat) : Int)
theorem cnt_form (wds : List WD) (fss : List (List Int)) : cntL wds fss = (List.range (wds.length + 1)).map (cntF wds fss) := by
  refine List.ext_getElem (by rw [cnt_len, List.length_map, List.length_range]) fun k h1 h2 => ?_
  have hk : k < wds.length + 1 := by rw [cnt_len] at h1; exact h1
  have z := cnt_gets wds hk fss (cnt0 wds) (by simp [cnt0])
  have z0 : (cnt0 wds).getD k 0 = 0 := by
    rw [cnt0, List.getD_eq_getElem?_getD, List.getElem?_replicate_of_lt hk]
    rfl
  rw [z0, Int.zero_add] at z
  rw [List.getElem_map, List.getElem_range]
  have e : (cntL wds fss).getD k 0 = (cntL wds fss)[k] := by
    rw [List.getD_eq_getElem?_getD, List.getElem?_eq_getElem h1]
    rfl
  rw [← e]
  exact z
theorem cntF_twice (wds : List WD) (fss : List (List Int)) (k : Nat) : cntF (wds ++ wds) fss (2 * k) = cntF wds fss k ∧ cntF (wds ++ wds) fss (2 * k + 1) = 0 := by
  unfold cntF
  have e1 : (fun f : List Int => decide ((wds ++ wds).countP (brk f) = 2 * k)) = fun f => decide (wds.countP (brk f) = k) := by
    funext f
    rw [List.countP_append, Bool.eq_iff_iff, decide_eq_true_eq, decide_eq_true_eq]
    omega
  have e2 : (fun f : List Int => decide ((wds ++ wds).countP (brk f) = 2 * k + 1)) = fun _ => false := by
    funext f
    rw [List.countP_append]
    exact decide_eq_false (by omega)
  rw [e1, e2]
  exact ⟨rfl, by simp⟩
/-- a wish more, which each of the fillings breaks -/
theorem cnt_every {wds : List WD} {fss : List (List Int)} {wd : WD} (h : ∀ f ∈ fss, brk f wd = true) : cntL (wds ++ [wd]) fss = 0 :: cntL wds fss := by
  have e : ∀ f ∈ fss, (wds ++ [wd]).countP (brk f) = wds.countP (brk f) + 1 := fun f hf => by
    rw [List.countP_append, List.countP_singleton, h f hf]
    rfl
  have e0 : cntF (wds ++ [wd]) fss 0 = 0 := by
    unfold cntF
    have z : (fss.countP fun f => decide ((wds ++ [wd]).countP (brk f) = 0)) = 0 := List.countP_eq_zero.mpr fun f hf => by
      rw [e f hf]
      simp
    rw [z]
    rfl
  have e1 : ∀ k, cntF (wds ++ [wd]) fss (k + 1) = cntF wds fss k := fun k => by
    unfold cntF
    congr 1
    refine List.countP_congr fun f hf => ?_
    rw [e f hf, decide_eq_true_eq, decide_eq_true_eq]
    omega
  rw [cnt_form, cnt_form, List.length_append, List.range_succ_eq_map, List.map_cons, List.map_map, e0]
  congr 1
  exact List.map_congr_left fun k _ => e1 k
/-- what lists of lengths count -/
theorem cnt_lengths (wds : List WD) (fss : List (List Int)) : ((List.range (wds.length + 1)).map fun k => (((fss.map fun f => (broL f wds wds.length).length).countP fun n => decide (n = k) : Nat) : Int)) = cntL wds fss := by
  rw [cnt_form]
  refine List.map_congr_left fun k _ => ?_
  unfold cntF
  rw [List.countP_map]
  congr 2
  funext f
  show decide ((broL f wds wds.length).length = k) = _
  rw [bro_len]
/-! ### a wish fewer -/
def shf (a k : Nat) : Nat := if k < a then k else k + 1
theorem range_but (a : Nat) : ∀ n : Nat, a < n → (List.range n).filter (fun k => decide (k ≠ a)) = (List.range (n - 1)).map (shf a)
  | 0, h => absurd h (Nat.not_lt_zero _)
  | n + 1, h => by
    rw [List.range_succ, List.filter_append, Nat.add_sub_cancel]
    by_cases e : a = n
    · subst e
      have e1 : (List.range a).filter (fun k => decide (k ≠ a)) = List.range a := List.filter_eq_self.mpr fun k hk => decide_eq_true (by have := List.mem_range.mp hk; omega)
      have e2 : (List.range a).map (shf a) = List.range a := by
        conv => rhs; rw [← List.map_id (List.range a)]
        exact List.map_congr_left fun k hk => by unfold shf; rw [if_pos (List.mem_range.mp hk)]; rfl
      have e3 : ([a] : List Nat).filter (fun k => decide (k ≠ a)) = [] := by simp
      rw [e1, e2, e3, List.append_nil]
    · have han : a < n := by omega
      have e3 : ([n] : List Nat).filter (fun k => decide (k ≠ a)) = [n] := by
        rw [List.filter_cons, decide_eq_true (by omega : n ≠ a)]
        rfl
      rw [range_but a n han, e3]
      obtain ⟨m, rfl⟩ : ∃ m, n = m + 1 := ⟨n - 1, by omega⟩
      rw [Nat.add_sub_cancel, List.range_succ, List.map_append]
      congr 1
      show [m + 1] = [shf a m]
      unfold shf
      rw [if_neg (by omega)]
theorem brk_less (f : List Int) (wds : List WD) (a k : Nat) (h : a < wds.length) : brkAt f (wds.take a ++ wds.drop (a + 1)) k = brkAt f wds (shf a k) := by
  have e : (wds.take a ++ wds.drop (a + 1))[k]? = wds[shf a k]? := by
    have tl : (wds.take a).length = a := by rw [List.length_take]; omega
    unfold shf
    by_cases c : k < a
    · rw [if_pos c, List.getElem?_append_left (by omega), List.getElem?_take_of_lt c]
    · rw [if_neg c, List.getElem?_append_right (by omega), tl, List.getElem?_drop]
      congr 1
      omega
  unfold brkAt
  rw [e]
theorem bro_less (f : List Int) (wds : List WD) (a : Nat) (h : a < wds.length ∨ wds = []) :
    (broL f (wds.take a ++ wds.drop (a + 1)) (wds.take a ++ wds.drop (a + 1)).length).map (fun k => k + (if decide ((a : Int) ≤ k) = true then 1 else 0)) = (broL f wds wds.length).filter (fun k => decide (k ≠ (a : Int))) := by
  rcases h with h | h
  · have el : (wds.take a ++ wds.drop (a + 1)).length = wds.length - 1 := by
      rw [List.length_append, List.length_take, List.length_drop]
      omega
    unfold broL
    rw [el, List.filter_map, List.map_map]
    have e1 : (List.filter (brkAt f wds) (List.range wds.length)).filter ((fun k : Int => decide (k ≠ (a : Int))) ∘ fun k : Nat => (k : Int)) = ((List.range (wds.length - 1)).filter (brkAt f (wds.take a ++ wds.drop (a + 1)))).map (shf a) := by
      have e2 : ((fun k : Int => decide (k ≠ (a : Int))) ∘ fun k : Nat => (k : Int)) = fun k : Nat => decide (k ≠ a) := by
        funext k
        show decide (((k : Nat) : Int) ≠ (a : Int)) = decide (k ≠ a)
        rw [Bool.eq_iff_iff, decide_eq_true_eq, decide_eq_true_eq]
        omega
      rw [e2, List.filter_filter]
      have e3 : (fun k => (decide (k ≠ a) && brkAt f wds k)) = fun k => (brkAt f wds k && decide (k ≠ a)) := by
        funext k
        exact Bool.and_comm _ _
      rw [e3, ← List.filter_filter, range_but a _ h, List.filter_map]
      congr 1
      refine List.filter_congr fun k _ => ?_
      exact (brk_less f wds a k h).symm
    rw [e1, List.map_map]
    refine List.map_congr_left fun k _ => ?_
    show ((k : Nat) : Int) + (if decide ((a : Int) ≤ (k : Int)) = true then 1 else 0) = ((shf a k : Nat) : Int)
    unfold shf
    by_cases c : k < a
    · rw [if_pos c, decide_eq_false (by omega : ¬ (a : Int) ≤ (k : Int)), if_neg (by decide)]
      omega
    · rw [if_neg c, decide_eq_true (by omega : (a : Int) ≤ (k : Int)), if_pos rfl]
      omega
  · subst h
    simp [broL]
end Rd

set_option Elab.async false
set_option linter.all false
set_option maxRecDepth 100000
set_option maxHeartbeats 4000000
/-! riddles turned: places and hues called otherwise -/
namespace Rd
open PySem PySem.Spec PyProof.Rows L2 Dt
theorem nodup_perm {α : Type} [DecidableEq α] : ∀ {l m : List α}, l.Nodup → (∀ x ∈ l, x ∈ m) → m.length ≤ l.length → l.Perm m
  | [], m, _, _, h => by
    have : m = [] := List.length_eq_zero_iff.mp (Nat.le_zero.mp h)
    rw [this]
  | x :: r, m, nd, h, hl => by
    obtain ⟨n1, n2⟩ := List.nodup_cons.mp nd
    have hx := h x List.mem_cons_self
    have hp := List.length_pos_of_mem hx
    have e := List.perm_cons_erase hx
    rw [List.length_cons] at hl
    have ih := nodup_perm (m := m.erase x) n2 (fun y hy => (List.mem_erase_of_ne fun z => n1 (by rw [← z]; exact hy)).mpr (h y (List.mem_cons_of_mem _ hy))) (by rw [List.length_erase_of_mem hx]; omega)
    exact (ih.cons x).trans e.symm
theorem sorted_one : ∀ {l m : List Int}, l.Perm m → l.Pairwise (· ≤ ·) → m.Pairwise (· ≤ ·) → l = m
  | [], m, p, _, _ => p.nil_eq
  | a :: r, [], p, _, _ => absurd p.length_eq (by simp)
  | a :: r, b :: q, p, s1, s2 => by
    obtain ⟨a1, a2⟩ := List.pairwise_cons.mp s1
    obtain ⟨b1, b2⟩ := List.pairwise_cons.mp s2
    have h1 : a ≤ b := by
      rcases List.mem_cons.mp (p.mem_iff.mpr (List.mem_cons_self (a := b) (l := q))) with z | z
      · omega
      · exact a1 b z
    have h2 : b ≤ a := by
      rcases List.mem_cons.mp (p.mem_iff.mp (List.mem_cons_self (a := a) (l := r))) with z | z
      · omega
      · exact b1 a z
    have e : a = b := by omega
    subst e
    rw [sorted_one p.cons_inv a2 b2]
theorem map_range_getD {α β : Type} (g : α → β) (d : α) (l : List α) : ((List.range l.length).map fun k => g (l.getD k d)) = l.map g := by
  refine List.ext_getElem (by simp) fun k h1 h2 => ?_
  rw [List.getElem_map, List.getElem_map, List.getElem_range]
  rw [List.length_map] at h2
  rw [List.getD_eq_getElem?_getD, List.getElem?_eq_getElem h2]
  rfl
theorem atF_nat (l : List Int) {k : Nat} (h : k < l.length) : atF l (k : Int) = l[k] := by
  unfold atF
  rw [Int.toNat_natCast, List.getD_eq_getElem?_getD, List.getElem?_eq_getElem h]
  rfl
theorem atF_some {l : List Int} {k : Nat} {x : Int} (h : l[k]? = some x) : atF l (k : Int) = x := by
  unfold atF
  rw [Int.toNat_natCast, List.getD_eq_getElem?_getD, h]
  rfl
theorem map_atF (l : List Int) : ((List.range l.length).map fun k : Nat => atF l (k : Int)) = l := by
  have e := map_range_getD (fun x : Int => x) 0 l
  rw [List.map_id'] at e
  exact e
section
variable {m : Int} {ord : List Int}
theorem perm_len (h : ord.Perm (rngI m)) : ord.length = m.toNat := by rw [h.length_eq, rngI_len]
theorem perm_at (h : ord.Perm (rngI m)) {p : Int} (p0 : 0 ≤ p) (p1 : p < m) : 0 ≤ atF ord p ∧ atF ord p < m := by
  have hl := perm_len h
  obtain ⟨k, rfl⟩ : ∃ k : Nat, p = k := ⟨p.toNat, by omega⟩
  have hk : k < ord.length := by omega
  rw [atF_nat ord hk]
  exact rngI_mem (h.mem_iff.mp (List.getElem_mem hk))
theorem perm_inj (h : ord.Perm (rngI m)) {p q : Int} (p0 : 0 ≤ p) (p1 : p < m) (q0 : 0 ≤ q) (q1 : q < m) (e : atF ord p = atF ord q) : p = q := by
  have hl := perm_len h
  obtain ⟨k, rfl⟩ : ∃ k : Nat, p = k := ⟨p.toNat, by omega⟩
  obtain ⟨j, rfl⟩ : ∃ j : Nat, q = j := ⟨q.toNat, by omega⟩
  have hk : k < ord.length := by omega
  have hj : j < ord.length := by omega
  rw [atF_nat ord hk, atF_nat ord hj] at e
  have nd : ord.Nodup := h.nodup_iff.mpr (rngI_nodup m)
  have := (List.getElem_inj nd).mp e
  omega
theorem perm_all (h : ord.Perm (rngI m)) {q : Int} (q0 : 0 ≤ q) (q1 : q < m) : ∃ p : Int, 0 ≤ p ∧ p < m ∧ atF ord p = q := by
  obtain ⟨j, rfl⟩ : ∃ j : Nat, q = j := ⟨q.toNat, by omega⟩
  have hm := h.mem_iff.mpr (rngI_all q1)
  obtain ⟨k, hk, e⟩ := List.getElem_of_mem hm
  have hl := perm_len h
  exact ⟨(k : Int), by omega, by omega, by rw [atF_nat ord hk]; exact e⟩
end
structure TurnOk (many hues : Int) (ord : List Int) (hos : List (List Int)) : Prop where
  po : ord.Perm (rngI many)
  hl : (hos.length : Int) = many
  ph : ∀ o ∈ hos, o.Perm (rngI hues)
def tuH (hos : List (List Int)) (p h : Int) : Int := atF (hos.getD p.toNat []) h
section
variable {many hues : Int} {ord : List Int} {hos : List (List Int)}
theorem TurnOk.one (ok : TurnOk many hues ord hos) {p : Int} (p0 : 0 ≤ p) (p1 : p < many) : (hos.getD p.toNat []).Perm (rngI hues) := by
  have := ok.hl
  have hk : p.toNat < hos.length := by omega
  rw [List.getD_eq_getElem?_getD, List.getElem?_eq_getElem hk]
  exact ok.ph _ (List.getElem_mem hk)
theorem TurnOk.rng (ok : TurnOk many hues ord hos) {p h : Int} (p0 : 0 ≤ p) (p1 : p < many) (h0 : 0 ≤ h) (h1 : h < hues) : 0 ≤ tuH hos p h ∧ tuH hos p h < hues := perm_at (ok.one p0 p1) h0 h1
theorem TurnOk.inj (ok : TurnOk many hues ord hos) {p h g : Int} (p0 : 0 ≤ p) (p1 : p < many) (h0 : 0 ≤ h) (h1 : h < hues) (g0 : 0 ≤ g) (g1 : g < hues) (e : tuH hos p h = tuH hos p g) : h = g := perm_inj (ok.one p0 p1) h0 h1 g0 g1 e
/-- a filling turned -/
def IsTu (ord : List Int) (hos : List (List Int)) (f g : List Int) : Prop := g.length = f.length ∧ ∀ p : Int, 0 ≤ p → p < (f.length : Int) → atF g (atF ord p) = tuH hos p (atF f p)
theorem atF_good {f : List Int} (gf : GoodF many hues f) {p : Int} (p0 : 0 ≤ p) (p1 : p < many) : 0 ≤ atF f p ∧ atF f p < hues := by
  have := gf.len
  obtain ⟨k, rfl⟩ : ∃ k : Nat, p = k := ⟨p.toNat, by omega⟩
  have hk : k < f.length := by omega
  rw [atF_nat f hk]
  exact gf.hue _ (List.getElem_mem hk)
theorem IsTu.back (ok : TurnOk many hues ord hos) {f f' g : List Int} (gf : GoodF many hues f) (gf' : GoodF many hues f') (a : IsTu ord hos f g) (b : IsTu ord hos f' g) : f = f' := by
  have l1 := gf.len
  have l2 := gf'.len
  refine List.ext_getElem (by omega) fun k h1 h2 => ?_
  have e1 := a.2 (k : Int) (by omega) (by omega)
  have e2 := b.2 (k : Int) (by omega) (by omega)
  have r1 := atF_good gf (p := (k : Int)) (by omega) (by omega)
  have r2 := atF_good gf' (p := (k : Int)) (by omega) (by omega)
  have e := ok.inj (p := (k : Int)) (by omega) (by omega) r1.1 r1.2 r2.1 r2.2 (e1.symm.trans e2)
  rw [atF_nat f h1, atF_nat f' h2] at e
  exact e
theorem IsTu.good (ok : TurnOk many hues ord hos) {f g : List Int} (gf : GoodF many hues f) (a : IsTu ord hos f g) : GoodF many hues g := by
  have l1 := gf.len
  have l2 := a.1
  refine ⟨by omega, fun h hh => ?_⟩
  obtain ⟨k, hk, e⟩ := List.getElem_of_mem hh
  obtain ⟨p, p0, p1, ep⟩ := perm_all ok.po (q := (k : Int)) (by omega) (by omega)
  have z := a.2 p p0 (by omega)
  rw [ep, atF_nat g hk, e] at z
  have r := atF_good gf p0 p1
  rw [z]
  exact ok.rng p0 p1 r.1 r.2
def turnF (many : Int) (ord : List Int) (hos : List (List Int)) (f : List Int) : List Int := (List.range many.toNat).map fun q : Nat => tuH hos ((ord.idxOf (q : Int) : Nat) : Int) (atF f ((ord.idxOf (q : Int) : Nat) : Int))
theorem turnF_is (ok : TurnOk many hues ord hos) {f : List Int} (gf : GoodF many hues f) : IsTu ord hos f (turnF many ord hos f) := by
  have l1 := gf.len
  have nd : ord.Nodup := ok.po.nodup_iff.mpr (rngI_nodup many)
  have ol := perm_len ok.po
  refine ⟨by unfold turnF; rw [List.length_map, List.length_range]; omega, fun p p0 p1 => ?_⟩
  obtain ⟨k, rfl⟩ : ∃ k : Nat, p = k := ⟨p.toNat, by omega⟩
  have hk : k < ord.length := by omega
  obtain ⟨r0, r1⟩ := perm_at ok.po (p := (k : Int)) (by omega) (by omega)
  obtain ⟨q, eq⟩ : ∃ q : Nat, atF ord (k : Int) = q := ⟨(atF ord (k : Int)).toNat, by omega⟩
  rw [eq]
  have ei : ord.idxOf (q : Int) = k := by
    rw [← eq, atF_nat ord hk]
    exact nd.idxOf_getElem k hk
  refine atF_some ?_
  unfold turnF
  rw [List.getElem?_map, List.getElem?_range (by omega)]
  show some (tuH hos ((ord.idxOf (q : Int) : Nat) : Int) (atF f ((ord.idxOf (q : Int) : Nat) : Int))) = _
  rw [ei]
/-! ### a wish turned -/
def pairsU (ord ps : List Int) : List (Int × Int) := (List.range ps.length).map fun k => (atF ord (ps.getD k 0), (k : Int))
def newRow (hos : List (List Int)) (ps : List Int) (zs : List (Int × Int)) (row : List Int) : List Int := zs.map fun z => tuH hos (atF ps z.2) (atF row z.2)
structure TuW (many hues : Int) (ord : List Int) (hos : List (List Int)) (wd wd' : WD) : Prop where
  good : Good many hues wd'
  pl : wd'.1.Perm (wd.1.map (atF ord))
  br : ∀ f g, GoodF many hues f → IsTu ord hos f g → brk g wd' = brk f wd
theorem tuW_of (ok : TurnOk many hues ord hos) {wd : WD} (gw : Good many hues wd) (nw : Neat wd) {zs : List (Int × Int)} (pz : zs.Perm (pairsU ord wd.1)) {rows : List (List Int)} (pr : rows.Perm (wd.2.map (newRow hos wd.1 zs))) :
    TuW many hues ord hos wd (zs.map (·.1), rows) ∧ (zs.map (·.1)).Nodup ∧ rows.Nodup := by
  have zl : zs.length = wd.1.length := by rw [pz.length_eq, pairsU, List.length_map, List.length_range]
  have mz : ∀ z ∈ zs, ∃ k : Nat, k < wd.1.length ∧ z = (atF ord (atF wd.1 (k : Int)), (k : Int)) := fun z hz => by
    obtain ⟨k, hk, e⟩ := List.mem_map.mp (pz.mem_iff.mp hz)
    exact ⟨k, List.mem_range.mp hk, e.symm⟩
  have zm : ∀ k : Nat, k < wd.1.length → (atF ord (atF wd.1 (k : Int)), (k : Int)) ∈ zs := fun k hk => pz.mem_iff.mpr (List.mem_map.mpr ⟨k, List.mem_range.mpr hk, rfl⟩)
  have inP : ∀ k : Nat, k < wd.1.length → 0 ≤ atF wd.1 (k : Int) ∧ atF wd.1 (k : Int) < many := fun k hk => by
    rw [atF_nat _ hk]
    exact gw.pl _ (List.getElem_mem hk)
  have pf : (zs.map (·.1)).Perm (wd.1.map (atF ord)) := by
    have z := pz.map (·.1)
    rw [pairsU, List.map_map] at z
    rw [← map_range_getD (atF ord) 0 wd.1]
    exact z
  have inR : ∀ {r : List Int}, r.length = wd.1.length → (∀ h ∈ r, 0 ≤ h ∧ h < hues) → ∀ k : Nat, k < wd.1.length → 0 ≤ atF r (k : Int) ∧ atF r (k : Int) < hues := fun {r} hl hr k hk => by
    rw [atF_nat r (by omega)]
    exact hr _ (List.getElem_mem _)
  have inj : ∀ r r' : List Int, r.length = wd.1.length → (∀ h ∈ r, 0 ≤ h ∧ h < hues) → r'.length = wd.1.length → (∀ h ∈ r', 0 ≤ h ∧ h < hues) → newRow hos wd.1 zs r = newRow hos wd.1 zs r' → r = r' := fun r r' l1 h1 l2 h2 e => by
    refine List.ext_getElem (by omega) fun k k1 k2 => ?_
    have hk : k < wd.1.length := by omega
    have z := List.map_inj_left.mp e _ (zm k hk)
    have p := inP k hk
    have a := inR l1 h1 k hk
    have b := inR l2 h2 k hk
    have y := ok.inj p.1 p.2 a.1 a.2 b.1 b.2 z
    rw [atF_nat r k1, atF_nat r' k2] at y
    exact y
  have ndz : (zs.map (·.1)).Nodup := by
    refine pf.nodup_iff.mpr ?_
    refine List.pairwise_map.mpr (List.Pairwise.imp_of_mem (fun {a b} ha hb hab e => ?_) nw.nd)
    have pa := gw.pl a ha
    have pb := gw.pl b hb
    exact hab (perm_inj ok.po pa.1 pa.2 pb.1 pb.2 e)
  have ndr : rows.Nodup := by
    refine pr.nodup_iff.mpr ?_
    refine List.pairwise_map.mpr (List.Pairwise.imp_of_mem (fun {a b} ha hb hab e => ?_) nw.rows)
    have ra := gw.row a ha
    have rb := gw.row b hb
    exact hab (inj a b ra.1 ra.2 rb.1 rb.2 e)
  refine ⟨⟨⟨?_, ?_, ?_, ?_, ?_, ?_⟩, pf, ?_⟩, ndz, ndr⟩
  · show 1 ≤ (zs.map (·.1)).length
    rw [List.length_map, zl]
    exact gw.one
  · show (zs.map (·.1)).length ≤ 3
    rw [List.length_map, zl]
    exact gw.three
  · intro p hp
    obtain ⟨q, hq, rfl⟩ := List.mem_map.mp (pf.mem_iff.mp hp)
    have := gw.pl q hq
    exact perm_at ok.po this.1 this.2
  · show 1 ≤ rows.length
    rw [pr.length_eq, List.length_map]
    exact gw.some_
  · show rows.length ≤ 64
    rw [pr.length_eq, List.length_map]
    exact gw.few
  · intro r hr
    obtain ⟨q, hq, rfl⟩ := List.mem_map.mp (pr.mem_iff.mp hr)
    have rq := gw.row q hq
    refine ⟨?_, fun h hh => ?_⟩
    · show (zs.map _).length = (zs.map (·.1)).length
      rw [List.length_map, List.length_map]
    · obtain ⟨z, hz, rfl⟩ := List.mem_map.mp hh
      obtain ⟨k, hk, rfl⟩ := mz z hz
      have p := inP k hk
      have a := inR rq.1 rq.2 k hk
      exact ok.rng p.1 p.2 a.1 a.2
  · intro f g gf tu
    have lf := gf.len
    have hu : huesA g (zs.map (·.1)) = newRow hos wd.1 zs (huesA f wd.1) := by
      unfold huesA newRow
      rw [List.map_map]
      refine List.map_congr_left fun z hz => ?_
      obtain ⟨k, hk, rfl⟩ := mz z hz
      have p := inP k hk
      show atF g (atF ord (atF wd.1 (k : Int))) = tuH hos (atF wd.1 (k : Int)) (atF (wd.1.map (atF f)) (k : Int))
      rw [tu.2 _ p.1 (by omega), atF_nat (wd.1.map (atF f)) (by rw [List.length_map]; exact hk), List.getElem_map, atF_nat wd.1 hk]
    have lh : (huesA f wd.1).length = wd.1.length := by unfold huesA; rw [List.length_map]
    have rh : ∀ h ∈ huesA f wd.1, 0 ≤ h ∧ h < hues := fun h hh => by
      obtain ⟨p, hp, rfl⟩ := List.mem_map.mp hh
      have := gw.pl p hp
      exact atF_good gf this.1 this.2
    unfold brk
    rw [Bool.eq_iff_iff, decide_eq_true_eq, decide_eq_true_eq]
    show huesA g (zs.map (·.1)) ∈ rows ↔ huesA f wd.1 ∈ wd.2
    rw [hu]
    constructor
    · intro h
      obtain ⟨r, hr, e⟩ := List.mem_map.mp (pr.mem_iff.mp h)
      have rr := gw.row r hr
      rw [← inj r _ rr.1 rr.2 lh rh e]
      exact hr
    · intro h
      exact pr.mem_iff.mpr (List.mem_map.mpr ⟨_, h, rfl⟩)
/-! ### riddles turned -/
def wAt (wds : List WD) (k : Int) : WD := wds.getD k.toNat ([], [])
theorem wAt_perm {wds : List WD} {pl : List Int} (pp : pl.Perm (rngI (wds.length : Int))) : (pl.map (wAt wds)).Perm wds := by
  have z := pp.map (wAt wds)
  have e : (rngI (wds.length : Int)).map (wAt wds) = wds := by
    unfold rngI
    rw [Int.toNat_natCast, List.map_map]
    have y := map_range_getD (fun x : WD => x) ([], []) wds
    rw [List.map_id'] at y
    conv => rhs; rw [← y]
    rfl
  rw [e] at z
  exact z
theorem cntW_turn {f g : List Int} (gf : GoodF many hues f) (tu : IsTu ord hos f g) : ∀ {as bs : List WD}, Paired (TuW many hues ord hos) as bs → bs.countP (brk g) = as.countP (brk f)
  | _, _, .nil => rfl
  | _, _, .cons h t => by
    rw [List.countP_cons, List.countP_cons, cntW_turn gf tu t, h.br f g gf tu]
theorem fill_allT {hues : Nat} : ∀ (n : Nat) (f : List Int), f.length = n → (∀ h ∈ f, 0 ≤ h ∧ h < (hues : Int)) → f ∈ fillL hues n
  | 0, f, hl, _ => by
    rw [List.length_eq_zero_iff.mp hl]
    exact List.mem_singleton.mpr rfl
  | n + 1, f, hl, h => by
    have ne : f ≠ [] := fun z => by rw [z] at hl; cases hl
    have e := List.dropLast_concat_getLast ne
    refine List.mem_flatMap.mpr ⟨f.dropLast, fill_allT n _ (by rw [List.length_dropLast]; omega) fun z hz => h z (by have y : z ∈ f.dropLast ++ [f.getLast ne] := List.mem_append_left _ hz; rw [e] at y; exact y), ?_⟩
    have hb := h _ (List.getLast_mem ne)
    refine List.mem_map.mpr ⟨(f.getLast ne).toNat, List.mem_range.mpr (by omega), ?_⟩
    have e2 : (((f.getLast ne).toNat : Nat) : Int) = f.getLast ne := by omega
    rw [e2]
    exact e
theorem fills_turn (ok : TurnOk many hues ord hos) (m0 : 0 ≤ many) (h0 : 0 ≤ hues) : ((fillL hues.toNat many.toNat).map (turnF many ord hos)).Perm (fillL hues.toNat many.toNat) := by
  have gd : ∀ f ∈ fillL hues.toNat many.toNat, GoodF many hues f := fun f hf => by
    obtain ⟨z1, z2⟩ := fill_good hf
    exact ⟨by omega, fun h hh => by have := z2 h hh; omega⟩
  refine nodup_perm ?_ (fun g hg => ?_) (by rw [List.length_map]; exact Nat.le_refl _)
  · refine List.pairwise_map.mpr (List.Pairwise.imp_of_mem (fun {a b} ha hb hab e => ?_) (fill_nodup _ _))
    have ta := turnF_is ok (gd a ha)
    have tb := turnF_is ok (gd b hb)
    rw [← e] at tb
    exact hab (IsTu.back ok (gd a ha) (gd b hb) ta tb)
  · obtain ⟨f, hf, rfl⟩ := List.mem_map.mp hg
    have gg := IsTu.good ok (gd f hf) (turnF_is ok (gd f hf))
    have gl := gg.len
    exact fill_allT _ _ (by omega) fun h hh => by have := gg.hue h hh; omega
theorem cnt_turn (ok : TurnOk many hues ord hos) (m0 : 0 ≤ many) (h0 : 0 ≤ hues) {wds wds' : List WD} {pl : List Int} (pp : pl.Perm (rngI (wds.length : Int))) (pw : Paired (TuW many hues ord hos) (pl.map (wAt wds)) wds') :
    cntL wds' (fillL hues.toNat many.toNat) = cntL wds (fillL hues.toNat many.toNat) := by
  have gd : ∀ f ∈ fillL hues.toNat many.toNat, GoodF many hues f := fun f hf => by
    obtain ⟨z1, z2⟩ := fill_good hf
    exact ⟨by omega, fun h hh => by have := z2 h hh; omega⟩
  have wl : wds'.length = wds.length := by
    rw [← pairedLen pw, List.length_map, perm_len pp, Int.toNat_natCast]
  rw [cnt_form, cnt_form, wl]
  refine List.map_congr_left fun k _ => ?_
  unfold cntF
  congr 1
  rw [← (fills_turn ok m0 h0).countP_eq, List.countP_map]
  refine List.countP_congr fun f hf => ?_
  show decide (wds'.countP (brk (turnF many ord hos f)) = k) = true ↔ _
  rw [cntW_turn (gd f hf) (turnF_is ok (gd f hf)) pw, (wAt_perm pp).countP_eq]
/-- the numbers of some, by the other order, are those by the first -/
theorem pick_perm {n : Nat} {pl : List Int} (pp : pl.Perm (rngI (n : Int))) {q' q : Nat → Bool} (h : ∀ k : Nat, k < n → q' k = q (atF pl (k : Int)).toNat) :
    ((((List.range n).filter q').map fun (k : Nat) => (k : Int)).map (atF pl)).Perm (((List.range n).filter q).map fun (k : Nat) => (k : Int)) := by
  have ln : pl.length = n := by rw [perm_len pp, Int.toNat_natCast]
  have e1 : (((List.range n).filter q').map fun (k : Nat) => (k : Int)).map (atF pl) = pl.filter fun i => q i.toNat := by
    have e := map_atF pl
    rw [ln] at e
    conv => rhs; rw [← e]
    rw [List.filter_map, List.map_map]
    congr 1
    exact List.filter_congr fun k hk => h k (List.mem_range.mp hk)
  have e2 : ((List.range n).filter q).map (fun (k : Nat) => (k : Int)) = (rngI (n : Int)).filter fun i => q i.toNat := by
    unfold rngI
    rw [Int.toNat_natCast, List.filter_map]
    congr 1
  rw [e1, e2]
  exact pp.filter _
theorem pick_sorted (n : Nat) (q : Nat → Bool) : (((List.range n).filter q).map fun (k : Nat) => (k : Int)).Pairwise (· ≤ ·) := by
  refine List.pairwise_map.mpr ?_
  have z : (List.range n).Pairwise (· < ·) := List.pairwise_lt_range
  exact (z.sublist List.filter_sublist).imp fun h => by omega
theorem clB_turn (ok : TurnOk many hues ord hos) {a b a' b' : WD} (ga : ∀ p ∈ a.1, 0 ≤ p ∧ p < many) (gb : ∀ p ∈ b.1, 0 ≤ p ∧ p < many) (ta : TuW many hues ord hos a a') (tb : TuW many hues ord hos b b') : clB a' b' = clB a b := by
  unfold clB
  rw [Bool.eq_iff_iff, List.any_eq_true, List.any_eq_true]
  constructor
  · rintro ⟨p, hp, e⟩
    have e := of_decide_eq_true e
    obtain ⟨x, hx, rfl⟩ := List.mem_map.mp (ta.pl.mem_iff.mp hp)
    obtain ⟨y, hy, exy⟩ := List.mem_map.mp (tb.pl.mem_iff.mp e)
    have px := ga x hx
    have py := gb y hy
    have := perm_inj ok.po py.1 py.2 px.1 px.2 exy
    subst this
    exact ⟨y, hx, decide_eq_true hy⟩
  · rintro ⟨p, hp, e⟩
    have e := of_decide_eq_true e
    exact ⟨_, ta.pl.mem_iff.mpr (List.mem_map.mpr ⟨p, hp, rfl⟩), decide_eq_true (tb.pl.mem_iff.mpr (List.mem_map.mpr ⟨p, e, rfl⟩))⟩
end
/-! ### sorted by codes -/
theorem code_lex {B : Int} : ∀ {a b : List Int}, a.length = b.length → TS.Bd B a → TS.Bd B b → TS.code B a ≤ TS.code B b → a ≠ b → HT.lexLt a b = true
  | [], [], _, _, _, _, h => absurd rfl h
  | [], _ :: _, h, _, _, _, _ => by cases h
  | _ :: _, [], h, _, _, _, _ => by cases h
  | x :: r, y :: q, hl, ba, bb, hc, hn => by
    have hl' : r.length = q.length := by simpa using hl
    rw [HT.lexLt_cons]
    by_cases e : x = y
    · subst e
      rw [if_pos rfl]
      refine code_lex hl' ba.tail bb.tail ?_ fun z => hn (by rw [z])
      by_cases c : TS.code B q < TS.code B r
      · have := (TS.code_same (d := x) hl'.symm).mpr c
        omega
      · omega
    · rw [if_neg e]
      refine decide_eq_true ?_
      by_cases c : x < y
      · exact c
      · have := TS.code_lt (d := y) (e := x) hl'.symm bb.tail ba.tail (by omega)
        omega
end Rd

set_option Elab.async false
set_option linter.all false
set_option maxRecDepth 100000
set_option maxHeartbeats 4000000
/-! trees of wishes, grown backwards from lists of numbers -/
namespace Rd
open PySem PySem.Spec PyProof.Rows L2 Dt
inductive WTr where
  | node (n : Int) (ts : List WTr) : WTr
def WTr.top : WTr → Int
  | .node n _ => n
mutual
def nodesD : WTr → Int → List (Int × Int)
  | .node n ts, d => (n, d) :: nodesL ts (d + 1)
def nodesL : List WTr → Int → List (Int × Int)
  | [], _ => []
  | t :: r, d => nodesD t d ++ nodesL r d
end
mutual
def okT (c : Int → Int → Bool) (m : Nat) : WTr → Prop
  | .node n ts => (0 ≤ n ∧ n < (m : Int)) ∧ okL c m n ts
def okL (c : Int → Int → Bool) (m : Nat) (n : Int) : List WTr → Prop
  | [] => True
  | t :: r => (c t.top n = true ∧ okT c m t) ∧ okL c m n r
end
theorem nodesL_flat (d : Int) : ∀ ts : List WTr, nodesL ts d = ts.flatMap fun t => nodesD t d
  | [] => by simp [nodesL]
  | t :: r => by
    rw [nodesL, nodesL_flat d r, List.flatMap_cons]
theorem okL_of {c : Int → Int → Bool} {m : Nat} {n : Int} : ∀ {ts : List WTr}, (∀ t ∈ ts, c t.top n = true ∧ okT c m t) → okL c m n ts
  | [], _ => by simp [okL]
  | t :: r, h => by
    rw [okL]
    exact ⟨h t List.mem_cons_self, okL_of fun x hx => h x (List.mem_cons_of_mem _ hx)⟩
theorem okL_mem {c : Int → Int → Bool} {m : Nat} {n : Int} : ∀ {ts : List WTr}, okL c m n ts → ∀ t ∈ ts, c t.top n = true ∧ okT c m t
  | [], _, _, h => nomatch h
  | t :: r, h, x, hx => by
    rw [okL] at h
    rcases List.mem_cons.mp hx with rfl | hx
    · exact h.1
    · exact okL_mem h.2 x hx
/-! ### grown -/
def treeF (nums : List Int) (bel : List (List Int)) : Nat → Nat → WTr
  | 0, i => .node (atF nums (i : Int)) []
  | f + 1, i => .node (atF nums (i : Int)) ((bel.getD i []).map fun j => treeF nums bel f j.toNat)
def Grows (n : Nat) (bel : List (List Int)) : Prop := bel.length = n ∧ ∀ i : Nat, i < n → ∀ j ∈ bel.getD i [], (i : Int) < j ∧ j < (n : Int)
theorem treeF_stable {nums : List Int} {bel : List (List Int)} {n : Nat} (g : Grows n bel) : ∀ (f f' i : Nat), i < n → n - i ≤ f → n - i ≤ f' → treeF nums bel f i = treeF nums bel f' i
  | 0, _, i, hi, h, _ => by omega
  | _ + 1, 0, i, hi, _, h => by omega
  | f + 1, f' + 1, i, hi, h1, h2 => by
    rw [treeF, treeF]
    congr 1
    refine List.map_congr_left fun j hj => ?_
    have := g.2 i hi j hj
    exact treeF_stable g f f' j.toNat (by omega) (by omega) (by omega)
def treeI (nums : List Int) (bel : List (List Int)) (i : Nat) : WTr := treeF nums bel (nums.length - i) i
theorem treeI_eq {nums : List Int} {bel : List (List Int)} (g : Grows nums.length bel) {i : Nat} (hi : i < nums.length) : treeI nums bel i = .node (atF nums (i : Int)) ((bel.getD i []).map fun j => treeI nums bel j.toNat) := by
  unfold treeI
  obtain ⟨f, ef⟩ : ∃ f, nums.length - i = f + 1 := ⟨nums.length - i - 1, by omega⟩
  rw [ef, treeF]
  congr 1
  refine List.map_congr_left fun j hj => ?_
  have := g.2 i hi j hj
  exact treeF_stable g _ _ _ (by omega) (by omega) (by omega)
/-- who stands right below: pr tells 1 more than the number of the one above, 0 of the top -/
def kids (prs : List Nat) (i : Nat) : List Int := ((List.range prs.length).filter fun j => decide (prs.getD j 0 = i + 1)).map fun (j : Nat) => (j : Int)
def belOf (prs : List Nat) : List (List Int) := (List.range prs.length).map (kids prs)
structure PrOk (prs : List Nat) : Prop where
  top : prs.getD 0 0 = 0
  one : 1 ≤ prs.length
  up : ∀ j : Nat, 1 ≤ j → j < prs.length → 1 ≤ prs.getD j 0 ∧ prs.getD j 0 ≤ j
theorem belOf_at {prs : List Nat} {i : Nat} (h : i < prs.length) : (belOf prs).getD i [] = kids prs i := by
  unfold belOf
  rw [List.getD_eq_getElem?_getD, List.getElem?_map, List.getElem?_range h]
  rfl
theorem PrOk.le {prs : List Nat} (ok : PrOk prs) {j : Nat} (h : j < prs.length) : prs.getD j 0 ≤ j := by
  by_cases e : j = 0
  · subst e
    rw [ok.top]
    exact Nat.le_refl _
  · exact (ok.up j (by omega) h).2
theorem PrOk.grows {prs : List Nat} (ok : PrOk prs) : Grows prs.length (belOf prs) := by
  refine ⟨by unfold belOf; rw [List.length_map, List.length_range], fun i hi j hj => ?_⟩
  rw [belOf_at hi] at hj
  obtain ⟨k, hk, rfl⟩ := List.mem_map.mp hj
  obtain ⟨h1, h2⟩ := List.mem_filter.mp hk
  have h1 := List.mem_range.mp h1
  have h2 := of_decide_eq_true h2
  have := ok.le h1
  omega
theorem filter_two {α : Type} {p q r : α → Bool} : ∀ l : List α, (∀ x ∈ l, r x = (p x || q x) ∧ (p x && q x) = false) → (l.filter r).Perm (l.filter p ++ l.filter q)
  | [], _ => by simp
  | x :: l, h => by
    have ih := filter_two l fun y hy => h y (List.mem_cons_of_mem _ hy)
    obtain ⟨e1, e2⟩ := h x List.mem_cons_self
    rw [List.filter_cons, List.filter_cons, List.filter_cons, e1]
    cases hp : p x <;> cases hq : q x
    · rw [if_neg (by simp), if_neg (by simp), if_neg (by simp)]
      exact ih
    · rw [if_pos (by simp), if_neg (by simp), if_pos rfl]
      exact (ih.cons x).trans List.perm_middle.symm
    · rw [if_pos (by simp), if_pos rfl, if_neg (by simp)]
      exact ih.cons x
    · rw [hp, hq] at e2
      cases e2
section
variable {nums deps : List Int} {prs : List Nat}
theorem forest (ok : PrOk prs) (ln : nums.length = prs.length) (hd : ∀ j : Nat, 1 ≤ j → j < prs.length → atF deps (j : Int) = atF deps ((prs.getD j 0 - 1 : Nat) : Int) + 1) : ∀ (m i : Nat), i + m = prs.length →
    (((List.range' i m).filter fun j : Nat => decide (prs.getD j 0 ≤ i)).flatMap fun j : Nat => nodesD (treeI nums (belOf prs) j) (atF deps (j : Int))).Perm ((List.range' i m).map fun j : Nat => (atF nums (j : Int), atF deps (j : Int)))
  | 0, i, _ => by simp
  | m + 1, i, h => by
    have ih := forest ok ln hd m (i + 1) (by omega)
    have hi : i < prs.length := by omega
    have g := ok.grows
    rw [← ln] at g
    rw [List.range'_succ, List.filter_cons, if_pos (decide_eq_true (ok.le hi)), List.flatMap_cons, List.map_cons]
    rw [treeI_eq g (by omega), nodesD, nodesL_flat, belOf_at hi, List.cons_append, List.flatMap_map]
    refine List.Perm.cons _ ?_
    refine List.Perm.trans ?_ ih
    -- the ones right below
    have ek : (kids prs i).flatMap (fun j => nodesD (treeI nums (belOf prs) j.toNat) (atF deps (i : Int) + 1)) = ((List.range' (i + 1) m).filter fun j : Nat => decide (prs.getD j 0 = i + 1)).flatMap fun j : Nat => nodesD (treeI nums (belOf prs) j) (atF deps (j : Int)) := by
      unfold kids
      have er : List.range prs.length = List.range' 0 (i + 1) ++ List.range' (i + 1) m := by
        rw [List.range_eq_range', ← h, show i + (m + 1) = (i + 1) + m by omega, ← List.range'_append_1, Nat.zero_add]
      have e0 : (List.range' 0 (i + 1)).filter (fun j => decide (prs.getD j 0 = i + 1)) = [] := List.filter_eq_nil_iff.mpr fun j hj => by
        have hj := (List.mem_range'_1.mp hj).2
        have := ok.le (j := j) (by omega)
        show ¬ decide (prs.getD j 0 = i + 1) = true
        rw [decide_eq_true_eq]
        omega
      rw [er, List.filter_append, e0, List.nil_append, List.flatMap_map]
      rw [List.flatMap_def, List.flatMap_def]
      congr 1
      refine List.map_congr_left fun j hj => ?_
      obtain ⟨h1, h2⟩ := List.mem_filter.mp hj
      have h1 := List.mem_range'_1.mp h1
      have h2 := of_decide_eq_true h2
      have e := hd j (by omega) (by omega)
      rw [h2, Nat.add_sub_cancel] at e
      show nodesD (treeI nums (belOf prs) ((j : Int)).toNat) (atF deps (i : Int) + 1) = _
      rw [Int.toNat_natCast, e]
    rw [ek, ← List.flatMap_append]
    refine List.Perm.flatMap_right _ ?_
    refine (filter_two _ fun j hj => ?_).symm
    constructor
    · rw [Bool.eq_iff_iff, Bool.or_eq_true, decide_eq_true_eq, decide_eq_true_eq, decide_eq_true_eq]
      omega
    · rw [Bool.and_eq_false_iff, decide_eq_false_iff_not, decide_eq_false_iff_not]
      omega
theorem tree_nodes (ok : PrOk prs) (ln : nums.length = prs.length) (hd : ∀ j : Nat, 1 ≤ j → j < prs.length → atF deps (j : Int) = atF deps ((prs.getD j 0 - 1 : Nat) : Int) + 1) :
    (nodesD (treeI nums (belOf prs) 0) (atF deps 0)).Perm ((List.range prs.length).map fun j : Nat => (atF nums (j : Int), atF deps (j : Int))) := by
  have f := forest ok ln hd prs.length 0 (Nat.zero_add _)
  obtain ⟨k, ek⟩ : ∃ k, prs.length = k + 1 := ⟨prs.length - 1, by have := ok.one; omega⟩
  have e : (List.range' 0 prs.length).filter (fun j => decide (prs.getD j 0 ≤ 0)) = [0] := by
    rw [ek, List.range'_succ, List.filter_cons, if_pos (decide_eq_true (by rw [ok.top]; exact Nat.le_refl _))]
    congr 1
    refine List.filter_eq_nil_iff.mpr fun j hj => ?_
    have h1 := List.mem_range'_1.mp hj
    have := (ok.up j (by omega) (by omega)).1
    show ¬ decide (prs.getD j 0 ≤ 0) = true
    rw [decide_eq_true_eq]
    omega
  rw [e, ← List.range_eq_range'] at f
  simpa using f
theorem tree_all {c : Int → Int → Bool} {w : Nat} (ok : PrOk prs) (ln : nums.length = prs.length) (hn : ∀ j : Nat, j < prs.length → 0 ≤ atF nums (j : Int) ∧ atF nums (j : Int) < (w : Int)) (hc : ∀ j : Nat, 1 ≤ j → j < prs.length → c (atF nums (j : Int)) (atF nums ((prs.getD j 0 - 1 : Nat) : Int)) = true) : ∀ (m i : Nat), i + m = prs.length → ∀ k, i ≤ k → k < prs.length → okT c w (treeI nums (belOf prs) k)
  | 0, i, h, k, h1, h2 => by omega
  | m + 1, i, h, k, h1, h2 => by
    by_cases e : i = k
    · subst e
      have g := ok.grows
      rw [← ln] at g
      rw [treeI_eq g (by omega), okT]
      refine ⟨hn i h2, okL_of fun t ht => ?_⟩
      obtain ⟨j, hj, rfl⟩ := List.mem_map.mp ht
      have b := g.2 i (by omega) j hj
      rw [belOf_at h2] at hj
      obtain ⟨k, hk, rfl⟩ := List.mem_map.mp hj
      obtain ⟨k1, k2⟩ := List.mem_filter.mp hk
      have k1 := List.mem_range.mp k1
      have k2 := of_decide_eq_true k2
      rw [Int.toNat_natCast]
      have e := hc k (by omega) k1
      rw [k2, Nat.add_sub_cancel] at e
      refine ⟨?_, tree_all ok ln hn hc m (i + 1) (by omega) k (by omega) k1⟩
      rw [treeI_eq g (by omega)]
      exact e
    · exact tree_all ok ln hn hc m (i + 1) (by omega) k (by omega) h2
end
end Rd

set_option Elab.async false
set_option linter.all false
set_option maxRecDepth 100000
set_option maxHeartbeats 4000000
/-! why a mending came: wishes and how deep they stand -/
namespace Rd
open PySem PySem.Spec PyProof.Rows L2 Dt
def clN (wds : List WD) (n o : Int) : Bool := clB (wAt wds n) (wAt wds o)
def mxI : List Int → Int
  | [] => -1
  | x :: r => if mxI r < x then x else mxI r
theorem mxI_le : ∀ {l : List Int} {x : Int}, x ∈ l → x ≤ mxI l
  | y :: r, x, h => by
    rw [mxI]
    rcases List.mem_cons.mp h with rfl | h
    · split <;> omega
    · have := mxI_le h
      split <;> omega
theorem mxI_up {m : Int} (m0 : -1 ≤ m) : ∀ {l : List Int}, (∀ x ∈ l, x ≤ m) → mxI l ≤ m
  | [], _ => by rw [mxI]; exact m0
  | y :: r, h => by
    have a := mxI_up m0 (l := r) fun x hx => h x (List.mem_cons_of_mem _ hx)
    have b := h y List.mem_cons_self
    rw [mxI]
    split <;> omega
theorem mxI_eq {l : List Int} {m : Int} (m0 : -1 ≤ m) (hm : m ∈ l) (h : ∀ x ∈ l, x ≤ m) : mxI l = m := by
  have a := mxI_le hm
  have b := mxI_up m0 h
  omega
theorem mxI_in : ∀ {l : List Int}, (∀ x ∈ l, 0 ≤ x) → l ≠ [] → mxI l ∈ l
  | [], _, h => absurd rfl h
  | [x], h0, _ => by
    have := h0 x List.mem_cons_self
    rw [mxI, mxI, if_pos (by omega)]
    exact List.mem_cons_self
  | x :: y :: r, h0, _ => by
    have ih := mxI_in (l := y :: r) (fun z hz => h0 z (List.mem_cons_of_mem _ hz)) (by simp)
    rw [mxI]
    split
    · exact List.mem_cons_self
    · exact List.mem_cons_of_mem _ ih
def abv (wds : List WD) (zs : List (Int × Int)) (n : Int) : List Int := (zs.filter fun z => clN wds n z.1).map (·.2)
def dstep (wds : List WD) (zs : List (Int × Int)) (n : Int) : List (Int × Int) := if 0 < 1 + mxI (abv wds zs n) then zs ++ [(n, 1 + mxI (abv wds zs n))] else zs
def depthsL (wds : List WD) (k : Int) (ks : List Int) : List (Int × Int) := ks.foldl (dstep wds) [(k, 0)]
structure WI (wds : List WD) (zs : List (Int × Int)) (prs : List Nat) : Prop where
  ok : PrOk prs
  len : zs.length = prs.length
  d0 : (zs.getD 0 (0, 0)).2 = 0
  pos : ∀ z ∈ zs, 0 ≤ z.2 ∧ 0 ≤ z.1 ∧ z.1 < (wds.length : Int)
  up : ∀ j : Nat, 1 ≤ j → j < prs.length → (zs.getD j (0, 0)).2 = (zs.getD (prs.getD j 0 - 1) (0, 0)).2 + 1 ∧ clN wds (zs.getD j (0, 0)).1 (zs.getD (prs.getD j 0 - 1) (0, 0)).1 = true
theorem WI.start {wds : List WD} {k : Int} (k0 : 0 ≤ k) (k1 : k < (wds.length : Int)) : WI wds [(k, 0)] [0] := by
  refine ⟨⟨rfl, by simp, fun j h1 h2 => ?_⟩, rfl, rfl, fun z hz => ?_, fun j h1 h2 => ?_⟩
  · simp at h2
    omega
  · rw [List.mem_singleton.mp hz]
    exact ⟨Int.le_refl _, k0, k1⟩
  · simp at h2
    omega
theorem getD_old {α : Type} {l m : List α} {d : α} {j : Nat} (h : j < l.length) : (l ++ m).getD j d = l.getD j d := by
  rw [List.getD_eq_getElem?_getD, List.getD_eq_getElem?_getD, List.getElem?_append_left h]
theorem getD_new {α : Type} {l : List α} {x d : α} : (l ++ [x]).getD l.length d = x := by
  rw [List.getD_eq_getElem?_getD, List.getElem?_append_right (Nat.le_refl _), Nat.sub_self]
  rfl
theorem abv_mem {wds : List WD} {zs : List (Int × Int)} {n x : Int} (h : x ∈ abv wds zs n) : ∃ z ∈ zs, clN wds n z.1 = true ∧ z.2 = x := by
  obtain ⟨z, hz, e⟩ := List.mem_map.mp h
  obtain ⟨h1, h2⟩ := List.mem_filter.mp hz
  exact ⟨z, h1, h2, e⟩
theorem abv_of {wds : List WD} {zs : List (Int × Int)} {n : Int} {z : Int × Int} (h : z ∈ zs) (c : clN wds n z.1 = true) : z.2 ∈ abv wds zs n := List.mem_map.mpr ⟨z, List.mem_filter.mpr ⟨h, c⟩, rfl⟩
theorem dstep_no {wds : List WD} {zs : List (Int × Int)} {n : Int} (h : ∀ z ∈ zs, clN wds n z.1 = false) : dstep wds zs n = zs := by
  have e : abv wds zs n = [] := by
    unfold abv
    rw [List.filter_eq_nil_iff.mpr fun z hz => by rw [h z hz]; exact Bool.false_ne_true]
    rfl
  unfold dstep
  rw [e, if_neg (by rw [mxI]; decide)]
theorem dstep_yes {wds : List WD} {zs : List (Int × Int)} {n o d : Int} (d0 : 0 ≤ d) (m : (o, d) ∈ zs) (c : clN wds n o = true) (h : ∀ z ∈ zs, clN wds n z.1 = true → z.2 ≤ d) : dstep wds zs n = zs ++ [(n, d + 1)] := by
  have e : mxI (abv wds zs n) = d := mxI_eq (by omega) (abv_of m c) fun x hx => by
    obtain ⟨z, hz, cz, rfl⟩ := abv_mem hx
    exact h z hz cz
  unfold dstep
  rw [e, if_pos (by omega), Int.add_comm]
theorem WI.more {wds : List WD} {zs : List (Int × Int)} {prs : List Nat} (w : WI wds zs prs) {n o d : Int} {at_ : Nat} (n0 : 0 ≤ n) (n1 : n < (wds.length : Int)) (e : zs[at_]? = some (o, d)) (c : clN wds n o = true) : WI wds (zs ++ [(n, d + 1)]) (prs ++ [at_ + 1]) := by
  have ha : at_ < zs.length := (List.getElem?_eq_some_iff.mp e).1
  have ln := w.len
  have o1 := w.ok.one
  have ez : zs.getD at_ (0, 0) = (o, d) := by rw [List.getD_eq_getElem?_getD, e]; rfl
  have d0 := (w.pos _ (List.mem_of_getElem? e)).1
  refine ⟨⟨?_, by rw [List.length_append]; omega, fun j h1 h2 => ?_⟩, by rw [List.length_append, List.length_append, ln]; rfl, ?_, fun z hz => ?_, fun j h1 h2 => ?_⟩
  · rw [getD_old (by omega)]
    exact w.ok.top
  · rw [List.length_append] at h2
    by_cases z : j < prs.length
    · rw [getD_old z]
      exact w.ok.up j h1 z
    · have : j = prs.length := by simp at h2; omega
      subst this
      rw [getD_new]
      omega
  · rw [getD_old (by omega)]
    exact w.d0
  · rcases List.mem_append.mp hz with hz | hz
    · exact w.pos z hz
    · rw [List.mem_singleton.mp hz]
      exact ⟨by show 0 ≤ d + 1; have : 0 ≤ d := d0; omega, n0, n1⟩
  · rw [List.length_append] at h2
    by_cases z : j < prs.length
    · have u := w.up j h1 z
      have l := (w.ok.up j h1 z).2
      rw [getD_old z, getD_old (by omega), getD_old (by omega)]
      exact u
    · have : j = prs.length := by simp at h2; omega
      subst this
      rw [getD_new, Nat.add_sub_cancel, getD_old ha, ez, ← ln, getD_new]
      exact ⟨rfl, c⟩
theorem belOf_more {prs : List Nat} (ok : PrOk prs) {at_ : Nat} (ha : at_ < prs.length) : belOf (prs ++ [at_ + 1]) = (belOf prs).set at_ (kids prs at_ ++ [(prs.length : Int)]) ++ [[]] := by
  have k1 : ∀ i : Nat, kids (prs ++ [at_ + 1]) i = kids prs i ++ (if i = at_ then [(prs.length : Int)] else []) := fun i => by
    unfold kids
    rw [List.length_append, List.length_singleton, List.range_succ, List.filter_append, List.map_append]
    congr 1
    · congr 1
      refine List.filter_congr fun j hj => ?_
      rw [getD_old (List.mem_range.mp hj)]
    · rw [List.filter_cons, getD_new]
      by_cases e : i = at_
      · subst e
        rw [if_pos (decide_eq_true rfl), if_pos rfl]
        rfl
      · rw [if_neg (by rw [decide_eq_true_eq]; omega), if_neg e]
        rfl
  have k2 : kids prs prs.length = [] := by
    unfold kids
    rw [List.filter_eq_nil_iff.mpr fun j hj => by
      have hj := List.mem_range.mp hj
      have := ok.le hj
      rw [decide_eq_true_eq]
      omega]
    rfl
  unfold belOf
  rw [List.length_append, List.length_singleton, List.range_succ, List.map_append]
  congr 1
  · refine List.ext_getElem? fun i => ?_
    rw [List.getElem?_map, List.getElem?_set, List.getElem?_map, List.length_map, List.length_range]
    by_cases hi : i < prs.length
    · rw [List.getElem?_range hi]
      show some (kids (prs ++ [at_ + 1]) i) = _
      rw [k1 i]
      by_cases e : at_ = i
      · subst e
        rw [if_pos rfl, if_pos rfl, if_pos ha]
      · rw [if_neg e, if_neg (fun z => e z.symm), List.append_nil]
        rfl
    · rw [List.getElem?_eq_none (by rw [List.length_range]; omega)]
      by_cases e : at_ = i
      · omega
      · rw [if_neg e]
        rfl
  · rw [List.map_singleton, k1, k2, if_neg (by omega)]
    rfl
theorem zs_range (zs : List (Int × Int)) : ((List.range zs.length).map fun j : Nat => (atF (zs.map (·.1)) (j : Int), atF (zs.map (·.2)) (j : Int))) = zs := by
  refine List.ext_getElem (by simp) fun k h1 h2 => ?_
  rw [List.getElem_map, List.getElem_range, atF_nat _ (by rw [List.length_map]; exact h2), atF_nat _ (by rw [List.length_map]; exact h2), List.getElem_map, List.getElem_map]
theorem atF_fst {zs : List (Int × Int)} {j : Nat} (h : j < zs.length) : atF (zs.map (·.1)) (j : Int) = (zs.getD j (0, 0)).1 := by
  rw [atF_nat _ (by rw [List.length_map]; exact h), List.getElem_map, List.getD_eq_getElem?_getD, List.getElem?_eq_getElem h]
  rfl
theorem atF_snd {zs : List (Int × Int)} {j : Nat} (h : j < zs.length) : atF (zs.map (·.2)) (j : Int) = (zs.getD j (0, 0)).2 := by
  rw [atF_nat _ (by rw [List.length_map]; exact h), List.getElem_map, List.getD_eq_getElem?_getD, List.getElem?_eq_getElem h]
  rfl
/-- the tree of such a walk -/
theorem WI.tree {wds : List WD} {zs : List (Int × Int)} {prs : List Nat} (w : WI wds zs prs) :
    (nodesD (treeI (zs.map (·.1)) (belOf prs) 0) 0).Perm zs ∧ okT (clN wds) wds.length (treeI (zs.map (·.1)) (belOf prs) 0) ∧ (treeI (zs.map (·.1)) (belOf prs) 0).top = (zs.getD 0 (0, 0)).1 := by
  have ln := w.len
  have o1 := w.ok.one
  have lm : (zs.map (·.1)).length = prs.length := by rw [List.length_map, ln]
  refine ⟨?_, ?_, ?_⟩
  · have t := tree_nodes (deps := zs.map (·.2)) w.ok lm fun j h1 h2 => by
      have l := (w.ok.up j h1 h2).2
      rw [atF_snd (by omega), atF_snd (by omega)]
      exact (w.up j h1 h2).1
    have e0 : atF (zs.map (·.2)) 0 = 0 := (atF_snd (j := 0) (by omega)).trans w.d0
    rw [e0, ← ln, zs_range] at t
    exact t
  · refine tree_all w.ok lm (fun j hj => ?_) (fun j h1 h2 => ?_) prs.length 0 (Nat.zero_add _) 0 (Nat.le_refl _) (by omega)
    · rw [atF_fst (by omega)]
      have hj' : j < zs.length := by omega
      have e : zs.getD j (0, 0) = zs[j] := by rw [List.getD_eq_getElem?_getD, List.getElem?_eq_getElem hj']; rfl
      rw [e]
      exact (w.pos _ (List.getElem_mem hj')).2
    · have l := (w.ok.up j h1 h2).2
      rw [atF_fst (by omega), atF_fst (by omega)]
      exact (w.up j h1 h2).2
  · have g := w.ok.grows
    rw [← lm] at g
    rw [treeI_eq g (by omega)]
    exact atF_fst (j := 0) (by omega)
theorem depths_snoc (wds : List WD) (k : Int) (ks : List Int) (n : Int) : depthsL wds k (ks ++ [n]) = dstep wds (depthsL wds k ks) n := by
  unfold depthsL
  rw [List.foldl_append]
  rfl
theorem depths_len (wds : List WD) (k : Int) : ∀ ks : List Int, (depthsL wds k ks).length ≤ ks.length + 1 ∧ ∀ z ∈ depthsL wds k ks, 0 ≤ z.2 ∧ z.2 ≤ (ks.length : Int) ∧ (z.1 = k ∨ z.1 ∈ ks) := by
  intro ks
  generalize hn : ks.length = n
  induction n generalizing ks with
  | zero =>
    rw [List.length_eq_zero_iff.mp hn]
    refine ⟨Nat.le_refl _, fun z hz => ?_⟩
    have : z = (k, 0) := List.mem_singleton.mp hz
    rw [this]
    exact ⟨Int.le_refl _, Int.le_refl _, .inl rfl⟩
  | succ n ih =>
    have ne : ks ≠ [] := fun z => by rw [z] at hn; cases hn
    have e := List.dropLast_concat_getLast ne
    have ld : ks.dropLast.length = n := by rw [List.length_dropLast]; omega
    obtain ⟨h1, h2⟩ := ih ks.dropLast ld
    rw [← e, depths_snoc]
    unfold dstep
    have mx : mxI (abv wds (depthsL wds k ks.dropLast) (ks.getLast ne)) ≤ n := mxI_up (by omega) fun x hx => by
      obtain ⟨z, hz, _, rfl⟩ := abv_mem hx
      exact (h2 z hz).2.1
    split
    · rename_i c
      refine ⟨by rw [List.length_append]; show _ + 1 ≤ _; omega, fun z hz => ?_⟩
      rcases List.mem_append.mp hz with hz | hz
      · obtain ⟨a, b, c⟩ := h2 z hz
        exact ⟨a, by omega, c.imp_right fun y => List.mem_append_left _ y⟩
      · rw [List.mem_singleton.mp hz]
        exact ⟨by show 0 ≤ 1 + mxI _; omega, by show 1 + mxI _ ≤ _; omega, .inr (List.mem_append_right _ List.mem_cons_self)⟩
    · refine ⟨by omega, fun z hz => ?_⟩
      obtain ⟨a, b, c⟩ := h2 z hz
      exact ⟨a, by omega, c.imp_right fun y => List.mem_append_left _ y⟩
end Rd

set_option Elab.async false
set_option linter.all false
set_option maxRecDepth 100000
set_option maxHeartbeats 4000000
/-! trees on the heap; walks backwards -/
namespace Rd
open PySem PySem.Spec PyProof.Rows L2 Dt
mutual
inductive IsTr (H : Hp) : V → WTr → Prop
  | mk {a c : Addr} {n : Int} {vs : List V} {ts : List WTr} : H a = some (.tup [.int n, .ref c]) → H c = some (.tup vs) → IsTrs H vs ts → IsTr H (.ref a) (.node n ts)
inductive IsTrs (H : Hp) : List V → List WTr → Prop
  | nil : IsTrs H [] []
  | cons {v : V} {t : WTr} {vs : List V} {ts : List WTr} : IsTr H v t → IsTrs H vs ts → IsTrs H (v :: vs) (t :: ts)
end
mutual
theorem IsTr.mono {H H' : Hp} (s : Tups H H') : ∀ {v : V} {t : WTr}, IsTr H v t → IsTr H' v t
  | _, _, .mk h1 h2 h3 => .mk (s _ _ h1) (s _ _ h2) (IsTrs.mono s h3)
theorem IsTrs.mono {H H' : Hp} (s : Tups H H') : ∀ {vs : List V} {ts : List WTr}, IsTrs H vs ts → IsTrs H' vs ts
  | _, _, .nil => .nil
  | _, _, .cons h t => .cons (IsTr.mono s h) (IsTrs.mono s t)
end
theorem IsTrs.len {H : Hp} : ∀ {vs : List V} {ts : List WTr}, IsTrs H vs ts → vs.length = ts.length
  | _, _, .nil => rfl
  | _, _, .cons _ t => by rw [List.length_cons, List.length_cons, IsTrs.len t]
theorem IsTrs.get {H : Hp} : ∀ {vs : List V} {ts : List WTr}, IsTrs H vs ts → ∀ {i : Nat} {v : V}, vs[i]? = some v → ∃ t, ts[i]? = some t ∧ IsTr H v t
  | _, _, .nil, _, _, h => by simp at h
  | _, _, .cons (t := t) h _, 0, v, e => by
    cases Option.some.inj (show some _ = some v from e)
    exact ⟨t, rfl, h⟩
  | _, _, .cons _ r, i + 1, v, e => IsTrs.get r (i := i) e
theorem IsTrs.snoc {H : Hp} {v : V} {t : WTr} : ∀ {vs : List V} {ts : List WTr}, IsTrs H vs ts → IsTr H v t → IsTrs H (vs ++ [v]) (ts ++ [t])
  | _, _, .nil, h => .cons h .nil
  | _, _, .cons a b, h => .cons a (IsTrs.snoc b h)
/-- downwards over a range -/
theorem for_down {lo : Int} {n : Nat} {g : TG} {tb : TS} {D : Ends} {σ : L2.St} {H : Hp} (Pv : Nat → L2.St → Hp → Prop) (h0 : Pv 0 σ H)
    (hs : ∀ i σ H, i < n → Pv i σ H → g (.int (lo + (i : Nat) * (-1))) σ H fun σ2 H2 => tb { D with nx := Pv (i + 1), ct := Pv (i + 1), bk := D.nx } σ2 H2) (hd : ∀ σ H, Pv n σ H → D.nx σ H) :
    ∃ W : Nat → Nat → L2.St → Hp → Prop, (∃ m, W 0 m σ H) ∧ ∀ i m σ H, W i m σ H →
      ((Itc lo (-1) n).stop i H ∧ D.nx σ H) ∨ ((Itc lo (-1) n).go i H ∧ ∃ N : L2.St → Hp → Prop, (∀ σ' H', N σ' H' → ∃ m', m' < m ∧ W (i + 1) m' σ' H') ∧ ∀ x H', (Itc lo (-1) n).yld i H x H' → g x σ H' fun σ2 H2 => tb { D with nx := N, ct := N, bk := D.nx } σ2 H2) := by
  refine ⟨fun i m σ H => m = n - i ∧ i ≤ n ∧ Pv i σ H, ⟨n, by simp, Nat.zero_le _, h0⟩, ?_⟩
  rintro i m σ H ⟨rfl, hi, p⟩
  by_cases hlt : i < n
  · refine .inr ⟨hlt, Pv (i + 1), fun σ' H' p' => ⟨n - (i + 1), by omega, rfl, hlt, p'⟩, fun x H' y => ?_⟩
    obtain ⟨e, y⟩ := y
    subst e
    subst y
    exact hs i σ _ hlt p
  · have e : i = n := by omega
    subst e
    exact .inl ⟨Nat.le_refl _, hd σ H p⟩
/-- over a list from its end -/
theorem for_revL {K : PySem.W.Frag} {a : Addr} {xs : List V} {g : TG} {tb : TS} {D : Ends} {σ : L2.St} {H : Hp} (Pv : Nat → L2.St → Hp → Prop) (h0 : Pv 0 σ H) (hl : ∀ i σ H, i ≤ xs.length → Pv i σ H → SqL K H a xs)
    (hs : ∀ i x σ H, i < xs.length → xs[xs.length - 1 - i]? = some x → Pv i σ H → g x σ H fun σ2 H2 => tb { D with nx := Pv (i + 1), ct := Pv (i + 1), bk := D.nx } σ2 H2) (hd : ∀ σ H, Pv xs.length σ H → D.nx σ H) :
    ∃ W : Nat → Nat → L2.St → Hp → Prop, (∃ m, W 0 m σ H) ∧ ∀ i m σ H, W i m σ H →
      ((Itv K a xs.length).stop i H ∧ D.nx σ H) ∨ ((Itv K a xs.length).go i H ∧ ∃ N : L2.St → Hp → Prop, (∀ σ' H', N σ' H' → ∃ m', m' < m ∧ W (i + 1) m' σ' H') ∧ ∀ x H', (Itv K a xs.length).yld i H x H' → g x σ H' fun σ2 H2 => tb { D with nx := N, ct := N, bk := D.nx } σ2 H2) := by
  refine ⟨fun i m σ H => m = xs.length - i ∧ i ≤ xs.length ∧ Pv i σ H, ⟨xs.length, by simp, Nat.zero_le _, h0⟩, ?_⟩
  rintro i m σ H ⟨rfl, hi, p⟩
  have q := hl i σ H hi p
  by_cases hlt : i < xs.length
  · have hk : xs.length - 1 - i < xs.length := by omega
    refine .inr ⟨⟨hlt, xs, xs[xs.length - 1 - i], q, List.getElem?_eq_getElem hk⟩, Pv (i + 1), fun σ' H' p' => ⟨xs.length - (i + 1), by omega, rfl, hlt, p'⟩, fun x H' y => ?_⟩
    obtain ⟨e, y⟩ := y
    subst e
    exact hs i x σ _ hlt (y xs q) p
  · have e : i = xs.length := by omega
    subst e
    exact .inl ⟨Nat.le_refl _, hd σ H p⟩
end Rd
namespace Gx
open PySem PySem.Spec PyProof.Rows L2 GenW
theorem tup_list {K : PySem.W.Frag} {a : Addr} {xs : List V} {g : TG} {tt : TT} {te : TE} {vs : List Nat} {σ : L2.St} {Q : List V → Hp → Prop} {H2 : Hp} (hz : xs.length ≤ sizeLine) (Pv : Nat → List V → Hp → Prop) (h0 : Pv 0 [] H2) (hl : ∀ i ys H, i ≤ xs.length → Pv i ys H → SqL K H a xs) (hy : ∀ i ys H, Pv i ys H → ys.length ≤ i)
    (hs : ∀ i x ys H, xs[i]? = some x → Pv i ys H → g x (wipe σ vs) H fun σ2 H2 => wipe σ2 vs = wipe σ vs ∧ tt σ2 H2 fun b H3 => if b = true then te σ2 H3 fun y H4 => Pv (i + 1) (ys ++ [y]) H4 else Pv (i + 1) ys H3) (hd : ∀ ys H, Pv xs.length ys H → Q ys H) :
    ∃ W : Nat → Nat → List V → Hp → Prop, (∃ m, W 0 m [] H2) ∧ TurnsC (Itl K a) g tt te vs σ Q W := by
  refine ⟨fun i m ys H => m = xs.length - i ∧ i ≤ xs.length ∧ Pv i ys H, ⟨xs.length, by simp, Nat.zero_le _, h0⟩, ?_⟩
  rintro i m ys H ⟨rfl, hi, p⟩
  have q := hl i ys H hi p
  by_cases hlt : i < xs.length
  · refine .inr ⟨⟨xs, xs[i], q, by simp [hlt]⟩, Nat.lt_of_le_of_lt (hy i ys H p) (Nat.lt_of_lt_of_le hlt hz), Pv (i + 1), fun ys' H' p' => ⟨xs.length - (i + 1), by omega, rfl, hlt, p'⟩, fun x H' y => ?_⟩
    obtain ⟨e, y⟩ := y
    subst e
    exact hs i x ys _ (y xs q) p
  · have e : i = xs.length := by omega
    subst e
    exact .inl ⟨⟨xs, q, Nat.le_refl _⟩, hd ys H p⟩
end Gx

set_option Elab.async false
set_option linter.all false
set_option maxRecDepth 100000
set_option maxHeartbeats 4000000
/-! texts read as riddles -/
namespace Rd
open PySem PySem.Spec PyProof.Rows L2 Dt TL
def figS : Str := Str.ofString "0123456789"
def figI (w : Str) : Int := Txt.find figS w
def signs (w : Str) : List Str := (tl w).map fun c => ⟨#[c]⟩
def rowR (w : Str) : List Int := (signs w).map figI
def readW (l : Str) : WD := (((Txt.split (Txt.partition l (Str.ofString ": ")).1 (Str.ofString " ")).drop 1).map figI, (Txt.split (Txt.partition l (Str.ofString ": ")).2.2 (Str.ofString " ")).map rowR)
def readR (t : Str) : Option (Int × Int × List WD) :=
  if (Txt.split ((Txt.split t (Str.ofString "\n")).getD 0 Str.empty) (Str.ofString " ")).length = 4 then
    some (figI ((Txt.split ((Txt.split t (Str.ofString "\n")).getD 0 Str.empty) (Str.ofString " ")).getD 1 Str.empty), figI ((Txt.split ((Txt.split t (Str.ofString "\n")).getD 0 Str.empty) (Str.ofString " ")).getD 3 Str.empty), ((Txt.split t (Str.ofString "\n")).drop 1).map readW)
  else none
theorem join_mem {S : List Nat} {c : Nat} : ∀ {ps : List (List Nat)}, c ∈ joinL S ps → c ∈ S ∨ ∃ p ∈ ps, c ∈ p
  | [], h => by simp [joinL] at h
  | [p], h => .inr ⟨p, List.mem_cons_self, h⟩
  | p :: q :: r, h => by
    rw [joinL] at h
    rcases List.mem_append.mp h with h | h
    · exact .inr ⟨p, List.mem_cons_self, h⟩
    · rcases List.mem_append.mp h with h | h
      · exact .inl h
      · rcases join_mem h with h | ⟨x, hx, h⟩
        · exact .inl h
        · exact .inr ⟨x, List.mem_cons_of_mem _ hx, h⟩
theorem num_tl {i : Int} (h0 : 0 ≤ i) (h1 : i ≤ 9) : tl (numT i) = [48 + i.toNat] := by
  have all : ∀ n : Nat, n < 10 → tl (numT (n : Int)) = [48 + n] := by decide +kernel
  have z := all i.toNat (by omega)
  rw [show ((i.toNat : Nat) : Int) = i by omega] at z
  exact z
theorem fig_num {i : Int} (h0 : 0 ≤ i) (h1 : i ≤ 9) : figI (numT i) = i := by
  have all : ∀ n : Nat, n < 10 → figI (numT (n : Int)) = (n : Int) := by decide +kernel
  have z := all i.toNat (by omega)
  rw [show ((i.toNat : Nat) : Int) = i by omega] at z
  exact z
theorem join_single : ∀ (ps : List (List Nat)), joinL [] ps = ps.flatten
  | [] => rfl
  | [p] => by simp [joinL]
  | p :: q :: r => by rw [joinL, join_single (q :: r)]; simp
theorem tl_nil : tl (Str.ofString "") = [] := by decide +kernel
theorem tl_row (r : List Int) (h : ∀ x ∈ r, 0 ≤ x ∧ x ≤ 9) : tl (rowT r) = r.map fun x => 48 + x.toNat := by
  unfold rowT
  rw [tl_joinT, tl_nil, join_single, List.map_map]
  induction r with
  | nil => rfl
  | cons x q ih =>
    have hx := h x List.mem_cons_self
    rw [List.map_cons, List.flatten_cons, ih fun y hy => h y (List.mem_cons_of_mem _ hy), List.map_cons]
    show tl (numT x) ++ _ = _
    rw [num_tl hx.1 hx.2]
    rfl
theorem sign_num {i : Int} (h0 : 0 ≤ i) (h1 : i ≤ 9) : (⟨#[48 + i.toNat]⟩ : Str) = numT i := ext_tl (by rw [num_tl h0 h1])
theorem row_read {r : List Int} (h : ∀ x ∈ r, 0 ≤ x ∧ x ≤ 9) : rowR (rowT r) = r := by
  unfold rowR signs
  rw [tl_row r h, List.map_map, List.map_map]
  conv => rhs; rw [← List.map_id r]
  refine List.map_congr_left fun x hx => ?_
  have := h x hx
  show figI ⟨#[48 + x.toNat]⟩ = x
  rw [sign_num this.1 this.2, fig_num this.1 this.2]
theorem sp_split {parts : List Str} (hne : parts ≠ []) (hp : ∀ p ∈ parts, 32 ∉ tl p) : Txt.split (Txt.join (Str.ofString " ") parts) (Str.ofString " ") = parts :=
  split_join (s := 32) (S := []) tl_sp (by decide +kernel) hne hp
theorem num_no {i : Int} {c : Nat} (h0 : 0 ≤ i) (h1 : i ≤ 9) (hc : c < 48 ∨ 57 < c) : c ∉ tl (numT i) := by
  rw [num_tl h0 h1]
  intro z
  have := List.mem_singleton.mp z
  omega
theorem row_no {r : List Int} {c : Nat} (h : ∀ x ∈ r, 0 ≤ x ∧ x ≤ 9) (hc : c < 48 ∨ 57 < c) : c ∉ tl (rowT r) := by
  rw [tl_row r h]
  intro z
  obtain ⟨x, hx, e⟩ := List.mem_map.mp z
  have := h x hx
  omega
theorem wish_front {ps : List Int} (h : ps ≠ []) : (Str.empty ++ Str.ofString "wish ") ++ placesT ps = Txt.join (Str.ofString " ") (Str.ofString "wish" :: ps.map numT) := by
  refine ext_tl ?_
  unfold placesT
  rw [tl_append, tl_append, tl_empty, List.nil_append, tl_joinT, tl_joinT, tl_sp]
  cases ps with
  | nil => exact absurd rfl h
  | cons p r =>
    have e : tl (Str.ofString "wish ") = tl (Str.ofString "wish") ++ [32] := by decide +kernel
    rw [e, List.append_assoc]
    rfl
theorem wish_read {many hues : Int} {wd : WD} (m6 : many ≤ 6) (h4 : hues ≤ 4) (g : Good many hues wd) : readW (wishT wd) = wd := by
  have hp : ∀ x ∈ wd.1, 0 ≤ x ∧ x ≤ 9 := fun x hx => by have := g.pl x hx; omega
  have hr : ∀ r ∈ wd.2, ∀ x ∈ r, 0 ≤ x ∧ x ≤ 9 := fun r h x hx => by have := (g.row r h).2 x hx; omega
  have n1 : wd.1 ≠ [] := fun z => by have := g.one; rw [z] at this; exact absurd this (by decide)
  have n2 : wd.2 ≠ [] := fun z => by have := g.some_; rw [z] at this; exact absurd this (by decide)
  have e : Txt.partition (wishT wd) (Str.ofString ": ") = (Txt.join (Str.ofString " ") (Str.ofString "wish" :: wd.1.map numT), Str.ofString ": ", rowsT wd.2) := by
    unfold wishT
    rw [wish_front n1]
    refine partition_app (s := 58) (S := [32]) (by decide +kernel) ?_
    rw [tl_joinT, tl_sp]
    intro z
    rcases join_mem z with z | ⟨p, hp1, z⟩
    · exact absurd z (by decide)
    · rw [List.map_cons] at hp1
      rcases List.mem_cons.mp hp1 with rfl | hp1
      · exact absurd z (by decide +kernel)
      · rw [List.map_map] at hp1
        obtain ⟨x, hx, rfl⟩ := List.mem_map.mp hp1
        have := hp x hx
        exact num_no this.1 this.2 (by omega) z
  unfold readW
  rw [e]
  dsimp only
  rw [sp_split (by simp) (fun p h => ?_)]
  · unfold rowsT
    rw [sp_split (by simpa using n2) (fun p h => ?_)]
    · rw [List.drop_succ_cons, List.drop_zero, List.map_map, List.map_map]
      refine Prod.ext ?_ ?_
      · conv => rhs; rw [← List.map_id wd.1]
        exact List.map_congr_left fun x hx => fig_num (hp x hx).1 (hp x hx).2
      · conv => rhs; rw [← List.map_id wd.2]
        exact List.map_congr_left fun r h => row_read (hr r h)
    · obtain ⟨r, h1, rfl⟩ := List.mem_map.mp h
      exact row_no (hr r h1) (by omega)
  · rcases List.mem_cons.mp h with rfl | h
    · decide +kernel
    · obtain ⟨x, hx, rfl⟩ := List.mem_map.mp h
      exact num_no (hp x hx).1 (hp x hx).2 (by omega)
theorem head_words (many hues : Int) : headT many hues = Txt.join (Str.ofString " ") [Str.ofString "places", numT many, Str.ofString "hues", numT hues] := by
  refine ext_tl ?_
  unfold headT
  rw [tl_append, tl_append, tl_append, tl_append, tl_empty, List.nil_append, tl_joinT, tl_sp]
  have e1 : tl (Str.ofString "places ") = tl (Str.ofString "places") ++ [32] := by decide +kernel
  have e2 : tl (Str.ofString " hues ") = 32 :: (tl (Str.ofString "hues") ++ [32]) := by decide +kernel
  rw [e1, e2]
  simp [joinL]
theorem wish_no {many hues : Int} {wd : WD} (m6 : many ≤ 6) (h4 : hues ≤ 4) (g : Good many hues wd) : 10 ∉ tl (wishT wd) := by
  have hp : ∀ x ∈ wd.1, 0 ≤ x ∧ x ≤ 9 := fun x hx => by have := g.pl x hx; omega
  have hr : ∀ r ∈ wd.2, ∀ x ∈ r, 0 ≤ x ∧ x ≤ 9 := fun r h x hx => by have := (g.row r h).2 x hx; omega
  unfold wishT placesT rowsT
  rw [tl_append, tl_append, tl_append, tl_append, tl_empty, List.nil_append, tl_joinT, tl_joinT, tl_sp]
  intro z
  rcases List.mem_append.mp z with z | z
  · rcases List.mem_append.mp z with z | z
    · rcases List.mem_append.mp z with z | z
      · exact absurd z (by decide +kernel)
      · rcases join_mem z with z | ⟨p, hp1, z⟩
        · exact absurd z (by decide)
        · rw [List.map_map] at hp1
          obtain ⟨x, hx, rfl⟩ := List.mem_map.mp hp1
          exact num_no (hp x hx).1 (hp x hx).2 (by omega) z
    · exact absurd z (by decide +kernel)
  · rcases join_mem z with z | ⟨p, hp1, z⟩
    · exact absurd z (by decide)
    · rw [List.map_map] at hp1
      obtain ⟨r, h, rfl⟩ := List.mem_map.mp hp1
      exact row_no (hr r h) (by omega) z
theorem rid_read {many hues : Int} {wds : List WD} (g : GoodR many hues wds) : readR (ridT many hues wds) = some (many, hues, wds) := by
  have m1 := g.m1
  have m6 := g.m6
  have h2 := g.h2
  have h4 := g.h4
  have hw : ∀ p ∈ [Str.ofString "places", numT many, Str.ofString "hues", numT hues], ∀ c, c = 32 ∨ c = 10 → c ∉ tl p := fun p hp c hc => by
    simp only [List.mem_cons, List.not_mem_nil, or_false] at hp
    rcases hp with rfl | rfl | rfl | rfl
    · rcases hc with rfl | rfl <;> decide +kernel
    · exact num_no (by omega) (by omega) (by omega)
    · rcases hc with rfl | rfl <;> decide +kernel
    · exact num_no (by omega) (by omega) (by omega)
  have e1 : Txt.split (ridT many hues wds) (Str.ofString "\n") = headT many hues :: wds.map wishT := by
    unfold ridT
    refine split_join (s := 10) (S := []) (by decide +kernel) (by decide +kernel) (by simp) fun p hp => ?_
    rw [List.singleton_append] at hp
    rcases List.mem_cons.mp hp with rfl | hp
    · rw [head_words, tl_joinT, tl_sp]
      intro z
      rcases join_mem z with z | ⟨p, hp1, z⟩
      · exact absurd z (by decide)
      · obtain ⟨q, hq, rfl⟩ := List.mem_map.mp hp1
        exact hw q hq 10 (.inr rfl) z
    · obtain ⟨wd, h, rfl⟩ := List.mem_map.mp hp
      exact wish_no m6 h4 (g.each wd h)
  have e2 : Txt.split (headT many hues) (Str.ofString " ") = [Str.ofString "places", numT many, Str.ofString "hues", numT hues] := by
    rw [head_words]
    exact sp_split (by simp) fun p hp => hw p hp 32 (.inl rfl)
  unfold readR
  rw [e1]
  show (if (Txt.split (headT many hues) (Str.ofString " ")).length = 4 then some (figI ((Txt.split (headT many hues) (Str.ofString " ")).getD 1 Str.empty), figI ((Txt.split (headT many hues) (Str.ofString " ")).getD 3 Str.empty), (wds.map wishT).map readW) else none) = _
  rw [e2]
  refine (if_pos (show [Str.ofString "places", numT many, Str.ofString "hues", numT hues].length = 4 from rfl)).trans ?_
  show some (figI (numT many), figI (numT hues), (wds.map wishT).map readW) = _
  rw [fig_num (by omega) (by omega), fig_num (by omega) (by omega), List.map_map]
  have e3 : wds.map (readW ∘ wishT) = wds := by
    conv => rhs; rw [← List.map_id wds]
    exact List.map_congr_left fun wd h => wish_read m6 h4 (g.each wd h)
  rw [e3]
theorem rid_inj {many hues many' hues' : Int} {wds wds' : List WD} (g : GoodR many hues wds) (g' : GoodR many' hues' wds') (h : ridT many hues wds = ridT many' hues' wds') : many = many' ∧ hues = hues' ∧ wds = wds' := by
  have a := rid_read g
  rw [h, rid_read g'] at a
  have a := Option.some.inj a
  simp only [Prod.mk.injEq] at a
  exact ⟨a.1.symm, a.2.1.symm, a.2.2.symm⟩
end Rd
namespace Gx
open PySem PySem.Spec PyProof.Rows L2 GenW TL
theorem tup_str {x : Str} {g : TG} {tt : TT} {te : TE} {vs : List Nat} {σ : L2.St} {Q : List V → Hp → Prop} {H2 : Hp} (hz : x.cps.size ≤ sizeLine) (Pv : Nat → List V → Hp → Prop) (h0 : Pv 0 [] H2) (hy : ∀ i ys H, Pv i ys H → ys.length ≤ i)
    (hs : ∀ i c ys H, x.cps[i]? = some c → Pv i ys H → g (.str ⟨#[c]⟩) (wipe σ vs) H fun σ2 H2 => wipe σ2 vs = wipe σ vs ∧ tt σ2 H2 fun b H3 => if b = true then te σ2 H3 fun y H4 => Pv (i + 1) (ys ++ [y]) H4 else Pv (i + 1) ys H3) (hd : ∀ ys H, Pv x.cps.size ys H → Q ys H) :
    ∃ W : Nat → Nat → List V → Hp → Prop, (∃ m, W 0 m [] H2) ∧ TurnsC (Its x) g tt te vs σ Q W := by
  refine ⟨fun i m ys H => m = x.cps.size - i ∧ i ≤ x.cps.size ∧ Pv i ys H, ⟨x.cps.size, by simp, Nat.zero_le _, h0⟩, ?_⟩
  rintro i m ys H ⟨rfl, hi, p⟩
  by_cases hlt : i < x.cps.size
  · refine .inr ⟨hlt, Nat.lt_of_le_of_lt (hy i ys H p) (Nat.lt_of_lt_of_le hlt hz), Pv (i + 1), fun ys' H' p' => ⟨x.cps.size - (i + 1), by omega, rfl, hlt, p'⟩, fun v H' y => ?_⟩
    obtain ⟨rfl, c, ec, rfl⟩ := y
    exact hs i c ys _ ec p
  · have e : i = x.cps.size := by omega
    subst e
    exact .inl ⟨Nat.le_refl _, hd ys H p⟩
end Gx

set_option Elab.async false
set_option linter.all false
set_option maxRecDepth 100000
set_option maxHeartbeats 4000000
/-! an exception that is caught and kept: try / except x as n, the exception's object tracked from then on -/
namespace Rd
open PySem PySem.Spec PyProof.Rows L2 Dt
/-- the object of an exception, of which the class and the dict are known -/
def ExD (cls : Value) (d : Option Addr) (a : Addr) : HO := .ext fun h => ∃ (oe : Obj) (vs : Array Value), h.get? a = some oe ∧ Zc cls d oe ∧ oe.data = .fields vs
theorem exD_ok {P : Program} {w : World} {H : Hp} {h : Heap} {a : Addr} {cls : Value} {d : Option Addr} {oe : Obj} {vs : Array Value} (e : h.get? a = some oe) (z : Zc cls d oe) (y : oe.data = .fields vs) : ObjOk P w H h a (ExD cls d a) :=
  ⟨⟨oe, vs, e, z, y⟩, ⟨oe, e⟩, fun h1 h2 ⟨o', vs', e', z', y'⟩ k => ⟨o', vs', k _ e', z', y'⟩⟩
section
variable {X : Cx} {pins : List (Addr × Obj)} {σ : L2.St} {H : Hp} {s : Shared}
theorem track_ok (I : Inv X pins σ H s) {a : Addr} {o : HO} (na : H a = none) (n0 : X.s_0.heap.get? a = none) (nL : a ≠ X.env.locals) (nC : ∀ x c, X.env.cells.lookup x = some c → c ≠ a) (nP : ∀ p ∈ X.pn ++ pins, p.1 ≠ a) (new : ObjOk X.prog X.w (upd H a o) s.heap a o) : Inv X pins σ (upd H a o) s :=
  ⟨I.ok, I.os, I.bare, ⟨I.base.keep, I.base.slot, fun b u e n hx => by
      rw [upd_ne (fun z => by rw [z, n0] at e; cases e)]
      exact I.base.free b u e n hx, I.base.there, fun b xs e => by
      have q := I.base.tups b xs e
      rw [upd_ne (ne_of_none q na)]
      exact q, fun b u xs e => by
      have q := I.base.frzs b u xs e
      rw [upd_ne (ne_of_none q na)]
      exact q, fun b ps e => by
      obtain ⟨more, q⟩ := I.base.tbls b ps e
      exact ⟨more, by rw [upd_ne (ne_of_none q na)]; exact q⟩⟩, I.loc, I.cell, by
    rw [upd_ne (Ne.symm nL)]
    exact I.free, fun x c e => by
    rw [upd_ne (nC x c e)]
    exact I.freeC x c e, fun p hp => by
    obtain ⟨p1, p2, p3⟩ := I.pin p hp
    exact ⟨p1, by rw [upd_ne (nP p hp)]; exact p2, p3⟩, I.hok.laidN (fun _ _ e => e) na new, I.len⟩
end
/-- the clause 'except x as n', the exception tracked in its suite and behind it -/
def wKeep (K : PySem.W.Frag) (c : Value) (i : Nat) (ts : Addr → TS) (Wout : WX) (D : Ends) : WX := fun cls d σ H =>
  ∃ b, PySem.W.exmOne K cls c = some b ∧ (b = true → ∀ a, H a = none → ts a { nx := fun σ' H' => D.nx (σ'.set i none) H', rt := D.rt, bk := fun σ' H' => D.bk (σ'.set i none) H', ct := fun σ' H' => D.ct (σ'.set i none) H' } (σ.set i (some (.ref a))) (upd H a (ExD cls d a))) ∧ (b = false → Wout cls d σ H)
section
variable {X : Cx} {x n : Str} {c : Value} {i : Nat} {body suite : List Stmt} {b₀ : Stmt} {np pos pos' : Pos} {tb : WX → TS} {ts : Addr → TS} {Wout : WX}
theorem ps_try_keep (hex : X.ex = []) (hs : X.stack = X.env :: X.outer) (hf : X.env.frame = some X.env.locals) (hN : X.N.Nodup) (hi : X.N[i]? = some n) (hln : X.env.kindOf n = some .local) (hc : Names X x c) (tk : Takes X Wout)
    (hb : ∀ (W : WX) (pn : List (Addr × Obj)) (xe : Value → Shared → Prop), Takes (X.tr pn xe) W → PassesOwn (model X.prog X.w) X.A X.env xe → PSs (X.tr pn xe) body (tb W)) (hsu : ∀ (a : Addr) (pn : List (Addr × Obj)), PSs (X.suite a pn) (b₀ :: suite) (ts a)) :
    PS X (.Try body [.ExceptHandler (some (.Name x np)) (some n) (b₀ :: suite) pos'] [] [] pos) (fun D σ H => tb (wKeep X.K c i ts Wout D) D σ H) := ⟨fun pins s σ H D I h => by
  have ok := I.ok; have hfr : X.A.frames = some (X.env :: X.outer) := (by rw [ok.frames, hs])
  have hloc : Loc X.env.scope n := .inl hln; refine wpAny_Try_except ?_
  refine wpAny_mono ((hb (wKeep X.K c i ts Wout D) (X.pn ++ pins) (fun e s₁ => wpAny (model X.prog X.w) X.A (noteFrame e X.env) (fun _ s₂ => wpAny (model X.prog X.w) X.A (setFlight e none) (fun _ s₃ => wpAny (model X.prog X.w) X.A (handleBy e X.env [.ExceptHandler (some (.Name x np)) (some n) (b₀ :: suite) pos']) (SP X pins D) X.xe s₃) X.xe s₂) X.xe s₁) (fun u s' xx => ?_) PassesOwn.looking).run [] s σ H D (I.toTry _) h) (fun f s1 hsp => ?_) (fun e s1 he => he)
  · obtain ⟨a, B, sI, pins', σ', H', cls, d, rfl, J', nb, up, sky, na, os, ag, b, hb1, hyes, hno⟩ := xx; have J : Inv X pins σ' H' sI := J'.ofTry ok
    have sky' : Sky B (X.env :: X.outer) a (Zc cls d) X.env.locals s'.heap := (by rw [← hs]; exact sky)
    show wpAny (model X.prog X.w) X.A (noteFrame (.ref a) X.env) _ _ _; refine Sky.land Zc.steady hfr hf sky' fun h3 fl3 up3 => ?_
    have J3 : Inv X pins σ' H' { s' with heap := h3 } := J.landed nb fl3.1 (up.trans up3) os ag; obtain ⟨oe3, vs3, he3, hz3, hd3⟩ := fl3.there
    have nfr : a ∉ frs (X.env :: X.outer) := fun hm => by
      obtain ⟨_, o', e', hnf⟩ := fl3.2.2.1.mem hm; rw [he3] at e'; cases e'; exact hnf _ hd3
    have nL : a ≠ X.env.locals := fun z => nfr (List.mem_filterMap.mpr ⟨X.env, List.mem_cons_self, by rw [hf, z]⟩); have nF : a ∉ X.fs := fun hm => (by
      obtain ⟨e, he, q⟩ := List.mem_filterMap.mp hm
      exact nfr (List.mem_filterMap.mpr ⟨e, List.mem_cons_of_mem _ he, q⟩))
    have nI : sI.heap.get? a = none := by
      cases q : sI.heap.get? a with
      | none => rfl
      | some o =>
        have z := nb a o q (by rw [hs]; exact nfr)
        rw [fl3.2.1] at z
        cases z
    have n0 : X.s_0.heap.get? a = none := by
      cases q : X.s_0.heap.get? a with
      | none => rfl
      | some o =>
        obtain ⟨o', z⟩ := J.base.there a o q (by rw [hex]; exact List.not_mem_nil)
        rw [nI] at z
        cases z
    have nC : ∀ y z, X.env.cells.lookup y = some z → z ≠ a := fun y z e q => by
      obtain ⟨v, o, eo, _⟩ := J.cell y z e
      rw [q, nI] at eo
      cases eo
    have nP : ∀ p ∈ X.pn ++ pins, p.1 ≠ a := fun p hp q => by
      have e := (J.pin p hp).1
      rw [q, nI] at e
      cases e
    have S3 := J3.suite he3 hd3 na nL nF; refine wpAny_handleBy_cons (codeAny_handlers_test ?_) (by intro q; cases q)
    have LT : PySem.W.Looks (model X.prog X.w) h3 (typeOf (.ref a)) cls := fun A Q E s k q => wpAny_typeOf_ref (k _ _ he3) (by rw [hz3.1]; exact q); have LM := PySem.W.exm_one (M := model X.prog X.w) (J3.kIn) LT hb1
    have test : ∀ {Q : Value → Shared → Prop} {E : Value → Shared → Prop}, Q c { s' with heap := h3 } → wpAny (model X.prog X.w) (X.A.mark (some (.ref a))) (eval (.Name x np) X.env) Q E { s' with heap := h3 } := fun {Q E} q => (by
      obtain ⟨hg, hdbg, hm | ⟨hm, hv, hnn⟩⟩ := hc
      · exact ld_glob (X := X.suite a ((a, oe3) :: (X.pn ++ pins))) S3 hg hm q hdbg
      · exact ld_blt (X := X.suite a ((a, oe3) :: (X.pn ++ pins))) S3 hg hm hv q hnn hdbg)
    refine test (LM.here ?_); cases b with
    | true =>
      refine codeAny_handlers_suite_as (HandSPX.lands_againZ fl3 fun h4 fl4 up4 => ?_)
      have J4 : Inv X pins σ' H' { s' with heap := h4 } := J.landed nb fl4.1 ((up.trans up3).trans up4) os ag; obtain ⟨oe4, vs4, he4, hz4, hd4⟩ := fl4.there
      have T4 : Inv X pins σ' (upd H' a (ExD cls d a)) { s' with heap := h4 } := track_ok J4 na n0 nL nC nP (exD_ok he4 hz4 hd4)
      have S4 : Inv (X.suite a (X.pn ++ pins)) [] σ' (upd H' a (ExD cls d a)) { s' with heap := h4 } := ⟨ok.suite _ _, T4.os, T4.bare, T4.base, T4.loc, T4.cell, T4.free, T4.freeC, fun p hp => T4.pin p (by rw [List.append_nil] at hp; exact hp), T4.hok, T4.len⟩
      refine store_ok (X := X.suite a (X.pn ++ pins)) (v := .ref a) S4 hN hi hloc rfl (fun s5 S5 => ?_) (.inr hln)
      refine wpAny_mono ((hsu a (X.pn ++ pins)).run [] s5 _ _ _ S5 (hyes rfl a na)) (fun f s6 hsp => ?_) (fun _ _ z => False.elim z)
      have back : ∀ {σ6 : L2.St} {H6 : Hp} {Q : Shared → Prop}, Inv (X.suite a (X.pn ++ pins)) [] σ6 H6 s6 → (∀ s7, Inv X pins (σ6.set i none) H6 s7 → Q s7) → wpAny (model X.prog X.w) X.A (do bindName X.env n .none; unbindBehindTheSuite X.env n pos') (fun _ s7 => Q s7) X.xe s6 := fun {σ6 H6 Q} S6 hq =>
        gone_ok (X := X) (pins := pins) ⟨ok, S6.os, S6.bare, S6.base, S6.loc, S6.cell, S6.free, S6.freeC, fun p hp => S6.pin p (List.mem_append_left _ hp), S6.hok, S6.len⟩ hN hi hln hq
      cases f with
      | ret u => obtain ⟨v6, σ6, H6, S6, r6, q6⟩ := hsp; exact back S6 fun s7 J7 => ⟨_, _, _, J7, r6, q6⟩
      | next => obtain ⟨σ6, H6, S6, q6⟩ := hsp; exact back S6 fun s7 J7 => ⟨_, _, J7, q6⟩
      | brk => obtain ⟨σ6, H6, S6, q6⟩ := hsp; exact back S6 fun s7 J7 => ⟨_, _, J7, q6⟩
      | cont => obtain ⟨σ6, H6, S6, q6⟩ := hsp; exact back S6 fun s7 J7 => ⟨_, _, J7, q6⟩
    | false =>
      show wpAny _ X.A (handleBy (.ref a) X.env []) _ _ _; refine wpAny_handleBy_nil ?_; obtain ⟨k1, k2, k3, oe, vs, T, oT, ts', he, hz, hd, h1, hr⟩ := id fl3
      unfold PySem.passOn; refine wpAny_bind (wpAny_field he hd h1 ?_); rw [if_neg (show ¬ ((Value.ref T == Value.none) = true) from by simp)]
      have fin : wpAny (model X.prog X.w) X.A (setFlight (.ref a) X.env.frame) (fun _ s4 => wpAny (model X.prog X.w) X.A (throw (.ref a) : Sem Flow) (SP X pins D) X.xe s4) X.xe { s' with heap := h3 } := (by
        rw [hf]; refine HandSPX.setFlight_upZ fl3 fun h4 hh4 up4 => wpAny_throw (tk _ _ ?_)
        exact ⟨a, B, sI, pins, σ', H', cls, d, rfl, J, nb, (up.trans up3).trans up4, .inr (.inr (by rw [hs]; exact hh4)), na, os, ag, hno rfl⟩)
      first | exact wpAny_bind (wpAny_pure (wpAny_bind fin)) | exact wpAny_bind fin
  · cases f with
    | ret u => obtain ⟨v, σ', H', J', r, q⟩ := hsp; exact ⟨v, σ', H', J'.ofTry ok, r, q⟩
    | next => obtain ⟨σ', H', J', q⟩ := hsp; exact wpAny_execs_nil ⟨σ', H', J'.ofTry ok, q⟩
    | brk => obtain ⟨σ', H', J', q⟩ := hsp; exact ⟨σ', H', J'.ofTry ok, q⟩
    | cont => obtain ⟨σ', H', J', q⟩ := hsp; exact ⟨σ', H', J'.ofTry ok, q⟩⟩
end
end Rd

set_option Elab.async false
set_option linter.all false
set_option maxRecDepth 100000
set_option maxHeartbeats 4000000
/-! the refusals' classes; isinstance of one that was caught; calls that may let one out -/
namespace Rd
open PySem PySem.Spec PyProof.Rows L2 Dt
theorem pe_gref {X : Cx} {x : Str} {a : Addr} {pos : Pos} (hg : Gl X x) (hm : X.mg x = some (.ref a)) (hd : (x == ("__debug__" : Str)) = false := by decide) : PE X (.Name x pos) (tC (.ref a)) := pe_glob hg hm rfl hd
def rIsD (K : PySem.W.Frag) : List V → Hp → VK → Prop := fun xs H Q => ∃ (a D : Addr) (c : V) (cv : Value) (b : Bool), xs = [.ref a, c] ∧ H a = some (ExD (.ref D) none a) ∧ ExcC K D ∧ ClsV c cv ∧ PySem.W.kitOne K (.ref D) cv = some b ∧ Q (.bl b) H
theorem call_isD {X : Cx} : CallR X (.builtin "isinstance") (rIsD X.K) := by
  intro pins s σ H xs us Q I r h
  obtain ⟨a, D, c, cv, b, rfl, ha, C, k, e, q⟩ := h
  obtain ⟨u1, u2, rfl, r1, r2⟩ := vals2 r
  have e2 := k.eq r2
  subst e2
  cases (show u1 = Value.ref a from r1)
  obtain ⟨⟨oe, vs, hget, hz, hd⟩, _, _⟩ := I.hok a _ ha
  have J : PySem.W.InstAt s.heap a oe D none := by
    obtain ⟨oc, od, oda, osl⟩ := oe
    obtain ⟨h1, h2⟩ := hz
    dsimp only at h1 h2 hd
    subst h1 h2 hd
    exact ⟨hget, rfl, rfl, trivial⟩
  exact PySem.W.kia_one (PySem.W.handS_kitx_exc C.hg C.hk C.hs C.hd C.ha C.hn C.ht C.hm) I.kIn J e (fun z => nomatch z) fun tk => ⟨.bl b, H, I.tok tk, rfl, q⟩
/-- the classes: the eleven refusals as _law_kinds names them, then the one above -/
structure ClsX (K : PySem.W.Frag) (mg : Str → Option Value) (C : Nat → Addr) : Prop where
  g_NoEnd : mg "NoEnd" = some (.ref (C 0))
  g_NoLog : mg "NoLog" = some (.ref (C 1))
  g_NoName : mg "NoName" = some (.ref (C 2))
  g_NoRow : mg "NoRow" = some (.ref (C 3))
  g_NoStep : mg "NoStep" = some (.ref (C 4))
  g_NoTable : mg "NoTable" = some (.ref (C 5))
  g_NoText : mg "NoText" = some (.ref (C 6))
  g_NoWish : mg "NoWish" = some (.ref (C 7))
  g_Spent : mg "Spent" = some (.ref (C 8))
  g_Told : mg "Told" = some (.ref (C 9))
  g_TooMany : mg "TooMany" = some (.ref (C 10))
  g_DrawError : mg "DrawError" = some (.ref (C 11))
  m_isinstance : mg "isinstance" = none
  m_ValueError : mg "ValueError" = none
  x : ∀ i, i < 12 → PySem.W.excIn K (C i) [.type "ValueError", .type "Exception", .type "BaseException", .type "object"] "ValueError.__new__" = true
  k : ∀ i, i < 12 → PySem.W.keepIn K (.ref (C i)) = true
  e : ∀ i, i < 12 → ExcC K (C i)
  kit : ∀ i, i < 12 → ∀ j, j < 11 → PySem.W.kitOne K (.ref (C i)) (.ref (C j)) = some (decide (i = j))
  kitV : ∀ i, i < 12 → PySem.W.kitOne K (.ref (C i)) (.type "ValueError") = some true
  ty : ∀ i, i < 12 → PySem.W.typeIn K (.ref (C i)) = some (.type "type")
  exm : ∀ i, i < 12 → PySem.W.exmOne K (.ref (C i)) (.ref (C 11)) = some true
theorem ClsX.raises {K : PySem.W.Frag} {mg : Str → Option Value} {C : Nat → Addr} (T : ClsX K mg C) {X : Cx} (hK : X.K = K) {i : Nat} (hi : i < 12) : Raises X (.ref (C i)) := raises_own (by rw [hK]; exact (T.e i hi).hs) (by rw [hK]; exact T.ty i hi)
/-- a def that may raise -/
def CalX (P : Program) (w : World) (K : PySem.W.Frag) (mg : Str → Option Value) (base : Heap) (k : Nat) (x : Str) (ps : List Str) (sp : Sp) : Prop :=
  ∃ (f : Addr) (fd : FuncData), FnOk P w K mg base (L2.CX P w) k f fd ps sp ∧ mg x = some (.ref f) ∧ PySem.W.keepIn K (.ref f) = true ∧ Binds K fd ps []
theorem pe_calX {X : Cx} {W : WX} {k : Nat} {x : Str} {ps : List Str} {sp : Sp} {p pos : Pos} {e : Expr} {es : List Expr} {t : TA} (C : CalX X.prog X.w X.K X.mg X.base k x ps sp) (hr : Room k X.A) (tk : Takes X W) (hg : Gl X x)
    (ha : PA X (e :: es) t) (hdb : (x == ("__debug__" : Str)) = false := by decide) (he : starEach (e :: es) X.env = (false, eval e X.env) :: starEach es X.env := by rfl) (hpl : (backTo pos (starEach es X.env)).any (·.1) = false := by rfl) : PE X (.Call (.Name x p) (e :: es) [] pos) (tCallS sp (WE W) t) := by
  obtain ⟨f, fd, F, hm, hk, hb⟩ := C
  exact pe_callS F hr hg hm hk hb (passAt tk) ha hdb he hpl
/-- of what _law_kinds tells -/
def kindsB (i : Nat) : List Bool := ((List.range 11).map fun j => decide (i = j)) ++ [true]
def spKnd (C : Nat → Addr) : Sp := fun vs H Q _ => ∃ (a : Addr) (i : Nat), vs = [.ref a] ∧ i < 12 ∧ H a = some (ExD (.ref (C i)) none a) ∧
  ∀ H' p, Same H H' → H p = none → H' p = some (.lst ((kindsB i).map V.bl)) → Q (.ref p) H'
end Rd

set_option Elab.async false
set_option linter.all false
set_option maxRecDepth 100000
set_option maxHeartbeats 4000000
/-! one refusal's class; a def that may let it out -/
namespace Rd
open PySem PySem.Spec PyProof.Rows L2 Dt
structure Cls1 (K : PySem.W.Frag) (D : Addr) : Prop where
  x : PySem.W.excIn K D [.type "ValueError", .type "Exception", .type "BaseException", .type "object"] "ValueError.__new__" = true
  k : PySem.W.keepIn K (.ref D) = true
  b : PySem.W.subIn K (.ref D) (.type "BaseException") = some true
  t : PySem.W.typeIn K (.ref D) = some (.type "type")
  e : PySem.W.exmOne K (.ref D) (.ref D) = some true
def okC1 (K : PySem.W.Frag) (D : Addr) : Bool :=
  PySem.W.excIn K D [.type "ValueError", .type "Exception", .type "BaseException", .type "object"] "ValueError.__new__" && PySem.W.keepIn K (.ref D) &&
  (PySem.W.subIn K (.ref D) (.type "BaseException") == some true) && (PySem.W.typeIn K (.ref D) == some (.type "type")) && (PySem.W.exmOne K (.ref D) (.ref D) == some true)
theorem cls1_of {K : PySem.W.Frag} {D : Addr} (h : okC1 K D = true) : Cls1 K D := by
  unfold okC1 at h
  simp only [Bool.and_eq_true, beq_iff_eq] at h
  obtain ⟨⟨⟨⟨h1, h2⟩, h3⟩, h4⟩, h5⟩ := h
  exact ⟨h1, h2, h3, h4, h5⟩
theorem FunC.okX {P : Program} {w : World} {K : PySem.W.Frag} {mg : Str → Option Value} {base : Heap} {x qual : Str} {st : Stmt} {f : Addr} {fd : FuncData} {cdv : Value} {N ps : List Str} {k : Nat} {sp : Sp} (F : FunC K x qual st f fd cdv) (S : FnScope N ps (defScope st)) (len : ∀ vs H Q E, sp vs H Q E → vs.length = ps.length)
    (body : ∀ (A : Around) (outer : List Env) (s : Shared) (H : Hp) (vs : List V) (Q : VK) (E : XK), Room k (A.deeper (envOfC qual (defScope st) s.heap.objs.size f cdv)) → sp vs H Q E →
      ∃ t, PSs (cxOf (L2.CX P w) P w K mg base N qual (defScope st) f cdv A outer s H E) (defBody st) t ∧ t { nx := fun _ H' => Q .non H', rt := Q } (start N vs) H) : FnOk P w K mg base (L2.CX P w) (k + 1) f fd ps sp := by
  obtain ⟨oc, od, kV, doc, pm, an, ct, osl, rfl, lk, hcd⟩ := F.ex
  exact fn_of lk hcd S len fun A outer s H vs Q E hr hsp => body A outer s H vs Q E hr hsp
end Rd

set_option Elab.async false
set_option linter.all false
set_option maxRecDepth 100000
set_option maxHeartbeats 4000000
/-! texts in lists: how long all of them are -/
namespace Rd
open PySem PySem.Spec PyProof.Rows L2 Dt TL
def msr (ys : List Str) : Nat := (ys.map (·.length)).sum + ys.length
theorem msr_app (a b : List Str) : msr (a ++ b) = msr a + msr b := by
  unfold msr
  rw [List.map_append, List.sum_append, List.length_append]
  omega
theorem msr_cons (x : Str) (b : List Str) : msr (x :: b) = x.length + 1 + msr b := by
  unfold msr
  rw [List.map_cons, List.sum_cons, List.length_cons]
  omega
theorem msr_take (n : Nat) (a : List Str) : msr (a.take n) ≤ msr a := by
  have z := msr_app (a.take n) (a.drop n)
  rw [List.take_append_drop] at z
  omega
theorem msr_drop (n : Nat) (a : List Str) : msr (a.drop n) ≤ msr a := by
  have z := msr_app (a.take n) (a.drop n)
  rw [List.take_append_drop] at z
  omega
theorem msr_set : ∀ (a : List Str) (i : Nat) (x : Str), msr (a.set i x) ≤ msr a + x.length
  | [], _, _ => by simp [msr]
  | y :: r, 0, x => by
    rw [List.set_cons_zero, msr_cons, msr_cons]
    omega
  | y :: r, i + 1, x => by
    have := msr_set r i x
    rw [List.set_cons_succ, msr_cons, msr_cons]
    omega
theorem msr_mem {a : List Str} {x : Str} (h : x ∈ a) : x.length + 1 ≤ msr a := by
  obtain ⟨p, q, rfl⟩ := List.append_of_mem h
  rw [msr_app, msr_cons]
  omega
theorem msr_split (x y : Str) (hy : 1 ≤ y.length) : msr (Txt.split x y) ≤ x.length + 1 := split_weight x y hy
theorem msr_join {sep : Str} {a : List Str} (h : sep.length ≤ 1) : (Txt.join sep a).length ≤ msr a := by
  rw [join_eq]
  have z := StrLaws.join_length_le sep a
  have : a.length * sep.length ≤ a.length * 1 := Nat.mul_le_mul_left _ h
  unfold msr
  omega
theorem msr_ok {sep : Str} {a : List Str} (h : sep.length ≤ 1) (m : msr a ≤ 16777216) : (a.map (·.length)).sum + a.length * sep.length ≤ 16777216 := by
  have : a.length * sep.length ≤ a.length * 1 := Nat.mul_le_mul_left _ h
  unfold msr at m
  omega
theorem op_mulS {X : Cx} : OpR X (binaryOp .Mult) (fun x y H Q => ∃ (i : Str) (n : Int), x = .str i ∧ y = .int n ∧ MulOk i n ∧ Q (.str (Txt.mul i n)) H) := by
  intro pins s σ H x y v u Q I rx ry h
  obtain ⟨i, n, rfl, rfl, hz, q⟩ := h
  obtain ⟨t, rfl⟩ := rx
  obtain ⟨t', rfl⟩ := ry
  exact PySem.SB.mul hz fun t' k => ⟨.str _, H, I.tok k, ⟨t', rfl⟩, q⟩
theorem cut_few (z : Str) (n : Nat) : (cutS z none (some (n : Int))).length ≤ n := by
  unfold cutS
  rw [len_tl]
  show (((z.cps.toList.drop _).take _).length) ≤ n
  rw [HT.sIx_nat, HT.sIx_none, List.length_take]
  omega
theorem pe_cal0 {X : Cx} {k : Nat} {x : Str} {sp : Sp} {p pos : Pos} (C : Cal X.prog X.w X.K X.mg X.base k x [] sp) (hr : Room k X.A) (hg : Gl X x) (hdb : (x == ("__debug__" : Str)) = false := by decide) : PE X (.Call (.Name x p) [] [] pos) (tCall sp [] E0 tNil) := by
  obtain ⟨f, fd, F, hm, hk, hb⟩ := C
  exact pe_call0 F hr hg hm hk hb .nil pass0 hdb
end Rd

set_option Elab.async false
set_option linter.all false
set_option maxRecDepth 100000
set_option maxHeartbeats 4000000
/-! texts read strictly, row by row -/
namespace Rd
open PySem PySem.Spec PyProof.Rows L2 Dt TL
def isDig (c : Nat) : Bool := decide (48 ≤ c ∧ c ≤ 57)
def figL (w : Str) : List Int := if (tl w).all isDig then (tl w).map (fun c : Nat => (c : Int) - 48) else []
def partsW (row : Str) : List Str := Txt.split row (Str.ofString ": ")
def plW (row : Str) : List (List Int) := (Txt.split (cutS ((partsW row).getD 0 Str.empty) (some 5) none) (Str.ofString " ")).map figL
def wishR (row : Str) : Option WD :=
  if cutS row none (some 5) ≠ Str.ofString "wish " ∨ (partsW row).length ≠ 2 then none
  else if (plW row).any (fun l => decide (l.length ≠ 1)) then none
  else some ((plW row).map (fun l => l.getD 0 0), (Txt.split ((partsW row).getD 1 Str.empty) (Str.ofString " ")).map figL)
theorem join_sp2 (x y : Str) : Txt.join y (Txt.split x y) = x := by rw [join_eq]; exact StrLaws.join_split x y
theorem fig_one {w : Str} {x : Int} (h : figL w = [x]) : 0 ≤ x ∧ x ≤ 9 ∧ w = numT x := by
  unfold figL at h
  split at h
  · rename_i hd
    cases e : tl w with
    | nil => rw [e] at h; cases h
    | cons c r =>
      rw [e] at h hd
      cases r with
      | cons _ _ => simp at h
      | nil =>
        have hx : (c : Int) - 48 = x := by simpa using h
        have hc := List.all_eq_true.mp hd c List.mem_cons_self
        have hc := of_decide_eq_true hc
        refine ⟨by omega, by omega, ext_tl ?_⟩
        rw [num_tl (by omega) (by omega), e]
        congr 1
        omega
  · cases h
theorem fig_row {w : Str} {r : List Int} (h : figL w = r) (n : r ≠ []) : (∀ x ∈ r, 0 ≤ x ∧ x ≤ 9) ∧ w = rowT r := by
  unfold figL at h
  split at h
  · rename_i hd
    have hr : ∀ x ∈ r, 0 ≤ x ∧ x ≤ 9 := fun x hx => by
      rw [← h] at hx
      obtain ⟨c, hc, rfl⟩ := List.mem_map.mp hx
      have := of_decide_eq_true (List.all_eq_true.mp hd c hc)
      omega
    refine ⟨hr, ext_tl ?_⟩
    rw [tl_row r hr, ← h, List.map_map]
    conv => lhs; rw [← List.map_id (tl w)]
    refine List.map_congr_left fun c hc => ?_
    have := of_decide_eq_true (List.all_eq_true.mp hd c hc)
    show c = 48 + ((c : Int) - 48).toNat
    omega
  · exact absurd h.symm n
theorem fig_num' {i : Int} (h0 : 0 ≤ i) (h1 : i ≤ 9) : figL (numT i) = [i] := by
  unfold figL
  rw [num_tl h0 h1, if_pos]
  · show [((48 + i.toNat : Nat) : Int) - 48] = [i]
    congr 1
    omega
  · show (isDig (48 + i.toNat) && true) = true
    rw [Bool.and_true]
    exact decide_eq_true (by omega)
theorem fig_row' {r : List Int} (h : ∀ x ∈ r, 0 ≤ x ∧ x ≤ 9) : figL (rowT r) = r := by
  unfold figL
  rw [tl_row r h, if_pos]
  · rw [List.map_map]
    conv => rhs; rw [← List.map_id r]
    refine List.map_congr_left fun x hx => ?_
    have := h x hx
    show ((48 + x.toNat : Nat) : Int) - 48 = x
    omega
  · refine List.all_eq_true.mpr fun c hc => ?_
    obtain ⟨x, hx, rfl⟩ := List.mem_map.mp hc
    have := h x hx
    exact decide_eq_true (by omega)
theorem cut_tl (z : Str) (n : Nat) : tl (cutS z none (some (n : Int))) = (tl z).take n := by
  unfold cutS
  show ((z.cps.toList.drop _).take _) = _
  rw [HT.sIx_nat, HT.sIx_none, List.drop_zero, Nat.sub_zero, len_tl]
  rcases Nat.le_total n (tl z).length with h | h
  · rw [Nat.min_eq_left h]
  · rw [Nat.min_eq_right h, List.take_of_length_le h, List.take_of_length_le (Nat.le_refl _)]
theorem cutf_tl (z : Str) (n : Nat) : tl (cutS z (some (n : Int)) none) = (tl z).drop n := by
  unfold cutS
  show ((z.cps.toList.drop _).take _) = _
  rw [HT.sIx_nat, HT.sIx_none, len_tl]
  rcases Nat.le_total n (tl z).length with h | h
  · rw [Nat.min_eq_left h, List.take_of_length_le (by rw [List.length_drop]; exact Nat.le_refl _)]
  · rw [Nat.min_eq_right h, List.drop_of_length_le (Nat.le_refl _), List.drop_of_length_le h, List.take_nil]
theorem wish_tl5 : tl (Str.ofString "wish ") = [119, 105, 115, 104, 32] := by decide +kernel
/-- a row that is read is the row of that wish -/
theorem wishR_text {many hues : Int} {row : Str} {wd : WD} (h : wishR row = some wd) (g : Good many hues wd) : wishT wd = row := by
  unfold wishR at h
  split at h
  · cases h
  rename_i h1
  have h1 : cutS row none (some 5) = Str.ofString "wish " ∧ (partsW row).length = 2 := ⟨Decidable.byContradiction fun z => h1 (.inl z), Decidable.byContradiction fun z => h1 (.inr z)⟩
  split at h
  · cases h
  rename_i h2
  have h2 : ∀ l ∈ plW row, l.length = 1 := fun l hl => Decidable.byContradiction fun z => h2 (List.any_eq_true.mpr ⟨l, hl, decide_eq_true z⟩)
  have e := Option.some.inj h
  obtain ⟨p0, p1, ep⟩ : ∃ p0 p1, partsW row = [p0, p1] := by
    cases hp : partsW row with
    | nil => rw [hp] at h1; exact absurd h1.2 (by decide)
    | cons a r =>
      cases r with
      | nil => rw [hp] at h1; simp at h1
      | cons b q =>
        cases q with
        | nil => exact ⟨a, b, rfl⟩
        | cons _ _ => rw [hp] at h1; simp at h1
  have er : Txt.join (Str.ofString ": ") [p0, p1] = row := by
    rw [← ep]
    exact join_sp2 row (Str.ofString ": ")
  have etr : tl row = tl p0 ++ ([58, 32] ++ tl p1) := by
    rw [← er, tl_joinT, show tl (Str.ofString ": ") = [58, 32] by decide +kernel]
    rfl
  have c5 : (tl row).take 5 = [119, 105, 115, 104, 32] := by
    have z := cut_tl row 5
    rw [show cutS row none (some ((5 : Nat) : Int)) = Str.ofString "wish " from h1.1, wish_tl5] at z
    exact z.symm
  have l5 : 5 ≤ (tl p0).length := by
    refine Decidable.byContradiction fun z => ?_
    have z : (tl p0).length ≤ 4 := by omega
    have y : ((tl row).take 5)[(tl p0).length]? = [119, 105, 115, 104, 32][(tl p0).length]? := by rw [c5]
    rw [List.getElem?_take_of_lt (by omega), etr, List.getElem?_append_right (Nat.le_refl _), Nat.sub_self] at y
    have m : (58 : Nat) ∈ [119, 105, 115, 104, 32] := List.mem_of_getElem? y.symm
    exact absurd m (by decide)
  have e0 : tl p0 = [119, 105, 115, 104, 32] ++ (tl p0).drop 5 := by
    have z := (List.take_append_drop 5 (tl p0)).symm
    rw [etr, List.take_append_of_le_length l5] at c5
    rw [c5] at z
    exact z
  -- the places
  have ew1 : wd.1 = (plW row).map fun l => l.getD 0 0 := by rw [← e]
  have ew2 : wd.2 = (Txt.split p1 (Str.ofString " ")).map figL := by
    rw [← e, ep]
    rfl
  have epl : plW row = (Txt.split (cutS p0 (some 5) none) (Str.ofString " ")).map figL := by
    unfold plW
    rw [ep]
    rfl
  have wp : (Txt.split (cutS p0 (some 5) none) (Str.ofString " ")) = wd.1.map numT := by
    rw [ew1, epl, List.map_map, List.map_map]
    conv => lhs; rw [← List.map_id (Txt.split (cutS p0 (some 5) none) (Str.ofString " "))]
    refine List.map_congr_left fun x hx => ?_
    have l1 := h2 (figL x) (by rw [epl]; exact List.mem_map_of_mem hx)
    cases hf : figL x with
    | nil => rw [hf] at l1; cases l1
    | cons y q =>
      cases q with
      | cons _ _ => rw [hf] at l1; simp at l1
      | nil =>
        show x = numT ((figL x).getD 0 0)
        rw [hf]
        exact (fig_one hf).2.2
  have ec : cutS p0 (some 5) none = placesT wd.1 := by
    unfold placesT
    rw [← wp]
    exact (join_sp2 _ _).symm
  have e05 : (tl p0).drop 5 = tl (placesT wd.1) := by
    rw [← ec]
    exact (cutf_tl p0 5).symm
  -- the rows
  have wr : Txt.split p1 (Str.ofString " ") = wd.2.map rowT := by
    rw [ew2, List.map_map]
    conv => lhs; rw [← List.map_id (Txt.split p1 (Str.ofString " "))]
    refine List.map_congr_left fun x hx => ?_
    have hm : figL x ∈ wd.2 := by
      rw [ew2]
      exact List.mem_map_of_mem hx
    have hl := (g.row _ hm).1
    have h1' := g.one
    exact (fig_row (w := x) rfl fun z => by rw [z] at hl; simp at hl; omega).2
  have e1 : p1 = rowsT wd.2 := by
    unfold rowsT
    rw [← wr]
    exact (join_sp2 _ _).symm
  refine ext_tl ?_
  unfold wishT
  rw [tl_append, tl_append, tl_append, tl_append, tl_empty, List.nil_append, wish_tl5, show tl (Str.ofString ": ") = [58, 32] by decide +kernel, etr, e0, e05, e1]
  simp
/-- the row of a wish is read as that wish -/
theorem wishR_of {many hues : Int} {wd : WD} (m6 : many ≤ 6) (h4 : hues ≤ 4) (g : Good many hues wd) : wishR (wishT wd) = some wd := by
  have hp : ∀ x ∈ wd.1, 0 ≤ x ∧ x ≤ 9 := fun x hx => by have := g.pl x hx; omega
  have hr : ∀ r ∈ wd.2, ∀ x ∈ r, 0 ≤ x ∧ x ≤ 9 := fun r h x hx => by have := (g.row r h).2 x hx; omega
  have n1 : wd.1 ≠ [] := fun z => by have := g.one; rw [z] at this; exact absurd this (by decide)
  have n2 : wd.2 ≠ [] := fun z => by have := g.some_; rw [z] at this; exact absurd this (by decide)
  have eT : wishT wd = Txt.join (Str.ofString ": ") [(Str.empty ++ Str.ofString "wish ") ++ placesT wd.1, rowsT wd.2] := by
    refine ext_tl ?_
    unfold wishT
    rw [tl_append, tl_append, tl_joinT]
    simp [joinL]
  have no58 : 58 ∉ tl ((Str.empty ++ Str.ofString "wish ") ++ placesT wd.1) := by
    unfold placesT
    rw [tl_append, tl_append, tl_empty, List.nil_append, tl_joinT, tl_sp]
    intro z
    rcases List.mem_append.mp z with z | z
    · exact absurd z (by decide +kernel)
    · rcases join_mem z with z | ⟨p, hp1, z⟩
      · exact absurd z (by decide)
      · rw [List.map_map] at hp1
        obtain ⟨x, hx, rfl⟩ := List.mem_map.mp hp1
        exact num_no (hp x hx).1 (hp x hx).2 (by omega) z
  have no58' : 58 ∉ tl (rowsT wd.2) := by
    unfold rowsT
    rw [tl_joinT, tl_sp]
    intro z
    rcases join_mem z with z | ⟨p, hp1, z⟩
    · exact absurd z (by decide)
    · rw [List.map_map] at hp1
      obtain ⟨r, h, rfl⟩ := List.mem_map.mp hp1
      exact row_no (hr r h) (by omega) z
  have ep : partsW (wishT wd) = [(Str.empty ++ Str.ofString "wish ") ++ placesT wd.1, rowsT wd.2] := by
    unfold partsW
    rw [eT]
    refine split_join (s := 58) (S := [32]) (by decide +kernel) (by decide +kernel) (by simp) fun p hp' => ?_
    simp only [List.mem_cons, List.not_mem_nil, or_false] at hp'
    rcases hp' with rfl | rfl
    · exact no58
    · exact no58'
  have c5 : cutS (wishT wd) none (some 5) = Str.ofString "wish " := by
    refine ext_tl ?_
    rw [show tl (cutS (wishT wd) none (some 5)) = (tl (wishT wd)).take 5 from cut_tl (wishT wd) 5, wish_tl5]
    unfold wishT
    rw [tl_append, tl_append, tl_append, tl_append, tl_empty, List.nil_append, wish_tl5]
    rfl
  have cf : cutS ((Str.empty ++ Str.ofString "wish ") ++ placesT wd.1) (some 5) none = placesT wd.1 := by
    refine ext_tl ?_
    rw [show tl (cutS ((Str.empty ++ Str.ofString "wish ") ++ placesT wd.1) (some 5) none) = (tl ((Str.empty ++ Str.ofString "wish ") ++ placesT wd.1)).drop 5 from cutf_tl _ 5, tl_append, tl_append, tl_empty, List.nil_append, wish_tl5]
    rfl
  have epl : plW (wishT wd) = wd.1.map fun x => [x] := by
    unfold plW
    rw [ep]
    show (Txt.split (cutS ((Str.empty ++ Str.ofString "wish ") ++ placesT wd.1) (some 5) none) (Str.ofString " ")).map figL = _
    rw [cf]
    unfold placesT
    rw [sp_split (by simpa using n1) (fun p h => ?_), List.map_map]
    · exact List.map_congr_left fun x hx => fig_num' (hp x hx).1 (hp x hx).2
    · obtain ⟨x, hx, rfl⟩ := List.mem_map.mp h
      exact num_no (hp x hx).1 (hp x hx).2 (by omega)
  have er : (Txt.split (rowsT wd.2) (Str.ofString " ")).map figL = wd.2 := by
    unfold rowsT
    rw [sp_split (by simpa using n2) (fun p h => ?_), List.map_map]
    · conv => rhs; rw [← List.map_id wd.2]
      exact List.map_congr_left fun r h => fig_row' (hr r h)
    · obtain ⟨r, h1, rfl⟩ := List.mem_map.mp h
      exact row_no (hr r h1) (by omega)
  unfold wishR
  rw [if_neg (by rw [c5, ep]; simp), if_neg, epl, ep]
  · show some ((wd.1.map fun x => [x]).map (fun l => l.getD 0 0), (Txt.split (rowsT wd.2) (Str.ofString " ")).map figL) = some wd
    rw [er, List.map_map]
    congr 1
    refine Prod.ext ?_ rfl
    show wd.1.map _ = wd.1
    conv => rhs; rw [← List.map_id wd.1]
    rfl
  · rw [epl]
    intro z
    obtain ⟨l, hl, y⟩ := List.any_eq_true.mp z
    obtain ⟨x, _, rfl⟩ := List.mem_map.mp hl
    exact absurd rfl (of_decide_eq_true y)
end Rd

set_option Elab.async false
set_option linter.all false
set_option maxRecDepth 100000
set_option maxHeartbeats 4000000
/-! slices of lists with a step -/
namespace Rd
open PySem PySem.Spec PyProof.Rows L2 Dt
def pickV (xs : List V) (lo hi st : Option Int) : List V := (sliceRange (sliceBounds lo hi st xs.length).1 (sliceBounds lo hi st xs.length).2.1 (sliceBounds lo hi st xs.length).2.2).filterMap (xs[·]?)
theorem vals_pick {xs : List V} {us : List Value} (r : Vals xs us) : ∀ idx : List Nat, Vals (idx.filterMap (xs[·]?)) (idx.filterMap (us[·]?))
  | [] => .nil
  | i :: q => by
    have hl := r.length
    by_cases h : i < xs.length
    · have h2 : i < us.length := by omega
      rw [List.filterMap_cons, List.filterMap_cons, List.getElem?_eq_getElem h, List.getElem?_eq_getElem h2]
      obtain ⟨u, e, ru⟩ := r.get (List.getElem?_eq_getElem h)
      rw [List.getElem?_eq_getElem h2] at e
      cases e
      exact .cons ru (vals_pick r q)
    · rw [List.filterMap_cons, List.filterMap_cons, List.getElem?_eq_none (by omega), List.getElem?_eq_none (by omega)]
      exact vals_pick r q
/-- xs[lo:hi:st] of a list: a new list -/
def rSl3 (K : PySem.W.Frag) (st : Int) : V → Option Int → Option Int → Hp → VK → Prop := fun x lo hi H Q => ∃ a xs, x = .ref a ∧ SqL K H a xs ∧ (pickV xs lo hi (some st)).length ≤ sizeLine ∧ ∀ p, H p = none → Q (.ref p) (upd H p (.lst (pickV xs lo hi (some st))))
theorem pe_sl3 {X : Cx} {e : Expr} {te : TE} {lo hi : Option Expr} {tl th : TO} {k : Nat} {st : Int} {p1 p3 pos : Pos} (h0 : st ≠ 0) (he : PE X e te) (hl : PO X lo tl) (hu : PO X hi th) : PE X (.Subscript e (.Slice lo hi (some (.Constant (.int st) k p1)) p3) pos) (tSl (rSl3 X.K st) te tl th) := by
  refine ⟨fun pins s σ H Q I h => ?_⟩
  refine Subscript_ (thn (he.run pins s σ H _ I h) fun v s1 ⟨x, H1, I1, r1, q1⟩ => ?_)
  have hst : PO X (some (.Constant (.int st) k p1)) (tPart (tC (.int st))) := po_some pe_int
  refine wpAny_Slice (thn (hl.run pins s1 σ H1 _ I1 q1) fun vl s2 ⟨l, H2, I2, pl, q2⟩ => thn (hu.run pins s2 σ H2 _ I2 q2) fun vu s3 ⟨u, H3, I3, pu, q3⟩ => ?_)
  obtain ⟨a, xs, ex, hx, hz3, q⟩ := q3
  subst ex
  cases r1
  refine thn (hst.run pins s3 σ H3 (fun o H4 => o = some st ∧ H4 = H3) I3 ⟨st, rfl, rfl, rfl⟩) fun vs s4 ⟨o, H4, I4, ps, eo, e4⟩ => ?_
  subst eo e4
  have I5 : Inv X pins σ H4 { s4 with heap := s4.heap.push { cls := .type "slice", data := .fields #[vl, vu, vs] } } := I4.kept (t' := s4.toks) fun b ob q => Heap.get?_push_of_some _ q
  obtain ⟨its, r, ht, hz⟩ := I5.list hx
  have hlen := r.length
  show wpAny (model X.prog X.w) X.A (subscriptTail e (.Slice lo hi (some (.Constant (.int st) k p1)) p3) (.ref a) (.ref s4.heap.objs.size)) (EP X pins σ Q) X.xe { s4 with heap := s4.heap.push { cls := .type "slice", data := .fields #[vl, vu, vs] } }
  refine tail_any (ops := [.ref a, .ref s4.heap.objs.size]) ht.isList.typeIs (PySem.slot_list_getitem.lookup) ?_ (by with_unfolding_all rfl)
  have h0' : (some st : Option Int) ≠ some 0 := fun z => h0 (Option.some.inj z)
  refine wpAny_getItem_list_slice ht.isList (Heap.IsSliceOf.new _ vl vu vs) pl pu ps h0' ?_ (by rw [List.size_toArray]; omega)
  have ep : slicePick its.toArray l u (some st) = ((sliceRange (sliceBounds l u (some st) xs.length).1 (sliceBounds l u (some st) xs.length).2.1 (sliceBounds l u (some st) xs.length).2.2).filterMap (its[·]?)).toArray := by
    unfold slicePick
    rw [List.size_toArray, ← hlen]
    simp only [List.getElem?_toArray]
  rw [ep]
  refine ⟨.ref _, _, I5.laid (t' := s4.toks) (o := .lst (pickV xs l u (some st))) (fun b ob q => Heap.get?_push_of_some _ q) (Nat.le_refl _) ?_, rfl, q _ (I5.hok.fresh (Nat.le_refl _))⟩
  exact ⟨hz3, _, 0, vals_pick r _, Heap.get?_push_size _ rfl⟩
theorem pick_map {g : Nat → V} {m : Nat} : ∀ idx : List Nat, (∀ i ∈ idx, i < m) → idx.filterMap (((List.range m).map g)[·]?) = idx.map g
  | [], _ => rfl
  | i :: q, h => by
    have e : ((List.range m).map g)[i]? = some (g i) := by
      rw [List.getElem?_map, List.getElem?_range (h i List.mem_cons_self)]
      rfl
    rw [List.filterMap_cons, e, List.map_cons, pick_map q fun j hj => h j (List.mem_cons_of_mem _ hj)]
/-- every second one -/
theorem pick_even (g : Nat → V) (n : Nat) : pickV ((List.range (2 * n + 1)).map g) none none (some 2) = (List.range (n + 1)).map fun k => g (2 * k) := by
  have e : sliceRange 0 ((2 * n + 1 : Nat) : Int) 2 = (List.range (n + 1)).map fun k => 2 * k := by
    unfold sliceRange
    have c : (((2 * n + 1 : Nat) : Int) - 0 + 2 - 1) / 2 = ((n + 1 : Nat) : Int) := by omega
    simp only [show (2 : Int) > 0 by decide, if_true, show (0 : Int) < ((2 * n + 1 : Nat) : Int) by omega, c, Int.toNat_natCast]
    exact List.map_congr_left fun k _ => by omega
  unfold pickV
  rw [List.length_map, List.length_range]
  show (sliceRange 0 ((2 * n + 1 : Nat) : Int) 2).filterMap _ = _
  rw [e, pick_map _ fun i hi => by
    obtain ⟨k, hk, rfl⟩ := List.mem_map.mp hi
    have := List.mem_range.mp hk
    omega]
  rw [List.map_map]
  rfl
/-- every second one, from the second on -/
theorem pick_odd (g : Nat → V) (n : Nat) : pickV ((List.range (2 * n + 1)).map g) (some 1) none (some 2) = (List.range n).map fun k => g (2 * k + 1) := by
  have e : sliceRange 1 ((2 * n + 1 : Nat) : Int) 2 = (List.range n).map fun k => 2 * k + 1 := by
    unfold sliceRange
    by_cases z : n = 0
    · subst z
      rfl
    · have c : (((2 * n + 1 : Nat) : Int) - 1 + 2 - 1) / 2 = ((n : Nat) : Int) := by omega
      simp only [show (2 : Int) > 0 by decide, if_true, show (1 : Int) < ((2 * n + 1 : Nat) : Int) by omega, c, Int.toNat_natCast]
      exact List.map_congr_left fun k _ => by omega
  have b : (sliceBounds (some 1) none (some 2) (2 * n + 1)).1 = 1 := by
    show (if (2 : Int) > 0 then max 0 (min (if (1 : Int) < 0 then 1 + ((2 * n + 1 : Nat) : Int) else 1) ((2 * n + 1 : Nat) : Int)) else max (-1) (min (if (1 : Int) < 0 then 1 + ((2 * n + 1 : Nat) : Int) else 1) (((2 * n + 1 : Nat) : Int) - 1))) = 1
    rw [if_pos (by decide), if_neg (by decide)]
    omega
  unfold pickV
  rw [List.length_map, List.length_range, b]
  show (sliceRange 1 ((2 * n + 1 : Nat) : Int) 2).filterMap _ = _
  rw [e, pick_map _ fun i hi => by
    obtain ⟨k, hk, rfl⟩ := List.mem_map.mp hi
    have := List.mem_range.mp hk
    omega]
  rw [List.map_map]
  rfl
end Rd

set_option Elab.async false
set_option linter.all false
set_option maxRecDepth 100000
set_option maxHeartbeats 4000000
/-! lists made sign by sign -/
namespace Rd
open PySem PySem.Spec PyProof.Rows L2 Dt TL
theorem lc_str {z : Str} {g : TG} {tt : TT} {te : TE} {vs : List Nat} {σ : L2.St} {Ha : Hp} {D : Addr} {Qd : Hp → Prop} (Pv : Nat → Hp → Prop) (start : Pv 0 (upd Ha D (.lst [])))
    (turn : ∀ i c H, z.cps[i]? = some c → Pv i H → g (.str ⟨#[c]⟩) (wipe σ vs) H fun σ' H' => wipe σ' vs = wipe σ vs ∧ tt σ' H' fun b Hb =>
      if b = true then te σ' Hb fun y Hc => ∃ acc, Hc D = some (.lst acc) ∧ acc.length < sizeLine ∧ Pv (i + 1) (upd Hc D (.lst (acc ++ [y]))) else Pv (i + 1) Hb) (behind : ∀ H, Pv z.cps.size H → Qd H) :
    ∃ W : Nat → Nat → Hp → Prop, (∃ m, W 0 m (upd Ha D (.lst []))) ∧ ∀ i m H, W i m H →
      ((Its z).stop i H ∧ Qd H) ∨ ((Its z).go i H ∧ ∃ Nx : Hp → Prop, (∀ H', Nx H' → ∃ m', m' < m ∧ W (i + 1) m' H') ∧ ∀ x H', (Its z).yld i H x H' → g x (wipe σ vs) H' fun σ' H2 => wipe σ' vs = wipe σ vs ∧ tt σ' H2 fun b Hb =>
        if b = true then te σ' Hb fun y Hc => ∃ acc, Hc D = some (.lst acc) ∧ acc.length < sizeLine ∧ Nx (upd Hc D (.lst (acc ++ [y]))) else Nx Hb) := by
  refine ⟨fun j n Hn => (n = z.cps.size - j ∧ j ≤ z.cps.size) ∧ Pv j Hn, ⟨z.cps.size, ⟨by omega, Nat.zero_le _⟩, start⟩, fun j n Hn wj => ?_⟩
  obtain ⟨⟨en, jl⟩, pj⟩ := wj
  rcases Nat.lt_or_ge j z.cps.size with c | c
  · right
    refine ⟨c, Pv (j + 1), fun H' p' => ⟨z.cps.size - (j + 1), by omega, ⟨rfl, c⟩, p'⟩, fun v H' y => ?_⟩
    obtain ⟨eH, sg, esg, ev⟩ := y
    rw [eH, ev]
    exact turn j sg Hn esg pj
  · left
    have ej : j = z.cps.size := Nat.le_antisymm jl c
    rw [ej] at pj
    exact ⟨c, behind Hn pj⟩
theorem int_dig {c : Nat} (h : 48 ≤ c ∧ c ≤ 57) : PySem.intText? (⟨#[c]⟩ : Str) = some ((c : Int) - 48) := by
  have all : ∀ n : Nat, n < 10 → PySem.intText? (⟨#[48 + n]⟩ : Str) = some (n : Int) := by decide +kernel
  have z := all (c - 48) (by omega)
  rw [show 48 + (c - 48) = c by omega] at z
  rw [z]
  congr 1
  omega
theorem dig_mem (c : Nat) : decide (c ∈ figS.cps.toList) = isDig c := by
  have e : figS.cps.toList = [48, 49, 50, 51, 52, 53, 54, 55, 56, 57] := by decide +kernel
  rw [e]
  unfold isDig
  refine decide_eq_decide.mpr ?_
  simp only [List.mem_cons, List.not_mem_nil, or_false]
  omega
theorem pick4_even (a b c d : V) : pickV [a, b, c, d] none none (some 2) = [a, c] := by
  have e : sliceRange (sliceBounds none none (some 2) 4).1 (sliceBounds none none (some 2) 4).2.1 (sliceBounds none none (some 2) 4).2.2 = [0, 2] := by decide +kernel
  show (sliceRange (sliceBounds none none (some 2) 4).1 (sliceBounds none none (some 2) 4).2.1 (sliceBounds none none (some 2) 4).2.2).filterMap _ = _
  rw [e]
  rfl
theorem pick4_odd (a b c d : V) : pickV [a, b, c, d] (some 1) none (some 2) = [b, d] := by
  have e : sliceRange (sliceBounds (some 1) none (some 2) 4).1 (sliceBounds (some 1) none (some 2) 4).2.1 (sliceBounds (some 1) none (some 2) 4).2.2 = [1, 3] := by decide +kernel
  show (sliceRange (sliceBounds (some 1) none (some 2) 4).1 (sliceBounds (some 1) none (some 2) 4).2.1 (sliceBounds (some 1) none (some 2) 4).2.2).filterMap _ = _
  rw [e]
  rfl
end Rd

set_option Elab.async false
set_option linter.all false
set_option maxRecDepth 100000
set_option maxHeartbeats 4000000
/-! texts of small signs -/
namespace Rd
open PySem PySem.Spec PyProof.Rows L2 Dt TL
def okS (t : Str) : Prop := ∀ c ∈ tl t, c < 128
def okTs (ws : List Str) : Prop := ∀ x ∈ ws, okS x
theorem okS_app {a b : Str} (ha : okS a) (hb : okS b) : okS (a ++ b) := fun c h => by
  rw [tl_append] at h
  exact (List.mem_append.mp h).elim (ha c) (hb c)
theorem okS_cut {t : Str} {lo hi : Option Int} (h : okS t) : okS (cutS t lo hi) := fun c hc => by
  unfold cutS at hc
  exact h c (List.mem_of_mem_drop (List.mem_of_mem_take hc))
theorem mem_joinL {S : List Nat} {c : Nat} : ∀ {ps : List (List Nat)} {p : List Nat}, p ∈ ps → c ∈ p → c ∈ joinL S ps
  | [], _, h, _ => nomatch h
  | [a], p, h, hc => by
    rw [List.mem_singleton.mp h] at hc
    exact hc
  | a :: b :: r, p, h, hc => by
    show c ∈ a ++ (S ++ joinL S (b :: r))
    rcases List.mem_cons.mp h with rfl | h
    · exact List.mem_append_left _ hc
    · exact List.mem_append_right _ (List.mem_append_right _ (mem_joinL h hc))
theorem okTs_split {t sep : Str} (h : okS t) : okTs (Txt.split t sep) := fun x hx c hc => by
  refine h c ?_
  rw [← join_sp2 t sep, tl_joinT]
  exact mem_joinL (List.mem_map_of_mem hx) hc
theorem okS_join {sep : Str} {ws : List Str} (hs : okS sep) (h : okTs ws) : okS (Txt.join sep ws) := fun c hc => by
  rw [tl_joinT] at hc
  rcases join_mem hc with z | ⟨p, hp, z⟩
  · exact hs c z
  · obtain ⟨x, hx, rfl⟩ := List.mem_map.mp hp
    exact h x hx c z
theorem okTs_take {ws : List Str} (n : Nat) (h : okTs ws) : okTs (ws.take n) := fun x hx => h x (List.mem_of_mem_take hx)
theorem okTs_drop {ws : List Str} (n : Nat) (h : okTs ws) : okTs (ws.drop n) := fun x hx => h x (List.mem_of_mem_drop hx)
theorem okTs_app {a b : List Str} (ha : okTs a) (hb : okTs b) : okTs (a ++ b) := fun x hx => (List.mem_append.mp hx).elim (ha x) (hb x)
theorem okTs_one {x : Str} (h : okS x) : okTs [x] := fun y hy => by rw [List.mem_singleton.mp hy]; exact h
theorem okTs_set {ws : List Str} {x : Str} (n : Nat) (h : okTs ws) (hx : okS x) : okTs (ws.set n x) := fun y hy => by
  rcases List.mem_or_eq_of_mem_set hy with z | rfl
  · exact h y z
  · exact hx
theorem okS_sign {z : Str} {i : Int} {c : Nat} (h : okS z) (e : atI z.cps.toList i = some c) : okS (⟨#[c]⟩ : Str) := fun d hd => by
  have : d = c := by simpa using hd
  rw [this]
  refine h c ?_
  unfold atI at e
  obtain ⟨j, _, e⟩ := Option.bind_eq_some_iff.mp e
  exact List.mem_of_getElem? e
theorem okS_num {i : Int} (h0 : 0 ≤ i) (h1 : i ≤ 9) : okS (numT i) := fun c hc => by
  rw [num_tl h0 h1, List.mem_singleton] at hc
  omega
theorem okS_wish {many hues : Int} {wd : WD} (m6 : many ≤ 6) (h4 : hues ≤ 4) (g : Good many hues wd) : okS (wishT wd) := by
  have sp : okS (Str.ofString " ") := by unfold okS; decide +kernel
  unfold wishT placesT rowsT
  refine okS_app (okS_app (okS_app (okS_app (fun c h => by rw [tl_empty] at h; cases h) (by unfold okS; decide +kernel)) (okS_join sp fun x hx => ?_)) (by unfold okS; decide +kernel)) (okS_join sp fun x hx => ?_)
  · obtain ⟨p, hp, rfl⟩ := List.mem_map.mp hx
    have := g.pl p hp
    exact okS_num (by omega) (by omega)
  · obtain ⟨r, hr, rfl⟩ := List.mem_map.mp hx
    unfold rowT
    refine okS_join (fun c h => by rw [tl_nil] at h; cases h) fun y hy => ?_
    obtain ⟨p, hp, rfl⟩ := List.mem_map.mp hy
    have := (g.row r hr).2 p hp
    exact okS_num (by omega) (by omega)
theorem okS_rid {many hues : Int} {wds : List WD} (g : GoodR many hues wds) : okS (ridT many hues wds) := by
  have m1 := g.m1
  have m6 := g.m6
  have h2 := g.h2
  have h4 := g.h4
  unfold ridT
  refine okS_join (by unfold okS; decide +kernel) (okTs_app (okTs_one ?_) fun x hx => ?_)
  · unfold headT
    exact okS_app (okS_app (okS_app (okS_app (fun c h => by rw [tl_empty] at h; cases h) (by unfold okS; decide +kernel)) (okS_num (by omega) (by omega))) (by unfold okS; decide +kernel)) (okS_num (by omega) (by omega))
  · obtain ⟨wd, hw, rfl⟩ := List.mem_map.mp hx
    exact okS_wish m6 h4 (g.each wd hw)
theorem okS_ok {t : Str} (h : okS t) : PyData.strOk t = true := by
  unfold PyData.strOk
  rw [Array.all_eq_true']
  intro c hc
  have := h c (Array.mem_toList_iff.mpr hc)
  exact decide_eq_true (by omega)
end Rd

set_option Elab.async false
set_option linter.all false
set_option maxRecDepth 100000
set_option maxHeartbeats 4000000
/-! xs != [] of any list -/
namespace Rd
open PySem PySem.Spec PyProof.Rows L2 Dt
def rNeE (K : PySem.W.Frag) : R2 := fun x y H Q => ∃ (a b : Addr) (xs : List V), x = .ref a ∧ y = .ref b ∧ SqL K H a xs ∧ SqL K H b [] ∧ Q (.bl (!xs.isEmpty)) H
theorem op_neE {X : Cx} (hu : X.A.units + 64 < cLine) : OpR X (compareOp .NotEq) (rNeE X.K) := by
  intro pins s σ H x y v u Q I rx ry h
  obtain ⟨a, b, xs, rfl, rfl, ha, hb, q⟩ := h
  cases rx
  cases ry
  obtain ⟨its, rv, hl, _⟩ := I.list ha
  obtain ⟨its2, rv2, hl2, _⟩ := I.list hb
  have l1 := rv.length
  have l2 := rv2.length
  cases xs with
  | nil =>
    have z1 : its = [] := List.length_eq_zero_iff.mp l1.symm
    have z2 : its2 = [] := List.length_eq_zero_iff.mp l2.symm
    subst z1 z2
    refine PySem.SeqAt.RcNeAt.lists (e := fun _ => true) hl.isList hl2.isList rfl (by omega) (fun j j1 => absurd j1 (Nat.not_lt_zero j)) _ _ _ _ ⟨.bl _, H, I, rfl, q⟩
  | cons z r =>
    refine PySem.SeqAt.RcNeAt.lists_lengths hl.isList hl2.isList ?_ (by omega) _ _ _ _ ⟨.bl _, H, I, rfl, q⟩
    rw [List.size_toArray, List.size_toArray, ← l1, ← l2]
    rfl
end Rd

set_option Elab.async false
set_option linter.all false
set_option maxRecDepth 100000
set_option maxHeartbeats 4000000
/-! xs == [] of any list -/
namespace Rd
open PySem PySem.Spec PyProof.Rows L2 Dt
def rEqE (K : PySem.W.Frag) : R2 := fun x y H Q => ∃ (a b : Addr) (xs : List V), x = .ref a ∧ y = .ref b ∧ SqL K H a xs ∧ SqL K H b [] ∧ Q (.bl xs.isEmpty) H
theorem op_eqE {X : Cx} (hu : X.A.units + 64 < cLine) : OpR X (compareOp .Eq) (rEqE X.K) := by
  intro pins s σ H x y v u Q I rx ry h
  obtain ⟨a, b, xs, rfl, rfl, ha, hb, q⟩ := h
  cases rx
  cases ry
  obtain ⟨its, rv, hl, _⟩ := I.list ha
  obtain ⟨its2, rv2, hl2, _⟩ := I.list hb
  have l1 := rv.length
  have l2 := rv2.length
  cases xs with
  | nil =>
    have z1 : its = [] := List.length_eq_zero_iff.mp l1.symm
    have z2 : its2 = [] := List.length_eq_zero_iff.mp l2.symm
    subst z1 z2
    refine PySem.SeqAt.RcAt.lists (e := fun _ => true) hl.isList hl2.isList rfl (by omega) (fun j j1 => absurd j1 (Nat.not_lt_zero j)) _ _ _ _ ⟨.bl _, H, I, rfl, q⟩
  | cons z r =>
    refine PySem.SeqAt.RcAt.lists_lengths hl.isList hl2.isList ?_ (by omega) _ _ _ _ ⟨.bl _, H, I, rfl, q⟩
    rw [List.size_toArray, List.size_toArray, ← l1, ← l2]
    rfl
end Rd

set_option Elab.async false
set_option linter.all false
set_option maxRecDepth 100000
set_option maxHeartbeats 4000000
/-! defs that repr is called in: run where no repr is under way; isinstance of one that was caught, with a tuple of classes -/
namespace Rd
open PySem PySem.Spec PyProof.Rows L2 Dt
structure FnG (P : Program) (w : World) (K : PySem.W.Frag) (mg : Str → Option Value) (base : Heap) (k : Nat) (f : Addr) (fd : FuncData) (ps : List Str) (sp : Sp) : Prop where
  len : ∀ vs H Q E, sp vs H Q E → vs.length = ps.length
  run : ∀ (A : Around) (outer : List Env) (s : Shared) (H : Hp) (args : Args) (us : List Value) (vs : List V) (Q : VK), A.guards = some [] → Room k A → Env0 P w K mg base A outer s H → BindsTo s fd args (ps.zip us) → Vals vs us → sp vs H Q E0 →
    codeAny (model P w) A (.call (.ref f) args) (CR CX0 outer P w H s Q E0) s
theorem Fun.okG {P : Program} {w : World} {K : PySem.W.Frag} {mg : Str → Option Value} {base : Heap} {x qual : Str} {st : Stmt} {f : Addr} {fd : FuncData} {N ps : List Str} {k : Nat} {sp : Sp} (F : Fun K x qual st f fd) (S : FnScope N ps (defScope st)) (len : ∀ vs H Q E, sp vs H Q E → vs.length = ps.length)
    (body : ∀ (cdv : Value) (A : Around) (outer : List Env) (s : Shared) (H : Hp) (vs : List V) (Q : VK), A.guards = some [] → Room k (A.deeper (envOfC qual (defScope st) s.heap.objs.size f cdv)) → sp vs H Q E0 →
      ∃ t, PSs (cxOf CX0 P w K mg base N qual (defScope st) f cdv A outer s H E0).nox (defBody st) t ∧ t { nx := fun _ H' => Q .non H', rt := Q } (start N vs) H) : FnG P w K mg base (k + 1) f fd ps sp :=
  ⟨len, fun A outer s H args us vs Q hg hr e0 hb r hsp => Lg.run_at F S hr e0 hb r (len _ _ _ _ hsp) fun cdv hr' => body cdv A outer s H vs Q hg hr' hsp⟩
def CalG (P : Program) (w : World) (K : PySem.W.Frag) (mg : Str → Option Value) (base : Heap) (k : Nat) (x : Str) (ps : List Str) (sp : Sp) : Prop :=
  ∃ (f : Addr) (fd : FuncData), FnG P w K mg base k f fd ps sp ∧ mg x = some (.ref f) ∧ PySem.W.keepIn K (.ref f) = true ∧ Binds K fd ps []
theorem pe_calG {X : Cx} {k : Nat} {x : Str} {ps : List Str} {sp : Sp} {p pos : Pos} {e : Expr} {es : List Expr} {t : TA} (C : CalG X.prog X.w X.K X.mg X.base k x ps sp) (gd : X.A.guards = some []) (hr : Room k X.A) (hg : Gl X x)
    (ha : PA X (e :: es) t) (hdb : (x == ("__debug__" : Str)) = false := by decide) (he : starEach (e :: es) X.env = (false, eval e X.env) :: starEach es X.env := by rfl) (hpl : (backTo pos (starEach es X.env)).any (·.1) = false := by rfl) :
    PE X (.Call (.Name x p) (e :: es) [] pos) (tCallS sp (fun _ => E0) t) := by
  obtain ⟨f, fd, F, hm, hk, hb⟩ := C
  constructor
  intro pins s σ H Q I h
  apply wpAny_Call_Name_kw
  apply ld_glob I hg hm _ hdb
  apply PySem.W.callWith_K (h₀ := X.base) I.ok.mod.kin hk _ he hpl
  refine thn (ha.run pos pins s σ H _ I h) ?_
  rintro us s1 ⟨vs, H1, I1, rv, qv⟩
  have lv := F.len _ _ _ _ qv
  have bd := hb s1 us I1.kIn (by rw [List.append_nil, ← rv.length]; exact lv)
  rw [List.append_nil] at bd
  have run := F.run X.A X.stack s1 H1 ⟨us, []⟩ us vs Q gd hr I1.env0 bd rv qv
  exact ⟨I1.kIn, wpAny_call (codeAny_mono run fun res s2 out => match res, out with
    | .ok (.ret u), out => I1.after out
    | .ok .next, out => out.elim
    | .ok .brk, out => out.elim
    | .ok .cont, out => out.elim
    | .error _, out => False.elim out)⟩
/-- isinstance of one that was caught, with a tuple of classes -/
def rIsDT (K : PySem.W.Frag) : List V → Hp → VK → Prop := fun xs H Q => ∃ (a D tp : Addr) (cs : List Addr) (b : Bool), xs = [.ref a, .ref tp] ∧ H a = some (ExD (.ref D) none a) ∧ ExcC K D ∧ SqT K H tp (cs.map V.ref) ∧ PySem.W.kitAny K (.ref D) (cs.map Value.ref) = some b ∧ Q (.bl b) H
theorem vals_refs : ∀ {cs : List Addr} {us : List Value}, Vals (cs.map V.ref) us → us = cs.map Value.ref
  | [], _, h => by cases h; rfl
  | c :: q, _, h => by
    cases h with
    | cons h1 h2 =>
      rw [vals_refs h2]
      cases (show _ = Value.ref c from h1)
      rfl
theorem call_isDT {X : Cx} : CallR X (.builtin "isinstance") (rIsDT X.K) := by
  intro pins s σ H xs us Q I r h
  obtain ⟨a, D, tp, cs, b, rfl, ha, C, ht, e, q⟩ := h
  obtain ⟨u1, u2, rfl, r1, r2⟩ := vals2 r
  cases (show u1 = Value.ref a from r1)
  cases (show u2 = Value.ref tp from r2)
  obtain ⟨its, o, n, vi, ho, hc, hd⟩ := sqT_at I.hok I.kIn ht
  obtain ⟨tc, td, tda, tsl⟩ := o
  dsimp only at hc hd
  subst hc hd
  rw [← vals_refs vi] at e
  obtain ⟨⟨oe, vs, hget, hz, hx⟩, _, _⟩ := I.hok a _ ha
  have J : PySem.W.InstAt s.heap a oe D none := by
    obtain ⟨oc, od, oda, osl⟩ := oe
    obtain ⟨h1, h2⟩ := hz
    dsimp only at h1 h2 hx
    subst h1 h2 hx
    exact ⟨hget, rfl, rfl, trivial⟩
  exact PySem.W.kia_tup (PySem.W.handS_kitx_exc C.hg C.hk C.hs C.hd C.ha C.hn C.ht C.hm) I.kIn J ho e (fun z => nomatch z) fun tk => ⟨.bl b, H, I.tok tk, rfl, q⟩
/-- none of them -/
theorem kit_none {K : PySem.W.Frag} {t : Value} : ∀ {cs : List Value}, (∀ c ∈ cs, PySem.W.kitOne K t c = some false) → PySem.W.kitAny K t cs = some false
  | [], _ => rfl
  | c :: q, h => by
    rw [PySem.W.kitAny.eq_2, h c List.mem_cons_self]
    exact kit_none fun d hd => h d (List.mem_cons_of_mem _ hd)
/-! repr of what is no container -/
def rRepS : List V → Hp → VK → Prop := fun xs H Q => (xs = [.non] ∧ Q (.str "None") H) ∨ (∃ i, xs = [.int i] ∧ i.natAbs.log2 < 1920 ∧ Q (.str (Str.ofString (toString i))) H) ∨ (∃ b, xs = [.bl b] ∧ Q (.str (if b = true then "True" else "False")) H) ∨
  ∃ z : Str, xs = [.str z] ∧ (reprText z).length ≤ sizeLine ∧ Q (.str (reprText z)) H
theorem call_reprS {X : Cx} : CallR X (.builtin "repr") rRepS := by
  intro pins s σ H xs us Q I r h
  rcases h with ⟨rfl, q⟩ | ⟨i, rfl, hi, q⟩ | ⟨b, rfl, q⟩ | ⟨z, rfl, hz, q⟩
  · obtain ⟨u, rfl, ru⟩ := vals1 r
    cases (show u = Value.none from ru)
    exact PySem.P.repr_of_none ⟨.str "None", H, I.tok _, ⟨_, rfl⟩, q⟩
  · obtain ⟨u, rfl, ru⟩ := vals1 r
    obtain ⟨tk, rfl⟩ := (show ∃ tk, u = Value.int i tk from ru)
    exact PySem.P.repr_of_int hi ⟨.str (Str.ofString (toString i)), H, I.tok _, ⟨_, rfl⟩, q⟩
  · obtain ⟨u, rfl, ru⟩ := vals1 r
    cases (show u = Value.bool b from ru)
    refine PySem.P.repr_of_bool ⟨.str (if b = true then "True" else "False"), H, I.tok _, ⟨_, rfl⟩, ?_⟩
    exact q
  · obtain ⟨u, rfl, ru⟩ := vals1 r
    obtain ⟨tk, rfl⟩ := (show ∃ tk, u = Value.str z tk from ru)
    exact PySem.P.repr_of_str ⟨.str (reprText z), H, I.tok _, ⟨_, rfl⟩, q⟩ hz
/-! repr of {text: number} -/
def rRepD (K : PySem.W.Frag) : List V → Hp → VK → Prop := fun xs H Q => ∃ (a : Addr) (z : Str) (i : Int), xs = [.ref a] ∧ H a = some (.dK [(.inr z, .int i)]) ∧ (PyData.dict [(.str z, .int i)]).showable = true ∧ (PyData.dict [(.str z, .int i)]).shown.length ≤ sizeLine ∧ Q (.str (PyData.dict [(.str z, .int i)]).shown) H
theorem call_reprD {X : Cx} (hg : X.A.guards = some []) (hu : X.A.units + 64 < cLine) : CallR X (.builtin "repr") (rRepD X.K) := by
  intro pins s σ H xs us Q I r h
  obtain ⟨a, z, i, rfl, ha, h1, h4, q⟩ := h
  obtain ⟨u, rfl, ru⟩ := vals1 r
  cases (show u = Value.ref a from ru)
  obtain ⟨_, nm, vs, kv, o, es, ep, ho, hx, hd, hk, hp, _⟩ := I.hok a _ ha
  have rd : Reads s.heap (.ref a) (.dict [(.str z, .int i)]) (a :: [] ++ []) := by
    cases kv with
    | cons k1 k2 =>
      cases k2
      obtain ⟨e1, e2⟩ := k1
      obtain ⟨tk, e2⟩ := (show ∃ tk, _ = Value.int i tk from e2)
      generalize hel : es.toList = el at hp
      cases hp with
      | cons p1 p2 p3 =>
        rename_i de es'
        cases p3
        rw [← e1] at p1
        rw [e2] at p2
        obtain ⟨tk2, ek⟩ : ∃ tk2, de.key = Value.str z tk2 := by
          have p1 : Value.isStrOf z de.key = true := p1
          cases hk0 : de.key with
          | str y t2 =>
            rw [hk0] at p1
            refine ⟨t2, ?_⟩
            have : y = z := by simpa [Value.isStrOf] using p1
            rw [this]
          | _ => rw [hk0] at p1; simp [Value.isStrOf] at p1
        refine .dict ho hx.1 hd ?_ ?_
        · rw [hel]
          show ReadsAll _ [de.key] [PyData.str z] []
          rw [ek]
          exact .cons (.str z tk2) .nil
        · rw [hel]
          show ReadsAll _ [de.val] [PyData.int i] []
          rw [p2]
          exact .cons (.int i tk) .nil
  refine repr_of_reads' rd h1 (fun _ m => ?_) hg (by simp [PyData.depth, PyData.depthKv]; omega) (fun _ _ e => e) (fun h' u tk hk => ?_) h4
  · have : sysModules = a := by simpa using m
    rw [this] at nm
    simp at nm
  · exact ⟨.str _, H, I.kept (t' := _) hk, ⟨_, rfl⟩, q⟩
/-! repr of any of these -/
def RepV (K : PySem.W.Frag) (H : Hp) (v : V) (r : Str) : Prop := (∀ (X : List V → Hp → VK → Prop), X = rRepS → ∀ Q : VK, Q (.str r) H → X [v] H Q) ∨
  (∃ (a : Addr) (d : PyData), v = .ref a ∧ Dp K H (.ref a) d ∧ d.showable = true ∧ d.hasDict = false ∧ d.depth < 63 ∧ d.shown.length ≤ sizeLine ∧ r = d.shown) ∨
  ∃ (a : Addr) (z : Str) (i : Int), v = .ref a ∧ H a = some (.dK [(.inr z, .int i)]) ∧ (PyData.dict [(.str z, .int i)]).showable = true ∧ (PyData.dict [(.str z, .int i)]).shown.length ≤ sizeLine ∧ r = (PyData.dict [(.str z, .int i)]).shown
def rRepV (K : PySem.W.Frag) : List V → Hp → VK → Prop := fun xs H Q => ∃ (v : V) (r : Str), xs = [v] ∧ RepV K H v r ∧ Q (.str r) H
theorem call_reprV {X : Cx} (hg : X.A.guards = some []) (hu : X.A.units + 64 < cLine) : CallR X (.builtin "repr") (rRepV X.K) := by
  intro pins s σ H xs us Q I r h
  obtain ⟨v, z, rfl, rv, q⟩ := h
  rcases rv with rv | ⟨a, d, rfl, h1, h2, h3, h4, h5, rfl⟩ | ⟨a, y, i, rfl, h1, h2, h3, rfl⟩
  · exact call_reprS pins s σ H _ us Q I r (rv _ rfl Q q)
  · exact Lg.call_repr hg hu pins s σ H _ us Q I r ⟨a, d, rfl, h1, h2, h3, h4, h5, q⟩
  · exact call_reprD hg hu pins s σ H _ us Q I r ⟨a, y, i, rfl, h1, h2, h3, q⟩
end Rd

set_option Elab.async false
set_option linter.all false
set_option maxRecDepth 100000
set_option maxHeartbeats 4000000
/-! the tables of two defs are two -/
namespace Rd
open PySem PySem.Spec PyProof.Rows L2
def refOf : Option Value → Option Addr
  | some (.ref P) => some P
  | _ => none
def tabOfObj (o : Obj) : Option Addr := match o.data with
  | .fields vs => refOf (vs[11]? : Option Value)
  | _ => none
def codeOfObj (o : Obj) : Option Addr := match o.data with
  | .func fd => match fd.code with
    | .ref c => some c
    | _ => none
  | _ => none
def tabIn (K : PySem.W.Frag) (f : Addr) : Option Addr := (K.lookup f).bind fun o => (codeOfObj o).bind fun c => (K.lookup c).bind tabOfObj
theorem tab_eq {K : PySem.W.Frag} {mg : Str → Option Value} {h : Heap} {x : Str} {p : Addr × Addr} {f P : Addr} (T : Lg.TabOf mg h x p) (X : K.In h) (hf : mg x = some (.ref f)) (e : tabIn K f = some P) : p.2 = P := by
  obtain ⟨a, o, fd, h1, h2, h3, h4, h5, _⟩ := T
  rw [hf] at h1
  cases h1
  unfold tabIn at e
  obtain ⟨o', e1, e⟩ := Option.bind_eq_some_iff.mp e
  obtain ⟨c, e2, e⟩ := Option.bind_eq_some_iff.mp e
  obtain ⟨oc, e3, e4⟩ := Option.bind_eq_some_iff.mp e
  have x1 := X _ _ e1
  rw [h2] at x1
  cases x1
  have ec : c = p.1 := by
    unfold codeOfObj at e2
    rw [h3] at e2
    dsimp only at e2
    rw [h4] at e2
    exact (Option.some.inj e2).symm
  subst ec
  have x2 := X _ _ e3
  obtain ⟨o2, vs, _, _, _, _, _, _, _, g1, _, g3, g4, _⟩ := h5
  rw [g1] at x2
  cases x2
  unfold tabOfObj at e4
  rw [g3] at e4
  dsimp only at e4
  rw [g4] at e4
  exact Option.some.inj e4
def tabsApart (K : PySem.W.Frag) (ps qs : List Addr) : Bool := (ps ++ qs).all (fun f => (tabIn K f).isSome) && qs.all fun q => ps.all fun p => !(tabIn K q == tabIn K p)
theorem apart_of {K : PySem.W.Frag} {mg : Str → Option Value} {h : Heap} {tb : Str → Addr × Addr} (X : K.In h) (ps qs : List (Str × Addr)) (hp : ∀ x ∈ ps ++ qs, Lg.TabOf mg h x.1 (tb x.1) ∧ mg x.1 = some (.ref x.2)) (hD : tabsApart K (ps.map (·.2)) (qs.map (·.2)) = true) :
    ∀ P ∈ qs.map (fun x => (tb x.1).2), P ∉ ps.map (fun x => (tb x.1).2) := fun P hq hp' => by
  unfold tabsApart at hD
  simp only [Bool.and_eq_true, List.all_eq_true] at hD
  obtain ⟨y, hy, e1⟩ := List.mem_map.mp hq
  obtain ⟨z, hz, e2⟩ := List.mem_map.mp hp'
  have ty := hp y (List.mem_append_right _ hy)
  have tz := hp z (List.mem_append_left _ hz)
  have sy := hD.1 y.2 (List.mem_append_right _ (List.mem_map_of_mem hy))
  have sz := hD.1 z.2 (List.mem_append_left _ (List.mem_map_of_mem hz))
  obtain ⟨Y, eY⟩ := Option.isSome_iff_exists.mp sy
  obtain ⟨Z, eZ⟩ := Option.isSome_iff_exists.mp sz
  have a := tab_eq ty.1 X ty.2 eY
  have b := tab_eq tz.1 X tz.2 eZ
  have c := hD.2 y.2 (List.mem_map_of_mem hy) z.2 (List.mem_map_of_mem hz)
  rw [eY, eZ, ← a, ← b, e1, e2] at c
  simp at c
end Rd

set_option Elab.async false
set_option linter.all false
set_option maxRecDepth 100000
set_option maxHeartbeats 4000000
/-! the refusals' classes, from one reckoning of the frozen part -/
namespace Rd
open PySem PySem.Spec PyProof.Rows L2 Dt
def okCX (K : PySem.W.Frag) (D T : Addr) : Bool :=
  PySem.W.excIn K D [.type "ValueError", .type "Exception", .type "BaseException", .type "object"] "ValueError.__new__" && PySem.W.keepIn K (.ref D) &&
  (PySem.W.findIn K (.ref D) "__getattribute__" == some (some (.builtin "BaseException.__getattribute__"))) && (PySem.W.findIn K (.ref D) "__getattr__" == some none) &&
  (PySem.W.subIn K (.ref D) (.type "BaseException") == some true) && PySem.W.hasDictIn K D && (PySem.W.findIn K (.ref D) "__class__" == some (some (.builtin "object.__class__"))) &&
  (PySem.W.mroIn K D (.type "object") == some true) && (PySem.W.typeIn K (.ref D) == some (.type "type")) && (PySem.W.exmOne K (.ref D) (.ref T) == some true)
def allOkX (K : PySem.W.Frag) (cs : List Addr) : Bool :=
  (List.range 12).all (fun i => okCX K (cs.getD i 0) (cs.getD 11 0)) && (PySem.W.specialIn K (.builtin "object.__class__") "__get__" == some (some (.builtin "getset_descriptor.__get__"))) && (PySem.W.takesIn K (.builtin "object.__class__") == some true) &&
  (List.range 12).all (fun i => (List.range 11).all fun j => PySem.W.kitOne K (.ref (cs.getD i 0)) (.ref (cs.getD j 0)) == some (decide (i = j))) &&
  (List.range 12).all (fun i => PySem.W.kitOne K (.ref (cs.getD i 0)) (.type "ValueError") == some true)
theorem clsX_of {K : PySem.W.Frag} {h : Heap} {mg : Str → Option Value} {q0 q1 q2 q3 q4 q5 q6 q7 q8 q9 q10 q11 : Addr} (X : K.In h) (G : h.Ns mainGlobals mg)
    (cl0 : PySem.W.nsIn K mainGlobals "NoEnd" = some (some (.ref q0)))
    (cl1 : PySem.W.nsIn K mainGlobals "NoLog" = some (some (.ref q1)))
    (cl2 : PySem.W.nsIn K mainGlobals "NoName" = some (some (.ref q2)))
    (cl3 : PySem.W.nsIn K mainGlobals "NoRow" = some (some (.ref q3)))
    (cl4 : PySem.W.nsIn K mainGlobals "NoStep" = some (some (.ref q4)))
    (cl5 : PySem.W.nsIn K mainGlobals "NoTable" = some (some (.ref q5)))
    (cl6 : PySem.W.nsIn K mainGlobals "NoText" = some (some (.ref q6)))
    (cl7 : PySem.W.nsIn K mainGlobals "NoWish" = some (some (.ref q7)))
    (cl8 : PySem.W.nsIn K mainGlobals "Spent" = some (some (.ref q8)))
    (cl9 : PySem.W.nsIn K mainGlobals "Told" = some (some (.ref q9)))
    (cl10 : PySem.W.nsIn K mainGlobals "TooMany" = some (some (.ref q10)))
    (cl11 : PySem.W.nsIn K mainGlobals "DrawError" = some (some (.ref q11)))
    (zi : mg "isinstance" = none) (zv : mg "ValueError" = none) (hA : allOkX K [q0, q1, q2, q3, q4, q5, q6, q7, q8, q9, q10, q11] = true) : ClsX K mg (fun i => [q0, q1, q2, q3, q4, q5, q6, q7, q8, q9, q10, q11].getD i 0) := by
  unfold allOkX at hA
  simp only [Bool.and_eq_true, List.all_eq_true, List.mem_range, beq_iff_eq] at hA
  obtain ⟨⟨⟨⟨h1, h2⟩, h3⟩, h4⟩, h5⟩ := hA
  have ho : ∀ i, i < 12 → _ := fun i hi => by
    have z := h1 i hi
    unfold okCX at z
    simp only [Bool.and_eq_true, beq_iff_eq] at z
    exact z
  exact { g_NoEnd := PySem.W.mg_of X G cl0, g_NoLog := PySem.W.mg_of X G cl1, g_NoName := PySem.W.mg_of X G cl2, g_NoRow := PySem.W.mg_of X G cl3, g_NoStep := PySem.W.mg_of X G cl4, g_NoTable := PySem.W.mg_of X G cl5, g_NoText := PySem.W.mg_of X G cl6, g_NoWish := PySem.W.mg_of X G cl7, g_Spent := PySem.W.mg_of X G cl8, g_Told := PySem.W.mg_of X G cl9, g_TooMany := PySem.W.mg_of X G cl10, g_DrawError := PySem.W.mg_of X G cl11, m_isinstance := zi, m_ValueError := zv, x := fun i hi => (ho i hi).1.1.1.1.1.1.1.1.1, k := fun i hi => (ho i hi).1.1.1.1.1.1.1.1.2, e := fun i hi => ⟨(ho i hi).1.1.1.1.1.1.1.2, (ho i hi).1.1.1.1.1.1.2, (ho i hi).1.1.1.1.1.2, (ho i hi).1.1.1.1.2, (ho i hi).1.1.1.2, h2, h3, (ho i hi).1.1.2⟩, kit := fun i hi j hj => h4 i hi j hj, kitV := fun i hi => h5 i hi, ty := fun i hi => (ho i hi).1.2, exm := fun i hi => (ho i hi).2 }
end Rd

set_option Elab.async false
set_option linter.all false
set_option maxRecDepth 100000
set_option maxHeartbeats 4000000
namespace Rd
open PySem PySem.Spec PyProof.Rows L2 Dt
def topS (i : Nat) : Stmt := PySem.Challenge.pw_redraw_k71_riddles_read.main.body.getD i (.Pass ⟨0, 0, 0, 0⟩)
abbrev sWell : Stmt := topS 37
abbrev nWell : List Str := ["script", "seed", "cell"]
theorem scWell : FnScope nWell ["script"] (defScope sWell) := ⟨rfl, rfl, rfl, by decide +kernel, rfl, by decide +kernel, by decide +kernel⟩
abbrev sDraw : Stmt := topS 38
abbrev nDraw : List Str := ["well", "many", "cell", "found"]
theorem scDraw : FnScope nDraw ["well", "many"] (defScope sDraw) := ⟨rfl, rfl, rfl, by decide +kernel, rfl, by decide +kernel, by decide +kernel⟩
def spWell (K : PySem.W.Frag) : Sp := fun vs H Q _ => ∃ (a : Addr) (ns : List Int), vs = [.ref a] ∧ SqL K H a (ns.map V.int) ∧ ns.length ≤ 63 ∧ (∀ z ∈ ns, Builtin.Int.intBits z ≤ 1048576) ∧
  ∀ H' wl cl, Same H H' → H wl = none → H cl = none → Well H' wl cl → Q (.ref wl) H'
def spDraw : Sp := fun vs H Q _ => ∃ (wl cl : Addr) (m : Int), vs = [.ref wl, .int m] ∧ Well H wl cl ∧ 1 ≤ m ∧ m.natAbs.log2 < 9000 ∧
  ∀ H' d, Drawn wl cl H H' → 0 ≤ d → d < m → Q (.int d) H'
def spLfi : Sp := fun vs H Q _ => ∃ (ri : Addr) (zs : List V) (many hues : Int), vs = [.ref ri] ∧ H ri = some (.tup (.int many :: .int hues :: zs)) ∧ 0 ≤ many ∧ many ≤ 6 ∧ 0 ≤ hues ∧ hues ≤ 4 ∧
  ∀ H' l, Same H H' → H l = none → IsFills H' l (fillL hues.toNat many.toNat) → Q (.ref l) H'
structure TxtFi (P : Program) (w : World) (K : PySem.W.Frag) (mg : Str → Option Value) (base : Heap) : Prop where
  m_range : mg "range" = none
  m_len : mg "len" = none
section
variable {P : Program} {w : World} {K : PySem.W.Frag} {mg : Str → Option Value} {base : Heap}
theorem ok_well {f : Addr} {fd : FuncData} {k : Nat} (F : Fun K "_law_well" "_law_well" sWell f fd) (mabs : mg "abs" = none) : FnOk P w K mg base CX0 (k + 1) f fd ["script"] (spWell K) := by
  refine F.ok scWell (fun vs H Q E h => ?_) (fun cdv A outer s H vs Q E hr h => ?_)
  · obtain ⟨a, ns, rfl, _⟩ := h
    rfl
  · obtain ⟨a, ns, rfl, hS, hlen, hbits, q⟩ := h
    refine ⟨_, pss_cons (ps_set (i := 1) scWell.nd rfl (.inl rfl) pe_int)
      (pss_cons (ps_for PassesOwn.never rfl (pi_list (pv 0)) (pg_name (i := 2) scWell.nd rfl (.inl rfl))
        (pss_one (ps_set (i := 1) scWell.nd rfl (.inl rfl) (pe_op op_add (pe_op op_mod (pe_op op_powW (pe_op op_add (pe_op op_mul (pv 1) pe_int) (pv 2)) pe_int) pe_int) pe_int))))
      (pss_one (ps_ret (pe_lst (pa_cons (pe_lc (own := [("cell", 2)]) (g := gName 2) (tt := tYes) rfl scWell.nd (pi_list (pv 0)) (blkOk_by (own := [("cell", 2)]) (N := nWell) (sc := defScope sWell) (by decide +kernel))
          (fun _ _ _ _ _ => pg_name (i := 2) scWell.nd rfl (Or.inl rfl)) (fun _ _ _ _ _ => pts_nil) (fun _ _ _ _ _ => pe_callB call_abs (by rfl) mabs (by decide +kernel) (pa_cons (pv 2) pa_nil)))
        (pa_cons pe_int (pa_cons (pv 1) pa_nil))))))), ?_⟩
    refine ⟨.ref a, rfl, a, rfl, ⟨_, hS⟩, for_list (xs := ns.map V.int) (fun i σ H' => ∃ y2 sd, σ = [some (.ref a), some (.int sd), y2] ∧ 0 ≤ sd ∧ sd ≤ 2147483629 ∧ H' = H) ⟨none, 1, rfl, by decide, by decide, rfl⟩ (fun i σ H' _ p => ?_) (fun i x σ H' hx p => ?_) (fun σ H' p => ?_)⟩
    · obtain ⟨_, _, _, _, _, rfl⟩ := p
      exact hS
    · obtain ⟨y2, sd, rfl, h0, h1, rfl⟩ := p
      rw [List.getElem?_map] at hx
      obtain ⟨z, hz, rfl⟩ : ∃ z, ns[i]? = some z ∧ V.int z = x := by
        cases e : ns[i]? with
        | none => rw [e] at hx; cases hx
        | some z => rw [e] at hx; exact ⟨z, rfl, Option.some.inj hx⟩
      have hb := hbits z (List.mem_of_getElem? hz)
      have hm := mix_bits h0 h1 hb (by decide)
      refine ⟨_, rfl, sd, 50021, rfl, rfl, .inl ⟨by omega, by omega⟩, _, rfl, _, _, rfl, rfl, _, _, rfl, rfl, ⟨by decide, by omega⟩, _, _, rfl, rfl, (by show (0 : Int) < 2147483629; decide), _, _, rfl, rfl, ?_⟩
      have g1 := Int.emod_nonneg ((sd * 50021 + z) ^ (3 : Int).toNat) (by decide : (2147483629 : Int) ≠ 0)
      have g2 := Int.emod_lt_of_pos ((sd * 50021 + z) ^ (3 : Int).toNat) (by decide : (0 : Int) < 2147483629)
      exact ⟨_, _, rfl, by omega, by omega, rfl⟩
    · obtain ⟨y2, sd, rfl, h0, h1, rfl⟩ := p
      refine ⟨.ref a, rfl, a, rfl, ⟨_, hS⟩, fun D hD => lc_list (K := K) (a := a) (xs := ns.map V.int) (fun i H1 => H1 D = some (.lst (((ns.take i).map fun z => if z < 0 then -z else z).map V.int)) ∧ Same H' H1 ∧ ∀ b, b ≠ D → H1 b = H' b) ⟨upd_same, same_upd hD, fun b hb => upd_ne hb⟩ (fun i H1 _ p => p.2.1.seq hS) (fun i x H1 hx p => ?_) (fun H1 p => ?_)⟩
      · rw [List.getElem?_map] at hx
        obtain ⟨z, hz, rfl⟩ : ∃ z, ns[i]? = some z ∧ V.int z = x := by
          cases e : ns[i]? with
          | none => rw [e] at hx; cases hx
          | some z => rw [e] at hx; exact ⟨z, rfl, Option.some.inj hx⟩
        refine ⟨rfl, ?_⟩
        dsimp only [tYes]
        rw [if_pos rfl]
        refine ⟨.int z, rfl, z, rfl, _, p.1, ?_, ?_, ?_, ?_⟩
        · rw [List.length_map, List.length_map, List.length_take]
          exact small1000 (by omega)
        · rw [upd_same, List.take_add_one, hz, List.map_append, List.map_append]
          rfl
        · intro b o e
          rw [upd_ne (ne_of_none e hD)]
          exact p.2.1 b o e
        · intro b hb
          rw [upd_ne hb]
          exact p.2.2 b hb
      · obtain ⟨p1, p2, p3⟩ := p
        rw [List.length_map, List.take_length] at p1
        refine ⟨.int sd, rfl, (by show 3 ≤ sizeLine; decide), fun l hl => ?_⟩
        have ne : D ≠ l := ne_of_none p1 hl
        refine q _ l D (p2.trans (same_upd hl)) ?_ hD ⟨_, 0, sd, upd_same, by rw [upd_ne ne]; exact p1, by decide, h0, by omega, ?_⟩
        · exact p2.free hl
        · intro x hx
          obtain ⟨z, _, rfl⟩ := List.mem_map.mp hx
          split <;> omega
theorem Well.mk {H : Hp} {wl cl : Addr} {cs : List Int} {b c : Int} (h1 : H wl = some (.lst [.ref cl, .int b, .int c])) (h2 : H cl = some (.lst (cs.map V.int))) (h : WellC cs b c) : Well H wl cl := ⟨cs, b, c, h1, h2, h⟩
theorem ok_draw {f : Addr} {fd : FuncData} {k : Nat} (F : Fun K "_law_draw" "_law_draw" sDraw f fd) : FnOk P w K mg base CX0 (k + 1) f fd ["well", "many"] spDraw := by
  refine F.ok scDraw (fun vs H Q E h => ?_) (fun cdv A outer s H vs Q E hr h => ?_)
  · obtain ⟨wl, cl, m, rfl, _⟩ := h
    rfl
  · obtain ⟨wl, cl, m, rfl, hW, hm, hlog, q⟩ := h
    have hwc := hW.ne
    have pix : ∀ {X : Cx} {a b : Expr} {pos : Pos} {ta tb : TE}, PE X a ta → PE X b tb → PlainIx b → PE X (.Subscript a b pos) (tOp (rIxL X.K) ta tb) := fun ha hb hs => pe_ix ix_list ha hb hs
    refine ⟨_, C8.pss_cut (ps_if (PW.pt (pw_and (pt_cmpR op_eq (pe_ix ix_list (pv 0) pe_int (fun _ _ => rfl)) pe_int (nomark _)) (pw_and1 (pt_cmpR (op_neD hr.units) (pe_ix ix_list (pv 0) pe_int (fun _ _ => rfl)) (pe_lst pa_nil) (nomark _)))))
        (pss_cons (ps_set (i := 2) scDraw.nd rfl (.inl rfl) (pe_bm PySem.F.plainAttrs_list PySem.F.slot_list_pop PySem.F.type_list_pop mt_popAt (pe_ix ix_list (pv 0) pe_int (fun _ _ => rfl)) (pa_cons pe_int pa_nil)))
        (pss_cons (ps_if (pt_cmpR op_lt (pv 2) (pe_op op_pow pe_int pe_int) (nomark _)) (pss_one (ps_ret (pe_op op_mod (pv 2) (pv 1)))) pss_nil)
        (pss_one (ps_asg (pv 2) (pg_sub (pv 0) pe_int set_list))))) pss_nil)
      (pss_cons (ps_if (pt_cmpR op_gt (pe_ix ix_list (pv 0) pe_int (fun _ _ => rfl)) pe_int (nomark _))
        (pss_cons (ps_set (i := 3) scDraw.nd rfl (.inl rfl) (pe_op op_mod (pe_ix ix_list (pv 0) pe_int (fun _ _ => rfl)) (pv 1)))
        (pss_cons (ps_asg (pe_op op_fdivW (pe_ix ix_list (pv 0) pe_int (fun _ _ => rfl)) (pv 1)) (pg_sub (pv 0) pe_int set_list))
        (pss_one (ps_ret (pv 3))))) pss_nil)
      (pss_cons (ps_asg (pe_op op_mod (pe_op op_add (pe_op op_mul (pe_ix ix_list (pv 0) pe_int (fun _ _ => rfl)) pe_int) pe_int) pe_int) (pg_sub (pv 0) pe_int set_list))
      (pss_one (ps_ret (pe_op op_mod (pe_op op_fdiv (pe_op op_mod (pe_op op_pow (pe_op op_mod (pe_op op_pow (pe_ix ix_list (pv 0) pe_int (fun _ _ => rfl)) pe_int) pe_int) pe_int) pe_int) pe_int) (pv 1)))))), ?_⟩
    refine ⟨fun σ H' => Drawn wl cl H H' ∧ ∃ y2 y3, σ = [some (.ref wl), some (.int m), y2, y3], ?_, ?_⟩
    · obtain ⟨cs, b, c, h1, h2, hc⟩ := hW
      refine ⟨.ref wl, rfl, wl, _, 1, _, rfl, rfl, .inl (.inl h1), rfl, rfl, _, rfl, ?_⟩
      refine ite2 (fun e => ?_) (fun e => ?_)
      · refine ⟨.ref wl, rfl, wl, _, 0, _, rfl, rfl, .inl (.inl h1), rfl, (by show 0 ≤ sizeLine; decide), fun p hp => ?_⟩
        have np1 : wl ≠ p := ne_of_none h1 hp
        have np2 : cl ≠ p := ne_of_none h2 hp
        have g1 : upd H p (.lst []) wl = some (.lst [.ref cl, .int b, .int c]) := by rw [upd_ne np1]; exact h1
        have g2 : upd H p (.lst []) cl = some (.lst (cs.map V.int)) := by rw [upd_ne np2]; exact h2
        refine ⟨.list (cs.map .int), .list [], .lst (.inl (.inl g2)) (dpInts cs), .lst (.inl (.inl upd_same)) .nil, PySem.W.shaped_ints cs, PySem.W.shaped_ints [], _, rfl, ?_⟩
        cases cs with
        | nil =>
          rw [eqv_nil_nil]
          refine iteF ?_
          exact ⟨⟨fun b' o n1 n2 e => same_upd hp _ _ e, [], b, c, g1, g2, hc⟩, none, none, rfl⟩
        | cons z r =>
          rw [eqv_nil_cons]
          refine iteT ?_
          have hz : 0 ≤ z := hc.nn z List.mem_cons_self
          refine ⟨.ref wl, rfl, wl, _, 0, _, rfl, rfl, .inl (.inl g1), rfl, .inl ⟨rfl, _, .inl (.inl g2)⟩, cl, _, 0, 0, .int z, rfl, rfl, g2, by decide, by decide, seqIndex_of (by decide) (by simp <;> omega), rfl, ?_⟩
          refine ⟨.int z, rfl, 10, 18, rfl, rfl, ⟨by decide, by decide, by decide⟩, _, _, rfl, rfl, _, rfl, ?_⟩
          have k1 : ∀ o, upd (upd H p (.lst [])) cl o wl = some (.lst [.ref cl, .int b, .int c]) := fun o => by rw [upd_ne hwc]; exact g1
          have kd : ∀ o b' o', b' ≠ wl → b' ≠ cl → H b' = some o' → upd (upd H p (.lst [])) cl o b' = some o' := fun o b' o' n1 n2 e => by rw [upd_ne n2]; exact same_upd hp _ _ e
          refine ite2 (fun e2 => ?_) (fun e2 => ?_)
          · refine ⟨.int z, rfl, .int m, rfl, z, m, rfl, rfl, (by show 0 < m; omega), q _ _ ⟨kd _, r, b, c, k1 _, upd_same, hc.b0, hc.c0, hc.c1, fun x hx => hc.nn x (List.mem_cons_of_mem _ hx)⟩ (Int.emod_nonneg _ (by omega)) (Int.emod_lt_of_pos _ (by omega))⟩
          · refine ⟨.int z, rfl, .ref wl, rfl, wl, _, 1, 1, rfl, rfl, k1 _, rfl, ?_⟩
            refine ⟨⟨fun b' o n1 n2 e => ?_, r, z, c, upd_same, ?_, hz, hc.c0, hc.c1, fun x hx => hc.nn x (List.mem_cons_of_mem _ hx)⟩, some (.int z), none, rfl⟩
            · rw [upd_ne n1]; exact kd _ b' o n1 n2 e
            · rw [upd_ne hwc.symm]; exact upd_same
      · exact ⟨⟨fun _ _ _ _ e => e, cs, b, c, h1, h2, hc⟩, none, none, rfl⟩
    · intro σ H1 hM
      obtain ⟨⟨hD, hW1⟩, y2, y3, rfl⟩ := hM
      obtain ⟨cs, b, c, h1, h2, hc⟩ := hW1
      have q2 : ∀ (o : List V) (b' c' d : Int), o = [.ref cl, .int b', .int c'] → 0 ≤ b' → 0 ≤ c' → c' ≤ 2147483647 → 0 ≤ d → d < m → Q (.int d) (upd H1 wl (.lst o)) := fun o b' c' d eo x1 x2 x3 x4 x5 =>
        q _ _ ⟨fun a o' n1 n2 e => by rw [upd_ne n1]; exact hD a o' n1 n2 e, cs, b', c', by rw [eo]; exact upd_same, by rw [upd_ne hwc.symm]; exact h2, x1, x2, x3, hc.nn⟩ x4 x5
      refine ⟨.ref wl, rfl, wl, _, 1, _, rfl, rfl, .inl (.inl h1), rfl, b, 0, rfl, rfl, _, rfl, ?_⟩
      refine ite2 (fun e => ?_) (fun e => ?_)
      · have hb0 := hc.b0
        refine ⟨.ref wl, rfl, wl, _, 1, _, rfl, rfl, .inl (.inl h1), rfl, .int m, rfl, b, m, rfl, rfl, (by show 0 < m; omega), ?_⟩
        refine ⟨.ref wl, rfl, wl, _, 1, _, rfl, rfl, .inl (.inl h1), rfl, .int m, rfl, b, m, rfl, rfl, ⟨by omega, hlog⟩, .ref wl, rfl, wl, _, 1, 1, rfl, rfl, h1, rfl, ?_⟩
        exact ⟨.int (b % m), rfl, q2 _ (b / m) c _ rfl (Int.ediv_nonneg hb0 (by omega)) hc.c0 hc.c1 (Int.emod_nonneg _ (by omega)) (Int.emod_lt_of_pos _ (by omega))⟩
      · have hc0 := hc.c0
        have hc1 := hc.c1
        refine ⟨.ref wl, rfl, wl, _, 2, _, rfl, rfl, .inl (.inl h1), rfl, c, 48271, rfl, rfl, .inl ⟨by omega, by omega⟩, _, _, rfl, rfl, _, _, rfl, rfl, (by show (0 : Int) < 2147483647; decide), .ref wl, rfl, wl, _, 2, 2, rfl, rfl, h1, rfl, ?_⟩
        have n1 := Int.emod_nonneg (c * 48271 + 12345) (by decide : (2147483647 : Int) ≠ 0)
        have n2 := Int.emod_lt_of_pos (c * 48271 + 12345) (by decide : (0 : Int) < 2147483647)
        generalize ec : (c * 48271 + 12345) % 2147483647 = c' at n1 n2
        have n3 := Int.emod_nonneg (c' ^ (3 : Int).toNat) (by decide : (2147483629 : Int) ≠ 0)
        have n4 := Int.emod_lt_of_pos (c' ^ (3 : Int).toNat) (by decide : (0 : Int) < 2147483629)
        refine ⟨.ref wl, rfl, wl, _, 2, _, rfl, rfl, .inl (.inl upd_same), rfl, c', 3, by rw [← ec], rfl, ⟨by decide, by decide, by omega⟩, _, _, rfl, rfl, (by show (0 : Int) < 2147483629; decide), _, 5, rfl, rfl, ⟨by decide, by decide, by omega⟩, _, _, rfl, rfl, (by show (0 : Int) < 1000000007; decide), _, 7, rfl, rfl, ⟨by decide, by decide⟩, .int m, rfl, _, m, rfl, rfl, (by show 0 < m; omega), ?_⟩
        exact q2 _ b c' _ (by rw [← ec]; rfl) hc.b0 n1 (by omega) (Int.emod_nonneg _ (by omega)) (Int.emod_lt_of_pos _ (by omega))
end
end Rd

set_option Elab.async false
set_option linter.all false
set_option maxRecDepth 100000
set_option maxHeartbeats 4000000
namespace Rd
open PySem PySem.Spec PyProof.Rows L2 Dt
abbrev sPow : Stmt := topS 39
abbrev nPow : List Str := ["number", "many", "found", "turn"]
theorem scPow : FnScope nPow ["number", "many"] (defScope sPow) := ⟨rfl, rfl, rfl, by decide +kernel, rfl, by decide +kernel, by decide +kernel⟩
abbrev sWis : Stmt := topS 40
abbrev nWis : List Str := ["well", "many", "hues", "full", "alone_rows", "left", "size", "places", "every", "count", "step", "rows", "at", "k", "row", "number", "place", "found"]
theorem scWis : FnScope nWis ["well", "many", "hues"] (defScope sWis) := ⟨rfl, rfl, rfl, by decide +kernel, rfl, by decide +kernel, by decide +kernel⟩
theorem pow_small : ∀ n : Fin 5, ∀ i : Fin 7, ((n : Nat) : Int) ^ (i : Nat) ≤ 4096 ∧ 0 ≤ ((n : Nat) : Int) ^ (i : Nat) := by decide
theorem pow_bd {n : Int} {i : Nat} (h0 : 0 ≤ n) (h4 : n ≤ 4) (hi : i ≤ 6) : n ^ i ≤ 4096 ∧ 0 ≤ n ^ i := by
  obtain ⟨m, rfl⟩ : ∃ m : Nat, n = m := ⟨n.toNat, by omega⟩
  exact pow_small ⟨m, by omega⟩ ⟨i, by omega⟩
theorem pow_wishF : ∀ n : Fin 3, ∀ m : Fin 3, 2 ≤ (((n : Nat) : Int) + 2) ^ ((m : Nat) + 1) ∧ (((n : Nat) : Int) + 2) ^ ((m : Nat) + 1) ≤ 64 := by decide
theorem pow_wish {h s : Int} (h2 : 2 ≤ h) (h4 : h ≤ 4) (s1 : 1 ≤ s) (s3 : s ≤ 3) : 2 ≤ h ^ s.toNat ∧ h ^ s.toNat ≤ 64 := by
  obtain ⟨n, rfl⟩ : ∃ n : Nat, h = (n : Int) + 2 := ⟨(h - 2).toNat, by omega⟩
  obtain ⟨m, rfl⟩ : ∃ m : Nat, s = (m : Int) + 1 := ⟨(s - 1).toNat, by omega⟩
  have e : ((m : Int) + 1).toNat = m + 1 := by omega
  rw [e]
  exact pow_wishF ⟨n, by omega⟩ ⟨m, by omega⟩
def spPow : Sp := fun vs H Q _ => ∃ n m : Int, vs = [.int n, .int m] ∧ 0 ≤ n ∧ n ≤ 4 ∧ 0 ≤ m ∧ m ≤ 6 ∧ Q (.int (n ^ m.toNat)) H
def spWis : Sp := fun vs H Q _ => ∃ (wl cl : Addr) (many hues : Int), vs = [.ref wl, .int many, .int hues] ∧ Well H wl cl ∧ 1 ≤ many ∧ many ≤ 6 ∧ 2 ≤ hues ∧ hues ≤ 4 ∧
  ∀ H' wa wd, Drawn wl cl H H' → IsWish H' wa wd → Good many hues wd → Neat wd → Q (.ref wa) H'
structure TxtW (P : Program) (w : World) (K : PySem.W.Frag) (mg : Str → Option Value) (base : Heap) : Prop where
  m_range : mg "range" = none
  m_list : mg "list" = none
  m_min : mg "min" = none
  m_max : mg "max" = none
  m_len : mg "len" = none
  m_sorted : mg "sorted" = none
  m_tuple : mg "tuple" = none
  c__law_draw : Cal P w K mg base 1 "_law_draw" ["well", "many"] spDraw
  c__law_power : Cal P w K mg base 1 "_law_power" ["number", "many"] spPow
section
variable {P : Program} {w : World} {K : PySem.W.Frag} {mg : Str → Option Value} {base : Heap}
theorem ok_pow {f : Addr} {fd : FuncData} {k : Nat} (F : Fun K "_law_power" "_law_power" sPow f fd) (mr : mg "range" = none) : FnOk P w K mg base CX0 (k + 1) f fd ["number", "many"] spPow := by
  refine F.ok scPow (fun vs H Q E h => ?_) (fun cdv A outer s H vs Q E hr h => ?_)
  · obtain ⟨n, m, rfl, _⟩ := h
    rfl
  · obtain ⟨n, m, rfl, h0, h4, m0, m6, q⟩ := h
    refine ⟨_, (pss_cons (ps_set (i := 2) scPow.nd rfl (Or.inl rfl) pe_int)
      (pss_cons (ps_for PassesOwn.never rfl (pi_range1 (by rfl) mr (pa_cons (pv 1) pa_nil)) (pg_name (i := 3) scPow.nd rfl (Or.inl rfl))
      (pss_one (ps_set (i := 2) scPow.nd rfl (Or.inl rfl) (pe_op op_mul (pv 2) (pv 0)))))
      (pss_one (ps_ret (pv 2))))), ?_⟩
    refine ⟨.int m, rfl, m, rfl, by omega, by omega, for_range (lo := 0) (n := m.toNat) (fun i σ H3 => H3 = H ∧ ∃ y3, σ = [some (.int n), some (.int m), some (.int (n ^ i)), y3]) ⟨rfl, none, by rw [Int.pow_zero]; rfl⟩ (fun i σ H3 hi p => ?_) (fun σ H3 p => ?_)⟩
    · obtain ⟨rfl, y3, rfl⟩ := p
      have b := pow_bd h0 h4 (i := i) (by omega)
      exact ⟨_, rfl, _, rfl, n ^ i, n, rfl, rfl, .inl ⟨by omega, by omega⟩, rfl, _, by rw [Int.pow_succ]; rfl⟩
    · obtain ⟨rfl, y3, rfl⟩ := p
      exact ⟨_, rfl, q⟩
set_option maxHeartbeats 16000000 in
theorem ok_wis {f : Addr} {fd : FuncData} {k : Nat} (F : Fun K "_law_wish" "_law_wish" sWis f fd) (T : TxtW P w K mg base) : FnOk P w K mg base CX0 (k + 2) f fd ["well", "many", "hues"] spWis := by
  refine F.ok scWis (fun vs H Q E h => ?_) (fun cdv A outer s H vs Q E hr h => ?_)
  · obtain ⟨wl, cl, many, hues, rfl, _⟩ := h
    rfl
  · obtain ⟨wl, cl, many, hues, rfl, hW, m1, m6, h2, h4, q⟩ := h
    have hr1 : Room 1 (A.deeper (envOfC (Str.ofString "_law_wish") (defScope sWis) s.heap.objs.size f cdv)) := hr.mono (by omega)
    have hu := units65 hr
    refine ⟨_, (pss_cons (ps_set (i := 3) scWis.nd rfl (Or.inl rfl) (pe_cal T.c__law_draw hr1 (by rfl) (pa_cons (pv 0) (pa_cons pe_int pa_nil))))
  (pss_cons (ps_set (i := 4) scWis.nd rfl (Or.inl rfl) (pe_cmpR op_eq (pe_cal T.c__law_draw hr1 (by rfl) (pa_cons (pv 0) (pa_cons pe_int pa_nil))) pe_int (nomark _)))
  (pss_cons (ps_set (i := 5) scWis.nd rfl (Or.inr rfl) (pe_listRg rfl (by rfl) T.m_list (prg_1 (by rfl) T.m_range (pv 1))))
  (pss_cons (ps_set (i := 6) scWis.nd rfl (Or.inl rfl) (pe_op op_add pe_int (pe_cal T.c__law_draw hr1 (by rfl) (pa_cons (pv 0) (pa_cons (pe_callB (call_min2 rfl) (by rfl) T.m_min (by decide +kernel) (pa_cons pe_int (pa_cons (pv 1) pa_nil))) pa_nil)))))
  (pss_cons (ps_set (i := 7) scWis.nd rfl (Or.inl rfl) (pe_callB cr_sorted (by rfl) T.m_sorted (by decide +kernel) (pa_cons (pe_lc (own := [("k", 13)]) (te := tBM K "list" rPopAt (tVar 5) (tCons (tCall spDraw [] E0 (tCons (tVar 0) (tCons (tCB (rLen K) (tCons (tVar 5) tNil)) tNil))) tNil)) rfl scWis.nd  (pi_range1 (by rfl) T.m_range (pa_cons (pv 6) pa_nil)) (blkOk_by (own := [("k", 13)]) (N := nWis) (sc := defScope sWis) (by decide +kernel))
   (fun _ _ _ _ _ => (pg_name (i := 13) scWis.nd rfl (Or.inl rfl))) (fun _ _ _ _ _ => pts_nil) (fun _ _ _ _ _ => (pe_bm PySem.F.plainAttrs_list PySem.F.slot_list_pop PySem.F.type_list_pop mt_popAt (pv 5) (pa_cons (pe_cal T.c__law_draw hr1 (by rfl) (pa_cons (pv 0) (pa_cons (pe_callB call_len_seq (by rfl) T.m_len (by decide +kernel) (pa_cons (pv 5) pa_nil)) pa_nil))) pa_nil)))) pa_nil)))
  (pss_cons (ps_set (i := 8) scWis.nd rfl (Or.inl rfl) (pe_cal T.c__law_power hr1 (by rfl) (pa_cons (pv 2) (pa_cons (pv 6) pa_nil))))
  (pss_cons (ps_set (i := 9) scWis.nd rfl (Or.inl rfl) (pe_op op_add pe_int (pe_cal T.c__law_draw hr1 (by rfl) (pa_cons (pv 0) (pa_cons (pe_ix ix_list (pe_lst (pa_cons (pe_callB (call_max2 rfl) (by rfl) T.m_max (by decide +kernel) (pa_cons pe_int (pa_cons (pe_op op_fdiv (pv 8) pe_int) pa_nil))) (pa_cons (pv 8) (pa_cons pe_int (pa_cons (pe_callB (call_min2 rfl) (by rfl) T.m_min (by decide +kernel) (pa_cons pe_int (pa_cons (pv 8) pa_nil))) pa_nil))))) (pe_callB (call_min2 rfl) (by rfl) T.m_min (by decide +kernel) (pa_cons (pv 3) (pa_cons pe_int pa_nil))) (fun _ _ => rfl)) pa_nil)))))
  (pss_cons (ps_set (i := 10) scWis.nd rfl (Or.inl rfl) (pe_op op_add pe_int (pe_cal T.c__law_draw hr1 (by rfl) (pa_cons (pv 0) (pa_cons (pv 8) pa_nil)))))
  (pss_cons (ps_set (i := 11) scWis.nd rfl (Or.inl rfl) (pe_lst pa_nil))
  (pss_cons (ps_set (i := 12) scWis.nd rfl (Or.inl rfl) (pe_cal T.c__law_draw hr1 (by rfl) (pa_cons (pv 0) (pa_cons (pv 8) pa_nil))))
  (pss_cons (ps_for PassesOwn.never rfl (pi_range1 (by rfl) T.m_range (pa_cons (pe_callB (call_min2 rfl) (by rfl) T.m_min (by decide +kernel) (pa_cons (pv 9) (pa_cons (pv 8) pa_nil))) pa_nil)) (pg_name (i := 13) scWis.nd rfl (Or.inl rfl))
  (pss_cons (ps_set (i := 14) scWis.nd rfl (Or.inl rfl) (pe_lst pa_nil))
  (pss_cons (ps_set (i := 15) scWis.nd rfl (Or.inl rfl) (pv 12))
  (pss_cons (ps_for PassesOwn.never rfl (pi_list (pv 7)) (pg_name (i := 16) scWis.nd rfl (Or.inl rfl))
  (pss_cons (ps_expr (pe_bm PySem.F.plainAttrs_list PySem.F.slot_list_append PySem.F.type_list_append mt_append (pv 14) (pa_cons (pe_op op_mod (pv 15) (pv 2)) pa_nil)))
  (pss_one (ps_set (i := 15) scWis.nd rfl (Or.inl rfl) (pe_op op_fdiv (pv 15) (pv 2))))))
  (pss_cons (ps_expr (pe_bm PySem.F.plainAttrs_list PySem.F.slot_list_append PySem.F.type_list_append mt_append (pv 11) (pa_cons (pe_callTy call_tuple_of (by rfl) T.m_tuple (by decide +kernel) (pa_cons (pv 14) pa_nil)) pa_nil)))
  (pss_cons (ps_set (i := 12) scWis.nd rfl (Or.inl rfl) (pe_op op_mod (pe_op op_add (pv 12) (pv 10)) (pv 8)))
  (pss_one (ps_if (pt_val (pv 4))
  (pss_one (ps_set (i := 12) scWis.nd rfl (Or.inl rfl) (pe_cal T.c__law_draw hr1 (by rfl) (pa_cons (pv 0) (pa_cons (pv 8) pa_nil))))) pss_nil))))))))
  (pss_cons (ps_set (i := 17) scWis.nd rfl (Or.inl rfl) (pe_lst pa_nil))
  (pss_cons (ps_for PassesOwn.never rfl (pi_list (pe_callB Tt.cr_sortedT (by rfl) T.m_sorted (by decide +kernel) (pa_cons (pv 11) pa_nil))) (pg_name (i := 14) scWis.nd rfl (Or.inl rfl))
  (pss_one (ps_if (pt_cmpR (op_notInD hu) (pv 14) (pv 17) (by rfl))
  (pss_one (ps_expr (pe_bm PySem.F.plainAttrs_list PySem.F.slot_list_append PySem.F.type_list_append mt_append (pv 17) (pa_cons (pv 14) pa_nil)))) pss_nil)))
  (pss_one (ps_ret (pe_tup (pa_cons (pe_callTy call_tuple_of (by rfl) T.m_tuple (by decide +kernel) (pa_cons (pv 7) pa_nil)) (pa_cons (pe_callTy call_tuple_of (by rfl) T.m_tuple (by decide +kernel) (pa_cons (pv 17) pa_nil)) pa_nil)))))))))))))))))), ?_⟩
    -- full, alone_rows
    refine ⟨.ref wl, rfl, wl, cl, 8, rfl, hW, by decide, by decide, fun H1 full D1 f0 f1 => ?_⟩
    refine ⟨.ref wl, rfl, wl, cl, 3, rfl, D1.2, by decide, by decide, fun H2 al D2 _ _ => ⟨rfl, ?_⟩⟩
    generalize decide (V.int al = V.int 0) = alone
    have E2 := D1.trans D2
    -- left
    refine ⟨.int many, rfl, many, rfl, ⟨by omega, by omega, by omega, by omega, by omega⟩, fun l nl => ?_⟩
    have nlw := D2.2.new nl
    have nl0 : H l = none := E2.free hW nl
    have E3 := E2.put (o := .lst (rgV 0 many)) nl0 nlw
    have hl3 : upd H2 l (.lst (rgV 0 many)) l = some (.lst (rgV 0 many)) := upd_same
    generalize upd H2 l (.lst (rgV 0 many)) = H3 at E3 hl3
    -- size
    refine ⟨.ref wl, rfl, .int many, rfl, 3, many, rfl, wl, cl, _, rfl, E3.2, by split <;> omega, log_small (by split <;> omega) (by split <;> omega), fun H4 sz D4 s0 s1 => ⟨1, sz, rfl, rfl, ?_⟩⟩
    have E4 := E3.trans D4
    have hl4 := D4.1 l _ nlw.1 nlw.2 hl3
    obtain ⟨z3, zm⟩ : 1 + sz ≤ 3 ∧ 1 + sz ≤ many := by
      constructor <;> (split at s1 <;> omega)
    have z1 : 1 ≤ 1 + sz := by omega
    dsimp only
    generalize 1 + sz = size at z3 zm z1
    clear s0 s1
    -- places
    refine ⟨.int size, rfl, size, rfl, by omega, by omega, fun D nD => ?_⟩
    have nDw := E4.2.new nD
    have nD0 : H D = none := E4.free hW nD
    have nlD : l ≠ D := ne_of_none hl4 nD
    refine lc_range (lo := 0) (n := size.toNat) (fun i H5 => Drawn wl cl H H5 ∧ ∃ acc ls : List Int, H5 l = some (.lst (ls.map V.int)) ∧ H5 D = some (.lst (acc.map V.int)) ∧ acc.length = i ∧ ls.length + i = many.toNat ∧ (acc ++ ls).Perm (rngI many)) ⟨E4.put nD0 nDw, [], rngI many, ?_, upd_same, rfl, ?_, List.Perm.refl _⟩ (fun i H5 hi p => ?_) (fun H5 p => ?_)
    · rw [upd_ne nlD, hl4, rgV_eq]
    · rw [rngI_len]; rfl
    · obtain ⟨dr, acc, ls, hL, hD, la, ll, pm⟩ := p
      refine ⟨rfl, ?_⟩
      dsimp only [tYes]
      rw [if_pos rfl]
      have lpos : 1 ≤ ls.length := by omega
      refine ⟨.ref l, rfl, .inl ⟨rfl, _, .inl (.inl hL)⟩, .ref wl, rfl, .ref l, rfl, l, _, rfl, .inl (.inl (.inl hL)), wl, cl, _, rfl, dr.2, by rw [List.length_map]; omega, by rw [List.length_map]; exact log_small (by omega) (by omega), fun H6 d D6 d0 d1 => ?_⟩
      rw [List.length_map] at d1
      have hd : d.toNat < ls.length := by omega
      have hL6 := D6.1 l _ nlw.1 nlw.2 hL
      have hD6 := D6.1 D _ nDw.1 nDw.2 hD
      refine ⟨l, ls.map V.int, d, d.toNat, .int (ls[d.toNat]), rfl, rfl, hL6, by omega, by omega, seqIndex_of d0 (by rw [List.length_map]; exact d1), ?_, acc.map V.int, ?_, ?_, ?_, acc ++ [ls[d.toNat]], ls.eraseIdx d.toNat, ?_, ?_, ?_, ?_, ?_⟩
      · rw [List.getElem?_map, List.getElem?_eq_getElem hd]
        rfl
      · rw [upd_ne (Ne.symm nlD)]
        exact hD6
      · rw [List.length_map]
        exact small1000 (by omega)
      · exact ((dr.trans D6).put nl0 nlw).put nD0 nDw
      · rw [upd_ne nlD, upd_same, map_erase]
      · rw [upd_same, List.map_append]
        rfl
      · rw [List.length_append, la]
        rfl
      · rw [List.length_eraseIdx_of_lt hd]
        omega
      · refine List.Perm.trans ?_ pm
        rw [List.append_assoc]
        exact List.Perm.append_left acc (erase_perm ls _ hd)
    · obtain ⟨E5, acc, ls, hL, hD, la, ll, pm⟩ := p
      refine ⟨D, acc, rfl, .inl (.inl hD), by omega, fun ps lp perm rising nlp => ?_⟩
      have accb : ∀ z ∈ acc, 0 ≤ z ∧ z < many := fun z hz => rngI_mem (pm.mem_iff.mp (List.mem_append_left _ hz))
      have psb : ∀ z ∈ ps, 0 ≤ z ∧ z < many := fun z hz => accb z (perm.mem_iff.mp hz)
      have psl : ps.length = size.toNat := by rw [perm.length_eq, la]
      have nlpw := E5.2.new nlp
      have nlp0 : H lp = none := E5.free hW nlp
      have E6 := E5.put (o := .lst (ps.map V.int)) nlp0 nlpw
      have hp6 : upd H5 lp (.lst (ps.map V.int)) lp = some (.lst (ps.map V.int)) := upd_same
      generalize upd H5 lp (.lst (ps.map V.int)) = H6 at E6 hp6
      have anod : acc.Nodup := (List.nodup_append.mp (pm.nodup_iff.mpr (rngI_nodup many))).1
      have psn : ps.Nodup := perm.nodup_iff.mpr anod
      have prise := rise_of rising psn
      clear hL hD la ll pm accb perm nD nDw nD0 nlD hl4
      -- every
      refine ⟨.int hues, rfl, .int size, rfl, hues, size, rfl, by omega, h4, by omega, by omega, ?_⟩
      obtain ⟨e2, e64⟩ := pow_wish h2 h4 z1 z3
      generalize hues ^ size.toNat = every at e2 e64
      -- count
      refine ⟨.ref wl, rfl, .int every, rfl, every, 2, rfl, rfl, ⟨by decide, by decide⟩, 1, every / 2, rfl, .int every, rfl, .int every, rfl, 2, every, rfl, (by show 4 ≤ sizeLine; decide), fun lt nlt => ?_⟩
      obtain ⟨c, hc, c1, c64⟩ : ∃ c, atI [V.int (if every / 2 > 1 then every / 2 else 1), V.int every, V.int 2, V.int (if every < 2 then every else 2)] (if 3 < full then 3 else full) = some (.int c) ∧ 1 ≤ c ∧ c ≤ 64 := by
        have : (if 3 < full then 3 else full) = 0 ∨ (if 3 < full then 3 else full) = 1 ∨ (if 3 < full then 3 else full) = 2 ∨ (if 3 < full then 3 else full) = 3 := by split <;> omega
        rcases this with e | e | e | e <;> rw [e]
        · exact ⟨_, atI_nat (j := 0) rfl, by split <;> omega, by split <;> omega⟩
        · exact ⟨_, atI_nat (j := 1) rfl, by omega, by omega⟩
        · exact ⟨_, atI_nat (j := 2) rfl, by omega, by omega⟩
        · exact ⟨_, atI_nat (j := 3) rfl, by split <;> omega, by split <;> omega⟩
      have slt := same_upd (o := .lst [V.int (if every / 2 > 1 then every / 2 else 1), V.int every, V.int 2, V.int (if every < 2 then every else 2)]) nlt
      have E7 := E6.same slt
      refine ⟨.int full, rfl, full, 3, rfl, lt, _, _, _, rfl, rfl, .inl (.inl upd_same), hc, wl, cl, c, rfl, E7.2, c1, log_small (by omega) (by omega), fun H8 ct D8 c0 c2 => ⟨1, ct, rfl, rfl, ?_⟩⟩
      have E8 := E7.trans D8
      have hp8 := D8.1 lp _ nlpw.1 nlpw.2 (slt _ _ hp6)
      have ct1 : 1 ≤ 1 + ct := by omega
      dsimp only
      generalize 1 + ct = count at ct1
      clear hc c1 c64 c0 c2 E7 slt nlt
      -- step, rows, at
      refine ⟨.ref wl, rfl, .int every, rfl, wl, cl, every, rfl, E8.2, by omega, log_small (by omega) (by omega), fun H9 st D9 st0 _ => ⟨1, st, rfl, rfl, ?_⟩⟩
      have E9 := E8.trans D9
      have hp9 := D9.1 lp _ nlpw.1 nlpw.2 hp8
      have st1 : 0 ≤ 1 + st := by omega
      dsimp only
      generalize 1 + st = step at st1
      refine ⟨(by show 0 ≤ sizeLine; decide), fun lr nlr => ?_⟩
      have nlrw := E9.2.new nlr
      have nlr0 : H lr = none := E9.free hW nlr
      have nrp : lr ≠ lp := (ne_of_none hp9 nlr).symm
      have E10 := E9.put (o := .lst []) nlr0 nlrw
      have hp10 : upd H9 lr (.lst []) lp = some (.lst (ps.map V.int)) := by rw [upd_ne (Ne.symm nrp)]; exact hp9
      have hr10 : upd H9 lr (.lst []) lr = some (.lst []) := upd_same
      generalize upd H9 lr (.lst []) = H10 at E10 hp10 hr10
      refine ⟨.ref wl, rfl, .int every, rfl, wl, cl, every, rfl, E10.2, by omega, log_small (by omega) (by omega), fun H11 at0 D11 a0 a1 => ?_⟩
      have E11 := E10.trans D11
      have hp11 := D11.1 lp _ nlpw.1 nlpw.2 hp10
      have hr11 := D11.1 lr _ nlrw.1 nlrw.2 hr10
      -- the rows
      refine ⟨.int count, rfl, .int every, rfl, count, every, rfl, _, rfl, by split <;> omega, by split <;> omega, ?_⟩
      obtain ⟨n1, n64⟩ : 1 ≤ (if every < count then every else count).toNat ∧ (if every < count then every else count).toNat ≤ 64 := by split <;> omega
      generalize (if every < count then every else count).toNat = turns at n1 n64
      refine for_range (lo := 0) (n := turns) (fun i σ H12 => Drawn wl cl H H12 ∧ H12 lp = some (.lst (ps.map V.int)) ∧ (∃ (ts : List Addr) (rws : List (List Int)), H12 lr = some (.lst (ts.map V.ref)) ∧ ts.length = i ∧ Paired (IsRow H12) ts rws ∧ ∀ r ∈ rws, r.length = ps.length ∧ ∀ h ∈ r, 0 ≤ h ∧ h < hues) ∧
        ∃ at' y13 y14 y15 y16, 0 ≤ at' ∧ at' < every ∧ σ = [some (.ref wl), some (.int many), some (.int hues), some (.int full), some (.bl alone), some (.ref l), some (.int size), some (.ref lp), some (.int every), some (.int count), some (.int step), some (.ref lr), some (.int at'), y13, y14, y15, y16, none])
        ⟨E11, hp11, ⟨[], [], hr11, rfl, .nil, fun _ h => nomatch h⟩, at0, none, none, none, none, a0, a1, rfl⟩ (fun i σ H12 hi p => ?_) (fun σ H12 p => ?_)
      · obtain ⟨E12, hp12, ⟨ts, rws, hr12, tl, pr, gd⟩, at', y13, y14, y15, y16, b0, b1, rfl⟩ := p
        refine ⟨(by show 0 ≤ sizeLine; decide), fun lw nlw2 => ?_⟩
        have nw := E12.2.new nlw2
        have nw0 : H lw = none := E12.free hW nlw2
        have nwp : lw ≠ lp := (ne_of_none hp12 nlw2).symm
        have nwr : lw ≠ lr := (ne_of_none hr12 nlw2).symm
        have sw := same_upd (o := .lst []) nlw2
        have E13 := E12.same sw
        refine ⟨.int at', rfl, .ref lp, rfl, lp, rfl, ⟨_, .inl (.inl (sw _ _ hp12))⟩, ?_⟩
        refine for_list (K := K) (a := lp) (xs := ps.map V.int) (fun j σ H14 => (∀ b o, b ≠ lw → upd H12 lw (.lst []) b = some o → H14 b = some o) ∧ Well H14 wl cl ∧ (∃ row : List Int, H14 lw = some (.lst (row.map V.int)) ∧ row.length = j ∧ ∀ h ∈ row, 0 ≤ h ∧ h < hues) ∧
          ∃ num y16, 0 ≤ num ∧ σ = [some (.ref wl), some (.int many), some (.int hues), some (.int full), some (.bl alone), some (.ref l), some (.int size), some (.ref lp), some (.int every), some (.int count), some (.int step), some (.ref lr), some (.int at'), some (.int (0 + (i : Int))), some (.ref lw), some (.int num), y16, none])
          ⟨fun _ _ _ e => e, E13.2, ⟨[], upd_same, rfl, fun _ h => nomatch h⟩, at', y16, b0, rfl⟩ (fun j σ H14 _ p => .inl (.inl (p.1 lp _ (Ne.symm nwp) (sw _ _ hp12)))) (fun j x σ H14 hx p => ?_) (fun σ H14 p => ?_)
        · obtain ⟨kp, we, ⟨row, hrow, rl, rb⟩, num, z16, nn, rfl⟩ := p
          have hj : j < ps.length := by
            have := (List.getElem?_eq_some_iff.mp hx).1
            rw [List.length_map] at this
            exact this
          refine ⟨.ref lw, rfl, .inl ⟨rfl, _, .inl (.inl hrow)⟩, .int num, rfl, .int hues, rfl, num, hues, rfl, rfl, (by show 0 < hues; omega), lw, _, _, rfl, rfl, hrow, ?_, ?_⟩
          · rw [List.length_map]
            exact small1000 (by omega)
          · refine ⟨.int num, rfl, .int hues, rfl, num, hues, rfl, rfl, ⟨by omega, by omega⟩, ?_, we.put nw, ⟨row ++ [num % hues], ?_, ?_, ?_⟩, num / hues, _, Int.ediv_nonneg nn (by omega), rfl⟩
            · intro b o n e
              rw [upd_ne n]
              exact kp b o n e
            · rw [upd_same, List.map_append]
              rfl
            · rw [List.length_append, rl]
              rfl
            · intro h hh
              rcases List.mem_append.mp hh with hh | hh
              · exact rb h hh
              · rw [List.mem_singleton.mp hh]
                exact ⟨Int.emod_nonneg _ (by omega), Int.emod_lt_of_pos _ (by omega)⟩
        · obtain ⟨kp, we, ⟨row, hrow, rl, rb⟩, num, z16, nn, rfl⟩ := p
          rw [List.length_map] at rl
          have hr14 : H14 lr = some (.lst (ts.map V.ref)) := kp lr _ (Ne.symm nwr) (sw _ _ hr12)
          have hp14 : H14 lp = some (.lst (ps.map V.int)) := kp lp _ (Ne.symm nwp) (sw _ _ hp12)
          have E14 : Drawn wl cl H H14 := ⟨fun b o n1' n2' e => kp b o (ne_of_none e nw0) (sw _ _ (E12.1 b o n1' n2' e)), we⟩
          refine ⟨.ref lr, rfl, .inl ⟨rfl, _, .inl (.inl hr14)⟩, .ref lw, rfl, lw, _, rfl, .inl ⟨.inl (.inl hrow), fun t nt => ?_⟩⟩
          have st := same_upd (o := .tup (row.map V.int)) nt
          have ntr : t ≠ lr := (ne_of_none hr14 nt).symm
          refine ⟨lr, ts.map V.ref, .ref t, rfl, rfl, st _ _ hr14, ?_, ?_⟩
          · rw [List.length_map, tl]
            exact small1000 (by omega)
          have E15 : Drawn wl cl H (upd (upd H14 t (.tup (row.map V.int))) lr (.lst (ts.map V.ref ++ [.ref t]))) := (E14.same st).put nlr0 nlrw
          have tups15 : Tups H12 (upd (upd H14 t (.tup (row.map V.int))) lr (.lst (ts.map V.ref ++ [.ref t]))) := fun b xs e => by
            have nb : b ≠ lr := fun z => by rw [z, hr12] at e; cases e
            have nb2 : b ≠ lw := fun z => by rw [z, nlw2] at e; cases e
            rw [upd_ne nb]
            exact st _ _ (kp b _ nb2 (sw _ _ e))
          have isr : IsRow (upd (upd H14 t (.tup (row.map V.int))) lr (.lst (ts.map V.ref ++ [.ref t]))) t row := by
            show upd _ lr _ t = _
            rw [upd_ne ntr]
            exact upd_same
          have pr15 := (pairedMap (fun _ _ e => tups15 _ _ e) pr).snoc isr
          have hp15 : upd (upd H14 t (.tup (row.map V.int))) lr (.lst (ts.map V.ref ++ [.ref t])) lp = some (.lst (ps.map V.int)) := by
            rw [upd_ne (Ne.symm nrp)]
            exact st _ _ hp14
          have hr15 : upd (upd H14 t (.tup (row.map V.int))) lr (.lst (ts.map V.ref ++ [.ref t])) lr = some (.lst ((ts ++ [t]).map V.ref)) := by
            rw [upd_same, List.map_append]
            rfl
          generalize upd (upd H14 t (.tup (row.map V.int))) lr (.lst (ts.map V.ref ++ [.ref t])) = H15 at E15 pr15 hp15 hr15
          have gd15 : ∀ r ∈ rws ++ [row], r.length = ps.length ∧ ∀ h ∈ r, 0 ≤ h ∧ h < hues := fun r hr => by
            rcases List.mem_append.mp hr with hr | hr
            · exact gd r hr
            · rw [List.mem_singleton.mp hr]
              exact ⟨rl, rb⟩
          refine ⟨.int at', rfl, .int step, rfl, at', step, rfl, rfl, .int every, rfl, at' + step, every, rfl, rfl, (by show 0 < every; omega), .bl alone, rfl, alone, rfl, ?_⟩
          have m0 := Int.emod_nonneg (at' + step) (show every ≠ 0 by omega)
          have m1' := Int.emod_lt_of_pos (at' + step) (show 0 < every by omega)
          refine ite2 (fun _ => ?_) (fun _ => ?_)
          · refine ⟨.ref wl, rfl, .int every, rfl, wl, cl, every, rfl, E15.2, by omega, log_small (by omega) (by omega), fun H16 an D16 an0 an1 => ?_⟩
            exact ⟨E15.trans D16, D16.1 lp _ nlpw.1 nlpw.2 hp15, ⟨ts ++ [t], rws ++ [row], D16.1 lr _ nlrw.1 nlrw.2 hr15, by rw [List.length_append, tl]; rfl, pairedMap (fun _ _ e => D16.tups E15.2 _ _ e) pr15, gd15⟩, an, _, _, _, _, an0, an1, rfl⟩
          · exact ⟨E15, hp15, ⟨ts ++ [t], rws ++ [row], hr15, by rw [List.length_append, tl]; rfl, pr15, gd15⟩, _, _, _, _, _, m0, m1', rfl⟩
      · obtain ⟨E12, hp12, ⟨ts, rws, hr12, tl, pr, gd⟩, at', y13, y14, y15, y16, b0, b1, rfl⟩ := p
        -- found
        refine ⟨(by show 0 ≤ sizeLine; decide), fun lf nlf => ?_⟩
        have nf := E12.2.new nlf
        have nf0 : H lf = none := E12.free hW nlf
        have nfp : lf ≠ lp := (ne_of_none hp12 nlf).symm
        have sf := same_upd (o := .lst []) nlf
        have E13 := E12.same sf
        have pr13 := pairedMap (fun _ _ e => sf _ _ e) pr
        generalize hH13 : upd H12 lf (.lst []) = H13 at sf E13 pr13
        have hf13 : H13 lf = some (.lst []) := by rw [← hH13]; exact upd_same
        have rows_at : ∀ t ∈ ts, ∃ r ∈ rws, IsRow H13 t r := fun t ht => by
          obtain ⟨i, hi, e⟩ := List.getElem_of_mem ht
          obtain ⟨r, hr, is⟩ := pairedGetL pr13 (List.getElem?_eq_getElem hi)
          exact ⟨r, List.mem_of_getElem? hr, e ▸ is⟩
        refine ⟨.ref lr, rfl, lr, ts, rowAt H13, ps.length, hues, rfl, .inl (.inl (sf _ _ hr12)), by omega, fun t ht => ?_, fun ts' so pm pw nso => ?_⟩
        · obtain ⟨r, hr, is⟩ := rows_at t ht
          rw [rowAt_of is]
          exact ⟨is, (gd r hr).1, (gd r hr).2⟩
        have ssv := same_upd (o := .lst (ts'.map V.ref)) nso
        have nfs : lf ≠ so := ne_of_none hf13 nso
        have E14 := E13.same ssv
        refine ⟨so, rfl, ⟨_, .inl (.inl upd_same)⟩, ?_⟩
        refine for_list (K := K) (a := so) (xs := ts'.map V.ref) (fun i σ H15 => (∀ b o, b ≠ lf → upd H13 so (.lst (ts'.map V.ref)) b = some o → H15 b = some o) ∧ Well H15 wl cl ∧ (∃ (fs : List Addr) (frs : List (List Int)), H15 lf = some (.lst (fs.map V.ref)) ∧ fs.length ≤ i ∧ (1 ≤ i → 1 ≤ fs.length) ∧ Paired (IsRow H15) fs frs ∧ frs.Nodup ∧ ∀ r ∈ frs, r.length = ps.length ∧ ∀ h ∈ r, 0 ≤ h ∧ h < hues) ∧
          ∃ z13 z14 z15 z16, σ = [some (.ref wl), some (.int many), some (.int hues), some (.int full), some (.bl alone), some (.ref l), some (.int size), some (.ref lp), some (.int every), some (.int count), some (.int step), some (.ref lr), some (.int at'), z13, z14, z15, z16, some (.ref lf)])
          ⟨fun _ _ _ e => e, E14.2, ⟨[], [], ssv _ _ hf13, Nat.le_refl _, fun h => absurd h (by decide), .nil, List.nodup_nil, fun _ h => nomatch h⟩, _, _, _, _, rfl⟩ (fun i σ H15 _ p => .inl (.inl (p.1 so _ (Ne.symm nfs) upd_same))) (fun i x σ H15 hx p => ?_) (fun σ H15 p => ?_)
        · obtain ⟨kp, we, ⟨fs, frs, hf15, fl, fp, pf, nfr, gf⟩, z13, z14, z15, z16, rfl⟩ := p
          rw [List.getElem?_map] at hx
          cases et : ts'[i]? with
          | none => rw [et] at hx; cases hx
          | some t =>
            rw [et] at hx
            cases hx
            have tm : t ∈ ts := pm.mem_iff.mp (List.mem_of_getElem? et)
            obtain ⟨r, hr, is⟩ := rows_at t tm
            have it : i < ts'.length := (List.getElem?_eq_some_iff.mp et).1
            have tl' : ts'.length = turns := by rw [pm.length_eq, tl]
            have is15 : IsRow H15 t r := kp t _ (fun z => by rw [z] at is; exact absurd (is.symm.trans hf13) (fun z => by cases z)) (ssv _ _ is)
            have fineR : ∀ r', (r'.length = ps.length ∧ ∀ h ∈ r', 0 ≤ h ∧ h < hues) → Fine (rowD r') 2 64 := fun r' g => fine_row (fun z hz => ⟨(g.2 z hz).1, by have := (g.2 z hz).2; omega⟩) (by have := g.1; omega)
            refine ⟨.ref t, rfl, .ref lf, rfl, rowD r, frs.map rowD, dpRow is15, .lst (.inl (.inl hf15)) (dpRows pf), (fineR r (gd r hr)).shaped (by decide), (Fine.list (fineAll_map frs fun r' hr' => fineR r' (gf r' hr'))).shaped (by decide), _, rfl, ?_⟩
            rw [anyRows]
            refine ite2 (fun ee => ?_) (fun e => ?_)
            · have ni : r ∉ frs := fun z => by rw [decide_eq_true z] at ee; exact absurd ee (by decide)
              refine ⟨.ref lf, rfl, .inl ⟨rfl, _, .inl (.inl hf15)⟩, .ref t, rfl, lf, _, _, rfl, rfl, hf15, ?_, ?_, we.put nf, ⟨fs ++ [t], frs ++ [r], ?_, ?_, fun _ => ?_, ?_, List.nodup_append.mpr ⟨nfr, List.nodup_cons.mpr ⟨(fun z => nomatch z), List.nodup_nil⟩, fun a ha b hb z => ni (by rw [List.mem_singleton.mp hb] at z; exact z ▸ ha)⟩, ?_⟩, _, _, _, _, rfl⟩
              · rw [List.length_map]
                exact small1000 (by omega)
              · intro b o n e
                rw [upd_ne n]
                exact kp b o n e
              · rw [upd_same, List.map_append]
                rfl
              · rw [List.length_append]
                exact Nat.succ_le_succ fl
              · rw [List.length_append]
                exact Nat.le_add_left _ _
              · have tu : Tups H15 (upd H15 lf (.lst (fs.map V.ref ++ [.ref t]))) := tups_upd fun xs z => by rw [hf15] at z; cases z
                exact (pairedMap (fun _ _ e => tu _ _ e) pf).snoc (tu _ _ is15)
              · intro r' hr'
                rcases List.mem_append.mp hr' with h | h
                · exact gf r' h
                · rw [List.mem_singleton.mp h]
                  exact gd r hr
            · refine ⟨kp, we, ⟨fs, frs, hf15, by omega, fun _ => ?_, pf, nfr, gf⟩, _, _, _, _, rfl⟩
              have e2 : r ∈ frs := by
                by_cases z : r ∈ frs
                · exact z
                · exact absurd (by simp [z]) e
              have := List.length_pos_of_mem e2
              rw [pairedLen pf]
              exact this
        · obtain ⟨kp, we, ⟨fs, frs, hf15, fl, fp, pf, nfr, gf⟩, z13, z14, z15, z16, rfl⟩ := p
          rw [List.length_map, pm.length_eq, tl] at fl fp
          have hp15 : H15 lp = some (.lst (ps.map V.int)) := kp lp _ (Ne.symm nfp) (ssv _ _ (sf _ _ hp12))
          have E15 : Drawn wl cl H H15 := ⟨fun b o n1' n2' e => kp b o (ne_of_none e nf0) (ssv _ _ (E13.1 b o n1' n2' e)), we⟩
          refine ⟨.ref lp, rfl, lp, _, rfl, .inl ⟨.inl (.inl hp15), fun t1 nt1 => ?_⟩⟩
          have q1 := same_upd (o := .tup (ps.map V.int)) nt1
          refine ⟨.ref lf, rfl, lf, _, rfl, .inl ⟨.inl (.inl (q1 _ _ hf15)), fun t2 nt2 => ?_⟩⟩
          have q2 := q1.trans (same_upd (o := .tup (fs.map V.ref)) nt2)
          refine ⟨(by show 2 ≤ sizeLine; decide), fun wa nwa => ?_⟩
          have q3 := same_upd (o := .tup [.ref t1, .ref t2]) nwa
          have q4 := q2.trans q3
          refine q _ wa (ps, frs) (E15.same q4) ⟨t1, t2, fs, upd_same, q3 _ _ (same_upd nt2 _ _ upd_same), q3 _ _ upd_same, pairedMap (fun _ _ e => q4 _ _ e) pf⟩ ⟨?_, ?_, psb, ?_, ?_, gf⟩ ⟨prise, nfr⟩
          · show 1 ≤ ps.length
            omega
          · show ps.length ≤ 3
            omega
          · show 1 ≤ frs.length
            rw [← pairedLen pf]
            exact fp n1
          · show frs.length ≤ 64
            rw [← pairedLen pf]
            omega
end
end Rd

set_option Elab.async false
set_option linter.all false
set_option maxRecDepth 100000
set_option maxHeartbeats 4000000
namespace Rd
open PySem PySem.Spec PyProof.Rows L2 Dt
abbrev sRid : Stmt := topS 41
abbrev nRid : List Str := ["well", "most_places", "most_wishes", "hues", "most", "many", "same", "wishes", "k", "wish"]
theorem scRid : FnScope nRid ["well", "most_places", "most_wishes"] (defScope sRid) := ⟨rfl, rfl, rfl, by decide +kernel, rfl, by decide +kernel, by decide +kernel⟩
theorem eqv_list_nil (d : PyData) (ds : List PyData) : PyData.eqv (.list (d :: ds)) (.list []) = false := by simp [PyData.eqv, PyData.eqvAll]
theorem eqv_list_nn : PyData.eqv (.list []) (.list []) = true := by simp [PyData.eqv, PyData.eqvAll]
theorem eqv_tup_nil (d : PyData) (ds : List PyData) : PyData.eqv (.tuple (d :: ds)) (.tuple []) = false := by simp [PyData.eqv, PyData.eqvAll]
theorem eqv_tup_nn : PyData.eqv (.tuple []) (.tuple []) = true := by simp [PyData.eqv, PyData.eqvAll]
theorem dict_hues {h : Int} (h0 : 0 ≤ h) (h2 : h ≤ 2) : ∃ m, valV (mergeK [] [((Sum.inl 2 : Key), V.int 6), (Sum.inl 3, .int 5), (Sum.inl 4, .int 4)]) (Sum.inl (2 + h)) = some (.int m) ∧ 1 ≤ m ∧ m ≤ 6 ∧ ∀ k : Int, 1 ≤ k → k ≤ m → (2 + h) ^ k.toNat ≤ 256 := by
  have all : ∀ a : Nat, a < 3 → ∀ b : Nat, b ≤ 6 - a → ((2 + a : Nat) : Int) ^ b ≤ 256 := by decide +kernel
  have : h = 0 ∨ h = 1 ∨ h = 2 := by omega
  rcases this with rfl | rfl | rfl
  · exact ⟨6, by decide, by decide, by decide, fun k k1 k2 => all 0 (by decide) k.toNat (by omega)⟩
  · exact ⟨5, by decide, by decide, by decide, fun k k1 k2 => all 1 (by decide) k.toNat (by omega)⟩
  · exact ⟨4, by decide, by decide, by decide, fun k k1 k2 => all 2 (by decide) k.toNat (by omega)⟩
def spRid : Sp := fun vs H Q _ => ∃ (wl cl : Addr) (mw : Int), vs = [.ref wl, .int 6, .int mw] ∧ Well H wl cl ∧ 0 ≤ mw ∧ mw ≤ 8 ∧
  ∀ H' ri many hues wds, Drawn wl cl H H' → IsRid H' ri many hues wds → GoodR many hues wds → (∀ wd ∈ wds, Neat wd) → (wds.length : Int) ≤ mw → hues ^ many.toNat ≤ 256 → Q (.ref ri) H'
structure TxtR (P : Program) (w : World) (K : PySem.W.Frag) (mg : Str → Option Value) (base : Heap) : Prop extends TxtW P w K mg base where
  c__law_wish : Cal P w K mg base 2 "_law_wish" ["well", "many", "hues"] spWis
section
variable {P : Program} {w : World} {K : PySem.W.Frag} {mg : Str → Option Value} {base : Heap}
set_option maxHeartbeats 16000000 in
theorem ok_rid {f : Addr} {fd : FuncData} {k : Nat} (F : Fun K "_law_riddle" "_law_riddle" sRid f fd) (T : TxtR P w K mg base) : FnOk P w K mg base CX0 (k + 3) f fd ["well", "most_places", "most_wishes"] spRid := by
  refine F.ok scRid (fun vs H Q E h => ?_) (fun cdv A outer s H vs Q E hr h => ?_)
  · obtain ⟨wl, cl, mw, rfl, _⟩ := h
    rfl
  · obtain ⟨wl, cl, mw, rfl, hW, w0, w8, q⟩ := h
    have hr1 : Room 1 (A.deeper (envOfC (Str.ofString "_law_riddle") (defScope sRid) s.heap.objs.size f cdv)) := hr.mono (by omega)
    have hr2 : Room 2 (A.deeper (envOfC (Str.ofString "_law_riddle") (defScope sRid) s.heap.objs.size f cdv)) := hr.mono (by omega)
    have hu1 := hu_of hr
    refine ⟨_, (pss_cons (ps_set (i := 3) scRid.nd rfl (Or.inl rfl) (pe_op op_add pe_int (pe_ix ix_list (pe_lst (pa_cons pe_int (pa_cons pe_int (pa_cons pe_int (pa_cons pe_int pa_nil))))) (pe_cal T.c__law_draw hr1 (by rfl) (pa_cons (pv 0) (pa_cons pe_int pa_nil))) (fun _ _ => rfl))))
  (pss_cons (ps_set (i := 4) scRid.nd rfl (Or.inl rfl) (pe_callB (call_min2 rfl) (by rfl) T.m_min (by decide +kernel) (pa_cons (pv 1) (pa_cons (pe_dget hu1 (pe_disp (pps_cons pe_int pe_int (pps_cons pe_int pe_int (pps_cons pe_int pe_int pps_nil))) (by rfl) (by rfl) (fun z => by cases z) (by decide)) (pv 3) (fun _ _ => rfl)) pa_nil))))
  (pss_cons (ps_set (i := 5) scRid.nd rfl (Or.inl rfl) (pe_op op_add pe_int (pe_cal T.c__law_draw hr1 (by rfl) (pa_cons (pv 0) (pa_cons (pv 4) pa_nil)))))
  (pss_cons (ps_set (i := 6) scRid.nd rfl (Or.inl rfl) (pe_cal T.c__law_draw hr1 (by rfl) (pa_cons (pv 0) (pa_cons pe_int pa_nil))))
  (pss_cons (ps_set (i := 7) scRid.nd rfl (Or.inl rfl) (pe_lst pa_nil))
  (pss_cons (ps_for PassesOwn.never rfl (pi_range1 (by rfl) T.m_range (pa_cons (pe_cal T.c__law_draw hr1 (by rfl) (pa_cons (pv 0) (pa_cons (pe_op op_add (pv 2) pe_int) pa_nil))) pa_nil)) (pg_name (i := 8) scRid.nd rfl (Or.inl rfl))
  (pss_cons (ps_set (i := 9) scRid.nd rfl (Or.inl rfl) (pe_cal T.c__law_wish hr2 (by rfl) (pa_cons (pv 0) (pa_cons (pv 5) (pa_cons (pv 3) pa_nil)))))
  (C8.pss_cut (ps_if (PW.pt (pw_and (pt_cmpR op_eq (pv 6) (pv 8) (nomark _)) (pw_and1 (pt_cmpR (op_neD hr.units) (pv 7) (pe_lst pa_nil) (nomark _)))))
  (pss_one (ps_set (i := 9) scRid.nd rfl (Or.inl rfl) (pe_ix ix_list (pv 7) pe_int (fun _ _ => rfl)))) pss_nil)
  (pss_one (ps_expr (pe_bm PySem.F.plainAttrs_list PySem.F.slot_list_append PySem.F.type_list_append mt_append (pv 7) (pa_cons (pv 9) pa_nil)))))))
  (pss_one (ps_ret (pe_tup (pa_cons (pv 5) (pa_cons (pv 3) (pa_cons (pe_callTy call_tuple_of (by rfl) T.m_tuple (by decide +kernel) (pa_cons (pv 7) pa_nil)) pa_nil)))))))))))), ?_⟩
    -- hues
    refine ⟨(by show 4 ≤ sizeLine; decide), fun l4 nl4 => ?_⟩
    have s4 := same_upd (o := .lst [V.int 0, .int 0, .int 1, .int 2]) nl4
    refine ⟨.ref wl, rfl, wl, cl, 4, rfl, hW.same s4, by decide, by decide, fun H1 d D1 d0 d1 => ?_⟩
    have E1 : Drawn wl cl H H1 := (Drawn.refl hW |>.same s4).trans D1
    have n4 := (hW.new nl4)
    obtain ⟨hx, hat, hx0, hx2⟩ : ∃ hx, atI [V.int 0, .int 0, .int 1, .int 2] d = some (.int hx) ∧ 0 ≤ hx ∧ hx ≤ 2 := by
      have : d = 0 ∨ d = 1 ∨ d = 2 ∨ d = 3 := by omega
      rcases this with rfl | rfl | rfl | rfl
      · exact ⟨0, atI_nat (j := 0) rfl, by decide, by decide⟩
      · exact ⟨0, atI_nat (j := 1) rfl, by decide, by decide⟩
      · exact ⟨1, atI_nat (j := 2) rfl, by decide, by decide⟩
      · exact ⟨2, atI_nat (j := 3) rfl, by decide, by decide⟩
    refine ⟨l4, _, d, .int hx, rfl, rfl, .inl (.inl (D1.1 l4 _ n4.1 n4.2 upd_same)), hat, 2, hx, rfl, rfl, ?_⟩
    -- most
    refine ⟨.int 6, rfl, fun dd ndd => ?_⟩
    obtain ⟨mm, hmm, mm1, mm6, msz⟩ := dict_hues hx0 hx2
    refine ⟨upd_same, [(Sum.inl 2, .int 6), (Sum.inl 3, .int 5), (Sum.inl 4, .int 4)], rfl, by decide, .int (2 + hx), rfl, dd, .int mm, rfl, ?_, 6, mm, rfl, ?_⟩
    · have z := DGet.k (k := Sum.inl (2 + hx)) (H := upd (upd H1 dd (.dK [])) dd (.dK (mergeK [] [((Sum.inl 2 : Key), V.int 6), (Sum.inl 3, .int 5), (Sum.inl 4, .int 4)]))) upd_same
      rw [hmm] at z
      exact z
    have ed : upd (upd H1 dd (.dK [])) dd (.dK (mergeK [] [((Sum.inl 2 : Key), V.int 6), (Sum.inl 3, .int 5), (Sum.inl 4, .int 4)])) = upd H1 dd (.dK (mergeK [] [((Sum.inl 2 : Key), V.int 6), (Sum.inl 3, .int 5), (Sum.inl 4, .int 4)])) := upd_upd
    have E2 := E1.same (same_upd (o := .dK (mergeK [] [((Sum.inl 2 : Key), V.int 6), (Sum.inl 3, .int 5), (Sum.inl 4, .int 4)])) ndd)
    rw [← ed] at E2
    generalize upd (upd H1 dd (.dK [])) dd (.dK (mergeK [] [((Sum.inl 2 : Key), V.int 6), (Sum.inl 3, .int 5), (Sum.inl 4, .int 4)])) = H2 at E2
    obtain ⟨o1, o6, om⟩ : 1 ≤ (if mm < 6 then mm else 6) ∧ (if mm < 6 then mm else 6) ≤ 6 ∧ (if mm < 6 then mm else 6) ≤ mm := by split <;> omega
    generalize (if mm < 6 then mm else 6) = most at o1 o6 om
    have msz2 : ∀ k : Int, 1 ≤ k → k ≤ most → (2 + hx) ^ k.toNat ≤ 256 := fun k a b => msz k a (by omega)
    clear msz hmm
    have hh2 : 2 ≤ 2 + hx := by omega
    have hh4 : 2 + hx ≤ 4 := by omega
    dsimp only
    generalize 2 + hx = hues at hh2 hh4 msz2
    -- many, same
    refine ⟨.ref wl, rfl, .int most, rfl, wl, cl, most, rfl, E2.2, by omega, log_small (by omega) (by omega), fun H3 mn D3 mn0 mn1 => ⟨1, mn, rfl, rfl, ?_⟩⟩
    have E3 := E2.trans D3
    have k1 : 1 ≤ 1 + mn := by omega
    have k6 : 1 + mn ≤ 6 := by omega
    have k256 := msz2 (1 + mn) (by omega) (by omega)
    dsimp only
    generalize 1 + mn = many at k1 k6 k256
    refine ⟨.ref wl, rfl, wl, cl, 6, rfl, E3.2, by decide, by decide, fun H4 sm D4 _ _ => ?_⟩
    have E4 := E3.trans D4
    refine ⟨(by show 0 ≤ sizeLine; decide), fun lw nlw => ?_⟩
    have nw := E4.2.new nlw
    have nw0 : H lw = none := E4.free hW nlw
    have E5 := E4.put (o := .lst []) nw0 nw
    have hw5 : upd H4 lw (.lst []) lw = some (.lst []) := upd_same
    generalize upd H4 lw (.lst []) = H5 at E5 hw5
    refine ⟨.ref wl, rfl, .int mw, rfl, mw, 1, rfl, rfl, wl, cl, mw + 1, rfl, E5.2, by omega, log_small (by omega) (by omega), fun H6 nn D6 n0 n1 => ⟨nn, rfl, by omega, by omega, ?_⟩⟩
    have E6 := E5.trans D6
    refine for_range (lo := 0) (n := nn.toNat) (fun i σ H7 => Drawn wl cl H H7 ∧ (∃ (was : List Addr) (wds : List WD), H7 lw = some (.lst (was.map V.ref)) ∧ was.length = i ∧ Paired (IsWish H7) was wds ∧ ∀ wd ∈ wds, Good many hues wd ∧ Neat wd) ∧
      ∃ y8 y9, σ = [some (.ref wl), some (.int 6), some (.int mw), some (.int hues), some (.int most), some (.int many), some (.int sm), some (.ref lw), y8, y9]) ⟨E6, ⟨[], [], D6.1 lw _ nw.1 nw.2 hw5, rfl, .nil, fun _ h => nomatch h⟩, none, none, rfl⟩ (fun i σ H7 hi p => ?_) (fun σ H7 p => ?_)
    · obtain ⟨E7, ⟨was, wds, hw7, wl7, pw, gd⟩, y8, y9, rfl⟩ := p
      refine ⟨.ref wl, rfl, .int many, rfl, .int hues, rfl, wl, cl, many, hues, rfl, E7.2, k1, k6, hh2, hh4, fun H8 wa wd D8 isw gw0 nt0 => ?_⟩
      have gw := And.intro gw0 nt0
      have E8 := E7.trans D8
      have hw8 := D8.1 lw _ nw.1 nw.2 hw7
      have pw8 := pairedMap (fun _ _ e => IsWish.mono (D8.tups E7.2) e) pw
      refine ⟨fun σ H9 => Drawn wl cl H H9 ∧ H9 lw = some (.lst (was.map V.ref)) ∧ Paired (IsWish H9) was wds ∧ ∃ wa wd, IsWish H9 wa wd ∧ (Good many hues wd ∧ Neat wd) ∧ σ = [some (.ref wl), some (.int 6), some (.int mw), some (.int hues), some (.int most), some (.int many), some (.int sm), some (.ref lw), some (.int (0 + (i : Int))), some (.ref wa)], ?_, ?_⟩
      · refine ⟨.int sm, rfl, .int (0 + (i : Int)), rfl, rfl, _, rfl, ite2 (fun _ => ?_) (fun _ => ?_)⟩
        · refine ⟨.ref lw, rfl, (by show 0 ≤ sizeLine; decide), fun le nle => ?_⟩
          have se := same_upd (o := .lst []) nle
          have fw : Fine (.list (wds.map wishD)) 5 100000 := (Fine.list (fineAll_map wds fun wd hwd => fine_wish (gd wd hwd).1 k6 hh4)).mono (by omega) (by
            have := pairedLen pw
            omega)
          refine ⟨.list (wds.map wishD), .list [], .lst (.inl (.inl (se _ _ hw8))) (dpWishes (pairedMap (fun _ _ e => IsWish.mono (tups_same se) e) pw8)), .lst (.inl (.inl upd_same)) .nil, fw.shaped (by decide), PySem.W.shaped_ints [], _, rfl, ?_⟩
          cases pw8 with
          | nil =>
            rw [List.map_nil, eqv_list_nn]
            refine iteF ?_
            exact ⟨E8.same se, se _ _ hw8, .nil, wa, wd, isw.mono (tups_same se), gw, rfl⟩
          | @cons wa0 wd0 was' wds' h0 t0 =>
            rw [List.map_cons, eqv_list_nil]
            refine iteT ?_
            refine ⟨.ref lw, rfl, lw, _, 0, .ref wa0, rfl, rfl, .inl (.inl (se _ _ hw8)), atI_nat (j := 0) rfl, ?_⟩
            exact ⟨E8.same se, se _ _ hw8, pairedMap (fun _ _ e => IsWish.mono (tups_same se) e) (.cons h0 t0), wa0, wd0, h0.mono (tups_same se), gd wd0 List.mem_cons_self, rfl⟩
        · exact ⟨E8, hw8, pw8, wa, wd, isw, gw, rfl⟩
      · intro σ H9 hm
        obtain ⟨E9, hw9, pw9, wa2, wd2, isw2, gw2, rfl⟩ := hm
        refine ⟨.ref lw, rfl, .inl ⟨rfl, _, .inl (.inl hw9)⟩, .ref wa2, rfl, lw, _, _, rfl, rfl, hw9, ?_, ?_⟩
        · rw [List.length_map, wl7]
          exact small1000 (by omega)
        have tu : Tups H9 (upd H9 lw (.lst (was.map V.ref ++ [.ref wa2]))) := tups_upd fun xs z => by rw [hw9] at z; cases z
        refine ⟨E9.put nw0 nw, ⟨was ++ [wa2], wds ++ [wd2], ?_, ?_, (pairedMap (fun _ _ e => IsWish.mono tu e) pw9).snoc (isw2.mono tu), ?_⟩, _, _, rfl⟩
        · rw [upd_same, List.map_append]
          rfl
        · rw [List.length_append, wl7]
          rfl
        · intro wd' h'
          rcases List.mem_append.mp h' with h' | h'
          · exact gd wd' h'
          · rw [List.mem_singleton.mp h']
            exact gw2
    · obtain ⟨E7, ⟨was, wds, hw7, wl7, pw, gd⟩, y8, y9, rfl⟩ := p
      refine ⟨.int many, rfl, .int hues, rfl, .ref lw, rfl, lw, _, rfl, .inl ⟨.inl (.inl hw7), fun wt nwt => ?_⟩⟩
      have st := same_upd (o := .tup (was.map V.ref)) nwt
      refine ⟨(by show 3 ≤ sizeLine; decide), fun ri nri => ?_⟩
      have sr := same_upd (o := .tup [.int many, .int hues, .ref wt]) nri
      refine q _ ri many hues wds ((E7.same st).same sr) ⟨wt, was, upd_same, sr _ _ upd_same, pairedMap (fun _ _ e => IsWish.mono (tups_same (st.trans sr)) e) pw⟩ ⟨k1, k6, hh2, hh4, ?_, fun wd h => (gd wd h).1⟩ (fun wd h => (gd wd h).2) ?_ k256
      · rw [← pairedLen pw]
        omega
      · rw [← pairedLen pw]
        omega
end
end Rd

set_option Elab.async false
set_option linter.all false
set_option maxRecDepth 100000
set_option maxHeartbeats 4000000
namespace Rd
open PySem PySem.Spec PyProof.Rows L2 Dt
abbrev sSwi : Stmt := topS 31
abbrev nSwi : List Str := ["wish", "places", "rows", "place", "row", "hue"]
theorem scSwi : FnScope nSwi ["wish"] (defScope sSwi) := ⟨rfl, rfl, rfl, by decide +kernel, rfl, by decide +kernel, by decide +kernel⟩
abbrev sSri : Stmt := topS 32
abbrev nSri : List Str := ["riddle", "many", "hues", "wishes", "wish"]
theorem scSri : FnScope nSri ["riddle"] (defScope sSri) := ⟨rfl, rfl, rfl, by decide +kernel, rfl, by decide +kernel, by decide +kernel⟩
def spSwi (AA Qs : List Addr) : Sp := fun vs H Q _ => ∃ (wa : Addr) (wd : WD) (many hues : Int), vs = [.ref wa] ∧ IsWish H wa wd ∧ Good many hues wd ∧ many ≤ 6 ∧ hues ≤ 4 ∧ Gx.Nests AA Qs H ∧
  ∀ H', NFr AA Qs H H' → Q (.str (wishT wd)) H'
structure TxtS70 (mg : Str → Option Value) : Prop where
  m_str : mg "str" = none
section
variable {P : Program} {w : World} {K : PySem.W.Frag} {mg : Str → Option Value} {base : Heap}
set_option maxHeartbeats 16000000 in
theorem ok_swi {f c Pt : Addr} {AA Qs : List Addr} {fd : FuncData} {k : Nat} (F : FunC K "show_wish" "show_wish" sSwi f fd (.ref c)) (TB : GxR.TabB base mg c Pt) (hP : Pt ∈ Qs) (T : TxtS70 mg) : FnOk P w K mg base CX0 (k + 6) f fd ["wish"] (spSwi AA Qs) := by
  refine F.ok scSwi (fun vs H Q E h => ?_) (fun A outer s H vs Q E hr h => ?_)
  · obtain ⟨wa, wd, many, hues, rfl, _⟩ := h
    rfl
  · obtain ⟨wa, wd, many, hues, rfl, isw, gw, m6, h4, hN, q⟩ := h
    refine ⟨_, (pss_cons (ps_set (i := 1) scSwi.nd rfl (Or.inl rfl) (Gx.pe_joinN (own := [("place", 3)]) (AA := AA) (g := gName 3) (tt := tYes) (te := fun _ => tCB (fun xs H Q => ∃ i : Int, xs = [.int i] ∧ i.natAbs.log2 < 1920 ∧ Q (.str (Str.ofString (toString i))) H) (tCons (tVar 3) tNil)) hr rfl scSwi.nd TB hP rfl (blkOk_by (own := [("place", 3)]) (N := nSwi) (sc := defScope sSwi) (by decide +kernel)) ⟨rfl, by decide +kernel, rfl⟩ pe_str (pi_tup (pe_ix ix_tup (pv 0) pe_int (fun _ _ => rfl)))
   (fun _ _ _ _ _ _ hA => (pg_name (i := 3) scSwi.nd rfl (Or.inl rfl))) (fun _ _ _ _ _ _ hA => pts_nil) (fun _ _ _ _ code _ hA => (pe_callTy call_str_int (by rfl) T.m_str (by decide +kernel) (pa_cons (pv 3) pa_nil)))))
  (pss_cons (ps_set (i := 2) scSwi.nd rfl (Or.inl rfl) (Gx.pe_joinN (own := [("row", 4)]) (AA := AA) (te := fun code => Gx.tJI (tC (.str (Str.ofString ""))) (iTup K (tVar 4)) (gName 5) tYes (tCB (fun xs H Q => ∃ i : Int, xs = [.int i] ∧ i.natAbs.log2 < 1920 ∧ Q (.str (Str.ofString (toString i))) H) (tCons (tVar 5) tNil)) [5] code) hr rfl scSwi.nd TB hP rfl (blkOk_by (own := [("row", 4)]) (N := nSwi) (sc := defScope sSwi) (by decide +kernel)) ⟨rfl, by decide +kernel, rfl⟩ pe_str (pi_tup (pe_ix ix_tup (pv 0) pe_int (fun _ _ => rfl)))
   (fun _ _ _ _ _ _ hA => (pg_name (i := 4) scSwi.nd rfl (Or.inl rfl))) (fun _ _ _ _ _ _ hA => pts_nil) (fun _ _ _ _ code _ hA => (Gx.pe_joinI (own := [("hue", 5)]) (g := gName 5) (tt := tYes) (te := tCB (fun xs H Q => ∃ i : Int, xs = [.int i] ∧ i.natAbs.log2 < 1920 ∧ Q (.str (Str.ofString (toString i))) H) (tCons (tVar 5) tNil)) hA rfl scSwi.nd TB rfl (blkOk_by (own := [("hue", 5)]) (N := nSwi) (sc := { kind := .function, names := [(".0", .local), ("row", .local)], isGenerator := true, isCoroutine := false }) (by decide +kernel)) ⟨rfl, by decide +kernel, rfl⟩ pe_str (pi_tup (pv 4))
   (fun _ _ _ _ _ _ hA => (pg_name (i := 5) scSwi.nd rfl (Or.inl rfl))) (fun _ _ _ _ _ _ hA => pts_nil) (fun _ _ _ _ code _ hA => (pe_callTy call_str_int (by rfl) T.m_str (by decide +kernel) (pa_cons (pv 5) pa_nil)))))))
  (pss_one (ps_ret (pe_joined (.cons pe_str (.cons (pe_fmt (pv 1)) (.cons pe_str (.cons (pe_fmt (pv 2)) .nil))))))))), ?_⟩
    obtain ⟨pa, ra, rs, i1, i2, i3, i4⟩ := id isw
    have rl := pairedLen i4
    have g3 := gw.three
    have g64 := gw.few
    have big : (300 : Nat) ≤ sizeLine := by decide
    -- places
    refine ⟨_, rfl, .ref wa, rfl, wa, _, 0, _, rfl, rfl, .inl (.inl i1), atI_nat (j := 0) rfl, pa, rfl, ⟨_, .inl (.inl i2)⟩, hN, fun c1 P1 H2 n2 => ?_⟩
    have F2 := (NFr.refl hN).nested hP n2
    have tu2 : Tups H H2 := F2.seqs.1
    refine Gx.tup_tup (K := K) (a := pa) (xs := wd.1.map V.int) (by rw [List.length_map]; omega) (fun i ys H3 => H3 = H2 ∧ ys = (wd.1.take i).map fun p => V.str (numT p)) ⟨rfl, rfl⟩ (fun i ys H3 _ p => .inl (.inl (by rw [p.1]; exact tu2 _ _ i2))) (fun i ys H3 p => by rw [p.2, List.length_map, List.length_take]; omega) (fun i x ys H3 hx p => ?_) (fun ys H3 p => ?_)
    · obtain ⟨p1, ep, rfl⟩ := map_get hx
      obtain ⟨rfl, rfl⟩ := p
      have pp := gw.pl p1 (List.mem_of_getElem? ep)
      refine ⟨rfl, yes_if ⟨.int p1, rfl, p1, rfl, num_small pp.1 (by omega), rfl, ?_⟩⟩
      rw [take_snoc ep, List.map_append]
      rfl
    obtain ⟨rfl, rfl⟩ := p
    have lp := len_places m6 gw.pl g3
    refine ⟨wd.1.map numT, by rw [List.length_map, List.take_length, List.map_map]; rfl, joinOk_of ?_, ?_⟩
    · have a := sum_le (wd.1.map numT) (·.length) 1 fun w hw => by
        obtain ⟨p, hp, rfl⟩ := List.mem_map.mp hw
        have := gw.pl p hp
        exact len_num (by omega) (by omega)
      have e : (Str.ofString " ").length = 1 := by decide +kernel
      rw [List.length_map] at a ⊢
      rw [e]
      omega
    -- rows
    refine ⟨_, rfl, .ref wa, rfl, wa, _, 1, _, rfl, rfl, .inl (.inl (tu2 _ _ i1)), atI_nat (j := 1) rfl, ra, rfl, ⟨_, .inl (.inl (tu2 _ _ i3))⟩, n2.nest, fun c' P' H3 n3 => ?_⟩
    have F3 := F2.nested hP n3
    refine Gx.tup_tup (K := K) (a := ra) (xs := rs.map V.ref) (by rw [List.length_map, rl]; omega) (fun i ys H4 => (NFr AA Qs H H4 ∧ H4 c' = some (Gx.CodeO c' P') ∧ GxR.TabG H4 P') ∧ ys = (wd.2.take i).map fun r => V.str (rowT r)) ⟨⟨F3, n3.code, n3.tab⟩, rfl⟩ (fun i ys H4 _ p => .inl (.inl (p.1.1.seqs.1 _ _ i3))) (fun i ys H4 p => by rw [p.2, List.length_map, List.length_take]; omega) (fun i x ys H4 hx p => ?_) (fun ys H4 p => ?_)
    · obtain ⟨r, er, rfl⟩ := map_get hx
      obtain ⟨⟨F4, hc4, tb4⟩, rfl⟩ := p
      obtain ⟨row, ew, hrow⟩ := pairedGetL i4 er
      have gro := gw.row row (List.mem_of_getElem? ew)
      have hrow4 : H4 r = some (.tup (row.map V.int)) := F4.seqs.1 _ _ hrow
      refine ⟨rfl, yes_if ⟨_, rfl, c', P', rfl, .ref r, rfl, r, rfl, ⟨_, .inl (.inl hrow4)⟩, hc4, tb4, fun H5 t5 => ?_⟩⟩
      have keep5 : ∀ b o, (∀ ps, o ≠ .tbl ps) → H4 b = some o → H5 b = some o := fun b o nt e => by
        rw [t5.2 b (fun z => by
          obtain ⟨ps, t1, _⟩ := tb4
          rw [z, t1] at e
          exact nt ps (Option.some.inj e).symm)]
        exact e
      have hrow5 := keep5 _ _ (fun _ z => by cases z) hrow4
      refine Gx.tup_tup (K := K) (a := r) (xs := row.map V.int) (by rw [List.length_map, gro.1]; omega) (fun j ys H6 => H6 = H5 ∧ ys = (row.take j).map fun p => V.str (numT p)) ⟨rfl, rfl⟩ (fun j ys H6 _ p => .inl (.inl (by rw [p.1]; exact hrow5))) (fun j ys H6 p => by rw [p.2, List.length_map, List.length_take]; omega) (fun j x ys H6 hx p => ?_) (fun ys H6 p => ?_)
      · obtain ⟨p1, ep, rfl⟩ := map_get hx
        obtain ⟨e6, rfl⟩ := p
        have pp := gro.2 p1 (List.mem_of_getElem? ep)
        refine ⟨rfl, yes_if ⟨.int p1, rfl, p1, rfl, num_small pp.1 (by omega), e6, ?_⟩⟩
        rw [take_snoc ep, List.map_append]
        rfl
      · obtain ⟨e6, rfl⟩ := p
        have lp := len_row h4 gro.2 (by omega)
        refine ⟨row.map numT, by rw [List.length_map, List.take_length, List.map_map]; rfl, joinOk_of ?_, ?_⟩
        · have a := sum_le (row.map numT) (·.length) 1 fun w hw => by
            obtain ⟨p, hp, rfl⟩ := List.mem_map.mp hw
            have := gro.2 p hp
            exact len_num (by omega) (by omega)
          have e : (Str.ofString "").length = 0 := by decide +kernel
          rw [List.length_map] at a ⊢
          rw [e]
          omega
        · rw [e6]
          refine ⟨⟨F4.tabbed n3.ne tb4 t5, keep5 _ _ (fun _ z => by cases z) hc4, t5.1⟩, ?_⟩
          rw [take_snoc ew, List.map_append]
          rfl
    obtain ⟨⟨F4, _, _⟩, rfl⟩ := p
    have lr := len_rows h4 gw
    refine ⟨wd.2.map rowT, by rw [List.length_map, rl, List.take_length, List.map_map]; rfl, joinOk_of ?_, ?_⟩
    · have a := sum_le (wd.2.map rowT) (·.length) 3 fun w hw => by
        obtain ⟨r, hr, rfl⟩ := List.mem_map.mp hw
        have := gw.row r hr
        exact len_row h4 (gw.row r hr).2 (by omega)
      have e : (Str.ofString " ").length = 1 := by decide +kernel
      rw [List.length_map] at a ⊢
      rw [e]
      omega
    -- the text
    have lw := len_wish m6 h4 gw
    unfold wishT at lw
    have l1 := len_app (((Str.empty ++ Str.ofString "wish ") ++ placesT wd.1) ++ Str.ofString ": ") (rowsT wd.2)
    have l2 := len_app ((Str.empty ++ Str.ofString "wish ") ++ placesT wd.1) (Str.ofString ": ")
    have l3 := len_app (Str.empty ++ Str.ofString "wish ") (placesT wd.1)
    refine ⟨_, rfl, (by omega : (Str.empty ++ Str.ofString "wish ").length ≤ sizeLine), .str (placesT wd.1), rfl, .inl ⟨placesT wd.1, rfl, by omega, _, rfl, (by omega : ((Str.empty ++ Str.ofString "wish ") ++ placesT wd.1).length ≤ sizeLine), _, rfl, (by omega : (((Str.empty ++ Str.ofString "wish ") ++ placesT wd.1) ++ Str.ofString ": ").length ≤ sizeLine), .str (rowsT wd.2), rfl, .inl ⟨rowsT wd.2, rfl, by omega, _, rfl, (by omega : ((((Str.empty ++ Str.ofString "wish ") ++ placesT wd.1) ++ Str.ofString ": ") ++ rowsT wd.2).length ≤ sizeLine), ?_⟩⟩⟩
    exact q _ F4
def spSri (AA Qs : List Addr) : Sp := fun vs H Q _ => ∃ (ri : Addr) (many hues : Int) (wds : List WD), vs = [.ref ri] ∧ IsRid H ri many hues wds ∧ GoodR many hues wds ∧ Gx.Nests AA Qs H ∧
  ∀ H', NFr AA Qs H H' → Q (.str (ridT many hues wds)) H'
structure TxtS71 (P : Program) (w : World) (K : PySem.W.Frag) (mg : Str → Option Value) (base : Heap) (AA Qs : List Addr) : Prop where
  c_show_wish : Cal P w K mg base 6 "show_wish" ["wish"] (spSwi AA Qs)
set_option maxHeartbeats 16000000 in
theorem ok_sri {f : Addr} {AA Qs : List Addr} {fd : FuncData} {k : Nat} (F : Fun K "show_riddle" "show_riddle" sSri f fd) (T : TxtS71 P w K mg base AA Qs) : FnOk P w K mg base CX0 (k + 7) f fd ["riddle"] (spSri AA Qs) := by
  refine F.ok scSri (fun vs H Q E h => ?_) (fun cdv A outer s H vs Q E hr h => ?_)
  · obtain ⟨ri, many, hues, wds, rfl, _⟩ := h
    rfl
  · obtain ⟨ri, many, hues, wds, rfl, rid, gr, hN, q⟩ := h
    refine ⟨_, (pss_cons (ps_asg (pv 0) (pg_tup rfl (pgs_cons (pg_name (i := 1) scSri.nd rfl (Or.inl rfl)) (pgs_cons (pg_name (i := 2) scSri.nd rfl (Or.inl rfl)) (pgs_cons (pg_name (i := 3) scSri.nd rfl (Or.inl rfl)) pgs_nil)))))
  (pss_one (ps_ret (pe_join pe_str (pe_op op_cat (pe_lst (pa_cons (pe_joined (.cons pe_str (.cons (pe_fmt (pv 1)) (.cons pe_str (.cons (pe_fmt (pv 2)) .nil))))) pa_nil)) (pe_lc (te := tCall (spSwi AA Qs) [] E0 (tCons (tVar 4) tNil)) (own := [("wish", 4)]) rfl scSri.nd  (pi_tup (pv 3)) (blkOk_by (own := [("wish", 4)]) (N := nSri) (sc := defScope sSri) (by decide +kernel))
   (fun _ _ _ _ _ => (pg_name (i := 4) scSri.nd rfl (Or.inl rfl))) (fun _ _ _ _ _ => pts_nil) (fun _ _ _ _ _ => (pe_cal T.c_show_wish (hr.mono (by omega)) (by rfl) (pa_cons (pv 4) pa_nil))))))))), ?_⟩
    obtain ⟨wt, was, h1, h2, h3⟩ := id rid
    have wl := pairedLen h3
    have e8 := gr.eight
    have m1 := gr.m1
    have m6 := gr.m6
    have g2 := gr.h2
    have g4 := gr.h4
    have big : (300 : Nat) ≤ sizeLine := by decide
    refine ⟨.ref ri, rfl, ri, _, rfl, .inl (.inl h1), rfl, .int many, [.int hues, .ref wt], rfl, .int hues, [.ref wt], rfl, .ref wt, [], rfl, rfl, ?_⟩
    have lh := len_head (by omega : 0 ≤ many) m6 (by omega : 0 ≤ hues) g4
    unfold headT at lh
    have l1 := len_app (((Str.empty ++ Str.ofString "places ") ++ numT many) ++ Str.ofString " hues ") (numT hues)
    have l2 := len_app ((Str.empty ++ Str.ofString "places ") ++ numT many) (Str.ofString " hues ")
    have l3 := len_app (Str.empty ++ Str.ofString "places ") (numT many)
    refine ⟨⟨_, rfl⟩, _, rfl, (by omega : (Str.empty ++ Str.ofString "places ").length ≤ sizeLine), .int many, rfl, .inr ⟨many, rfl, num_small (by omega) (by omega), _, rfl, (by omega : ((Str.empty ++ Str.ofString "places ") ++ numT many).length ≤ sizeLine), _, rfl, (by omega : (((Str.empty ++ Str.ofString "places ") ++ numT many) ++ Str.ofString " hues ").length ≤ sizeLine), .int hues, rfl, .inr ⟨hues, rfl, num_small (by omega) (by omega), _, rfl, (by omega : ((((Str.empty ++ Str.ofString "places ") ++ numT many) ++ Str.ofString " hues ") ++ numT hues).length ≤ sizeLine), ?_⟩⟩⟩
    refine ⟨(by show 1 ≤ sizeLine; decide), fun l0 nl0 => ?_⟩
    have s0 := same_upd (o := .lst [V.str (headT many hues)]) nl0
    have F0 := (NFr.refl hN).same s0
    have hl0 : upd H l0 (.lst [V.str (headT many hues)]) l0 = some (.lst [V.str (headT many hues)]) := upd_same
    show (iTup K (tVar 3)) _ (upd H l0 (.lst [V.str (headT many hues)])) _
    generalize upd H l0 (.lst [V.str (headT many hues)]) = H0 at s0 F0 hl0
    refine ⟨.ref wt, rfl, wt, rfl, ⟨_, .inl (.inl (s0 _ _ h2))⟩, fun D nD => ?_⟩
    have nD0 : H D = none := F0.free nD
    have nDl : D ≠ l0 := (ne_of_none hl0 nD).symm
    refine lc_tup (K := K) (a := wt) (xs := was.map V.ref) (fun j H3 => NFr AA Qs H H3 ∧ H3 l0 = some (.lst [V.str (headT many hues)]) ∧ H3 D = some (.lst ((wds.take j).map fun wd => V.str (wishT wd)))) ⟨F0.same (same_upd nD), same_upd nD _ _ hl0, upd_same⟩ (fun j H3 _ p => .inl (.inl (p.1.seqs.1 _ _ h2))) (fun j x H3 hx p => ?_) (fun H3 p => ?_)
    · obtain ⟨wa, ea, rfl⟩ := map_get hx
      obtain ⟨F3, hl3, hD⟩ := p
      obtain ⟨wd, ewd, isw⟩ := pairedGetL h3 ea
      refine ⟨rfl, yes_if ⟨.ref wa, rfl, wa, wd, many, hues, rfl, isw.mono F3.seqs.1, gr.each wd (List.mem_of_getElem? ewd), m6, g4, F3.nest, fun H4 f4 => ?_⟩⟩
      have hD4 := f4.seqs.2 _ _ hD
      refine ⟨_, hD4, ?_, (F3.trans f4).put nD0 hD4, ?_, ?_⟩
      · rw [List.length_map, List.length_take]
        exact small1000 (by omega)
      · rw [upd_ne nDl.symm]
        exact f4.seqs.2 _ _ hl3
      · rw [upd_same, take_snoc ewd, List.map_append]
        rfl
    obtain ⟨F3, hl3, hD⟩ := p
    rw [List.length_map, wl, List.take_length] at hD
    refine ⟨l0, D, _, _, rfl, rfl, hl3, hD, ?_, fun np nnp => ?_⟩
    · rw [List.length_map]
      exact Nat.le_of_lt (small1000 (by show 1 + wds.length ≤ 1000; omega))
    have s4 := same_upd (o := .lst ([V.str (headT many hues)] ++ wds.map fun wd => V.str (wishT wd))) nnp
    refine ⟨_, np, [headT many hues] ++ wds.map wishT, rfl, rfl, .inl (.inl (.inl ?_)), ?_, q _ (F3.same s4)⟩
    · rw [upd_same, List.map_append, List.map_map]
      rfl
    · have a := sum_le (wds.map wishT) (·.length) 300 fun w hw => by
        obtain ⟨wd, hwd, rfl⟩ := List.mem_map.mp hw
        exact len_wish m6 g4 (gr.each wd hwd)
      have lh := len_head (by omega : 0 ≤ many) m6 (by omega : 0 ≤ hues) g4
      have e : (Str.ofString "\n").length = 1 := by decide +kernel
      rw [List.map_append, List.sum_append, List.length_append, e]
      rw [List.length_map] at a ⊢
      show (headT many hues).length + 0 + _ + (1 + _) * 1 ≤ _
      omega
end
end Rd

set_option Elab.async false
set_option linter.all false
set_option maxRecDepth 100000
set_option maxHeartbeats 4000000
namespace Rd
open PySem PySem.Spec PyProof.Rows L2 Dt
abbrev sLtx : Stmt := topS 46
abbrev nLtx : List Str := ["riddle", "rows", "places", "some", "row", "hues", "place", "hue"]
theorem scLtx : FnScope nLtx ["riddle"] (defScope sLtx) := ⟨rfl, rfl, rfl, by decide +kernel, rfl, by decide +kernel, by decide +kernel⟩
def spLtx : Sp := fun vs H Q _ => ∃ (ri : Addr) (many hues : Int) (wds : List WD), vs = [.ref ri] ∧ IsRid H ri many hues wds ∧ GoodR many hues wds ∧
  ∀ H', Same H H' → Q (.str (ridT many hues wds)) H'
structure TxtT70 (mg : Str → Option Value) : Prop where
  m_str : mg "str" = none
theorem len_rowsL {many hues : Int} {wd : WD} (m : hues ≤ 4) (g : Good many hues wd) : ∀ (rs : List (List Int)) (r : Str), (∀ x ∈ rs, x ∈ wd.2) → (rowsL r rs).length ≤ r.length + 4 * rs.length
  | [], r, _ => by simp [rowsL]
  | x :: rs, r, h => by
    have a := len_rowsL m g rs ((r ++ Str.ofString " ") ++ rowT x) fun y hy => h y (List.mem_cons_of_mem _ hy)
    have gr := g.row x (h x List.mem_cons_self)
    have g3 := g.three
    have b := len_row m gr.2 (by omega)
    have e : (Str.ofString " ").length = 1 := by decide +kernel
    rw [len_app, len_app] at a
    show (rowsL ((r ++ Str.ofString " ") ++ rowT x) rs).length ≤ _
    rw [List.length_cons]
    omega
section
variable {P : Program} {w : World} {K : PySem.W.Frag} {mg : Str → Option Value} {base : Heap}
set_option maxHeartbeats 16000000 in
theorem ok_ltx {f : Addr} {fd : FuncData} {k : Nat} (F : Fun K "_law_text" "_law_text" sLtx f fd) (T : TxtT70 mg) : FnOk P w K mg base CX0 (k + 1) f fd ["riddle"] spLtx := by
  refine F.ok scLtx (fun vs H Q E h => ?_) (fun cdv A outer s H vs Q E hr h => ?_)
  · obtain ⟨ri, many, hues, wds, rfl, _⟩ := h
    rfl
  · obtain ⟨ri, many, hues, wds, rfl, rid, gr, q⟩ := h
    refine ⟨_, (pss_cons (ps_set (i := 1) scLtx.nd rfl (Or.inl rfl) (pe_lst (pa_cons (pe_op op_add_str (pe_op op_add_str (pe_op op_add_str pe_str (pe_callTy call_str_int (by rfl) T.m_str (by decide +kernel) (pa_cons (pe_ix ix_tup (pv 0) pe_int (fun _ _ => rfl)) pa_nil))) pe_str) (pe_callTy call_str_int (by rfl) T.m_str (by decide +kernel) (pa_cons (pe_ix ix_tup (pv 0) pe_int (fun _ _ => rfl)) pa_nil))) pa_nil)))
  (pss_cons (ps_for PassesOwn.never rfl (pi_tup (pe_ix ix_tup (pv 0) pe_int (fun _ _ => rfl))) (pg_tup rfl (pgs_cons (pg_name (i := 2) scLtx.nd rfl (Or.inl rfl)) (pgs_cons (pg_name (i := 3) scLtx.nd rfl (Or.inl rfl)) pgs_nil)))
  (pss_cons (ps_set (i := 4) scLtx.nd rfl (Or.inl rfl) (pe_op op_add_str (pe_op op_add_str pe_str (pe_join pe_str (pe_lc (own := [("place", 6)]) rfl scLtx.nd  (pi_tup (pv 2)) (blkOk_by (own := [("place", 6)]) (N := nLtx) (sc := defScope sLtx) (by decide +kernel))
   (fun _ _ _ _ _ => (pg_name (i := 6) scLtx.nd rfl (Or.inl rfl))) (fun _ _ _ _ _ => pts_nil) (fun _ _ _ _ _ => (pe_callTy call_str_int (by rfl) T.m_str (by decide +kernel) (pa_cons (pv 6) pa_nil)))))) pe_str))
  (pss_cons (ps_for PassesOwn.never rfl (pi_tup (pv 3)) (pg_name (i := 5) scLtx.nd rfl (Or.inl rfl))
  (pss_one (ps_set (i := 4) scLtx.nd rfl (Or.inl rfl) (pe_op op_add_str (pe_op op_add_str (pv 4) pe_str) (pe_join pe_str (pe_lc (own := [("hue", 7)]) rfl scLtx.nd  (pi_tup (pv 5)) (blkOk_by (own := [("hue", 7)]) (N := nLtx) (sc := defScope sLtx) (by decide +kernel))
   (fun _ _ _ _ _ => (pg_name (i := 7) scLtx.nd rfl (Or.inl rfl))) (fun _ _ _ _ _ => pts_nil) (fun _ _ _ _ _ => (pe_callTy call_str_int (by rfl) T.m_str (by decide +kernel) (pa_cons (pv 7) pa_nil)))))))))
  (pss_one (ps_expr (pe_bm PySem.F.plainAttrs_list PySem.F.slot_list_append PySem.F.type_list_append mt_append (pv 1) (pa_cons (pv 4) pa_nil)))))))
  (pss_one (ps_ret (pe_join pe_str (pv 1)))))), ?_⟩
    obtain ⟨wt, was, h1, h2, h3⟩ := id rid
    have wl := pairedLen h3
    have e8 := gr.eight
    have m1 := gr.m1
    have m6 := gr.m6
    have g2 := gr.h2
    have g4 := gr.h4
    have big : (1000 : Nat) ≤ sizeLine := by decide
    have lh := len_head (by omega : 0 ≤ many) m6 (by omega : 0 ≤ hues) g4
    rw [head_same] at lh
    unfold headL at lh
    have k1 := len_app ((Str.ofString "places " ++ numT many) ++ Str.ofString " hues ") (numT hues)
    have k2 := len_app (Str.ofString "places " ++ numT many) (Str.ofString " hues ")
    have k3 := len_app (Str.ofString "places ") (numT many)
    refine ⟨.ref ri, rfl, ri, _, 0, _, rfl, rfl, .inl (.inl h1), atI_nat (j := 0) rfl, many, rfl, num_small (by omega) (by omega), _, numT many, rfl, rfl, by omega, _, _, rfl, rfl, by omega, .ref ri, rfl, ri, _, 1, _, rfl, rfl, .inl (.inl h1), atI_nat (j := 1) rfl, hues, rfl, num_small (by omega) (by omega), _, numT hues, rfl, rfl, by omega, (by show 1 ≤ sizeLine; decide), fun rw_ nrw => ?_⟩
    have s0 := same_upd (o := .lst [V.str (headL many hues)]) nrw
    have hr0 : upd H rw_ (.lst [V.str (headL many hues)]) rw_ = some (.lst [V.str (headL many hues)]) := upd_same
    refine ⟨.ref ri, rfl, ri, _, 2, _, rfl, rfl, .inl (.inl (s0 _ _ h1)), atI_nat (j := 2) rfl, wt, rfl, ⟨_, .inl (.inl (s0 _ _ h2))⟩, ?_⟩
    refine for_tup (K := K) (a := wt) (xs := was.map V.ref) (fun i σ H3 => Same H H3 ∧ H3 rw_ = some (.lst (V.str (headL many hues) :: (wds.take i).map fun wd => V.str (wishL wd))) ∧ ∃ y2 y3 y4 y5, σ = [some (.ref ri), some (.ref rw_), y2, y3, y4, y5, none, none]) ⟨s0, hr0, _, _, _, _, rfl⟩ (fun i σ H3 _ p => .inl (.inl (p.1 _ _ h2))) (fun i x σ H3 hx p => ?_) (fun σ H3 p => ?_)
    · obtain ⟨wa, ea, rfl⟩ := map_get hx
      obtain ⟨s3, hr3, y2, y3, y4, y5, rfl⟩ := p
      obtain ⟨wd, ewd, isw⟩ := pairedGetL h3 ea
      have gw := gr.each wd (List.mem_of_getElem? ewd)
      obtain ⟨pa, ra, rs, i1, i2, i3, i4⟩ := id isw
      have rl := pairedLen i4
      have w3 := gw.three
      have w64 := gw.few
      refine ⟨wa, _, rfl, .inl (.inl (s3 _ _ i1)), rfl, .ref pa, [.ref ra], rfl, .ref ra, [], rfl, rfl, ?_⟩
      -- places
      refine ⟨⟨_, rfl⟩, .ref pa, rfl, pa, rfl, ⟨_, .inl (.inl (s3 _ _ i2))⟩, fun D nD => ?_⟩
      refine lc_tup (K := K) (a := pa) (xs := wd.1.map V.int) (fun j H4 => Same H3 H4 ∧ H4 D = some (.lst ((wd.1.take j).map fun p => V.str (numT p)))) ⟨same_upd nD, upd_same⟩ (fun j H4 _ p => .inl (.inl (p.1 _ _ (s3 _ _ i2)))) (fun j x H4 hx p => ?_) (fun H4 p => ?_)
      · obtain ⟨p1, ep, rfl⟩ := map_get hx
        obtain ⟨s4, hD⟩ := p
        have pp := gw.pl p1 (List.mem_of_getElem? ep)
        refine ⟨rfl, yes_if ⟨.int p1, rfl, p1, rfl, num_small pp.1 (by omega), _, hD, ?_, same_put s4 nD, ?_⟩⟩
        · rw [List.length_map, List.length_take]
          exact small1000 (by omega)
        · rw [upd_same, take_snoc ep, List.map_append]
          rfl
      obtain ⟨s4, hD⟩ := p
      rw [List.length_map, List.take_length] at hD
      have s14 := s3.trans s4
      have lp := len_places m6 gw.pl w3
      have q1 := len_app (Str.ofString "wish " ++ placesT wd.1) (Str.ofString ":")
      have q2 := len_app (Str.ofString "wish ") (placesT wd.1)
      have q3 : (Str.ofString "wish ").length = 5 := by decide +kernel
      have q4 : (Str.ofString ":").length = 1 := by decide +kernel
      refine ⟨_, D, wd.1.map numT, rfl, rfl, .inl (.inl (.inl (by rw [hD, List.map_map]; rfl))), ?_, _, placesT wd.1, rfl, rfl, by omega, _, _, rfl, rfl, by omega, ?_⟩
      · have a := sum_le (wd.1.map numT) (·.length) 1 fun w hw => by
          obtain ⟨p, hp, rfl⟩ := List.mem_map.mp hw
          have := gw.pl p hp
          exact len_num (by omega) (by omega)
        have e : (Str.ofString " ").length = 1 := by decide +kernel
        rw [List.length_map] at a ⊢
        rw [e]
        omega
      -- rows
      refine ⟨.ref ra, rfl, ra, rfl, ⟨_, .inl (.inl (s14 _ _ i3))⟩, ?_⟩
      refine for_tup (K := K) (a := ra) (xs := rs.map V.ref) (fun j σ H5 => Same H3 H5 ∧ ∃ y5, σ = [some (.ref ri), some (.ref rw_), some (.ref pa), some (.ref ra), some (.str (rowsL ((Str.ofString "wish " ++ placesT wd.1) ++ Str.ofString ":") (wd.2.take j))), y5, none, none]) ⟨s4, y5, rfl⟩ (fun j σ H5 _ p => .inl (.inl (p.1 _ _ (s3 _ _ i3)))) (fun j x σ H5 hx p => ?_) (fun σ H5 p => ?_)
      · obtain ⟨r, er, rfl⟩ := map_get hx
        obtain ⟨s5, y5, rfl⟩ := p
        obtain ⟨row, ew, hrow⟩ := pairedGetL i4 er
        have gro := gw.row row (List.mem_of_getElem? ew)
        have s35 := s3.trans s5
        have hrow5 := s35 _ _ hrow
        have ll := len_rowsL g4 gw (wd.2.take j) ((Str.ofString "wish " ++ placesT wd.1) ++ Str.ofString ":") fun x hx => List.mem_of_mem_take hx
        have lt : (wd.2.take j).length ≤ 64 := by
          rw [List.length_take]
          omega
        have lr := len_row g4 gro.2 (by omega)
        generalize hR : rowsL ((Str.ofString "wish " ++ placesT wd.1) ++ Str.ofString ":") (wd.2.take j) = R at ll
        have q5 := len_app R (Str.ofString " ")
        have q6 : (Str.ofString " ").length = 1 := by decide +kernel
        refine ⟨.str R, rfl, _, _, rfl, rfl, by omega, ⟨_, rfl⟩, .ref r, rfl, r, rfl, ⟨_, .inl (.inl hrow5)⟩, fun D2 nD2 => ?_⟩
        refine lc_tup (K := K) (a := r) (xs := row.map V.int) (fun l H6 => Same H5 H6 ∧ H6 D2 = some (.lst ((row.take l).map fun p => V.str (numT p)))) ⟨same_upd nD2, upd_same⟩ (fun l H6 _ p => .inl (.inl (p.1 _ _ hrow5))) (fun l x H6 hx p => ?_) (fun H6 p => ?_)
        · obtain ⟨p1, ep, rfl⟩ := map_get hx
          obtain ⟨s6, hD2⟩ := p
          have pp := gro.2 p1 (List.mem_of_getElem? ep)
          refine ⟨rfl, yes_if ⟨.int p1, rfl, p1, rfl, num_small pp.1 (by omega), _, hD2, ?_, same_put s6 nD2, ?_⟩⟩
          · rw [List.length_map, List.length_take]
            exact small1000 (by omega)
          · rw [upd_same, take_snoc ep, List.map_append]
            rfl
        · obtain ⟨s6, hD2⟩ := p
          rw [List.length_map, List.take_length] at hD2
          refine ⟨_, D2, row.map numT, rfl, rfl, .inl (.inl (.inl (by rw [hD2, List.map_map]; rfl))), ?_, _, rowT row, rfl, rfl, by omega, s5.trans s6, some (.ref r), ?_⟩
          · have a := sum_le (row.map numT) (·.length) 1 fun w hw => by
              obtain ⟨p, hp, rfl⟩ := List.mem_map.mp hw
              have := gro.2 p hp
              exact len_num (by omega) (by omega)
            have e : (Str.ofString "").length = 0 := by decide +kernel
            rw [List.length_map] at a ⊢
            rw [e]
            omega
          · rw [take_snoc ew]
            have e : rowsL ((Str.ofString "wish " ++ placesT wd.1) ++ Str.ofString ":") (wd.2.take j ++ [row]) = (R ++ Str.ofString " ") ++ rowT row := by
              rw [← hR]
              unfold rowsL
              rw [List.foldl_append]
              rfl
            rw [e]
            rfl
      · obtain ⟨s5, y5', rfl⟩ := p
        rw [List.length_map, rl, List.take_length]
        have hr5 := s5 _ _ hr3
        refine ⟨.ref rw_, rfl, .inl ⟨rfl, _, .inl (.inl hr5)⟩, _, rfl, rw_, _, _, rfl, rfl, hr5, ?_, same_put (s3.trans s5) nrw, ?_, _, _, _, _, rfl⟩
        · rw [List.length_cons, List.length_map, List.length_take]
          exact small1000 (by omega)
        · rw [upd_same, take_snoc ewd, List.map_append]
          rfl
    · obtain ⟨s3, hr3, y2, y3, y4, y5, rfl⟩ := p
      rw [List.length_map, wl, List.take_length] at hr3
      have hq := q _ s3
      rw [rid_same gr] at hq
      refine ⟨⟨_, rfl⟩, .ref rw_, rfl, _, rw_, headL many hues :: wds.map wishL, rfl, rfl, .inl (.inl (.inl ?_)), ?_, hq⟩
      · rw [hr3, List.map_cons, List.map_map]
        rfl
      · have a := sum_le (wds.map wishL) (·.length) 300 fun w hw => by
          obtain ⟨wd, hwd, rfl⟩ := List.mem_map.mp hw
          rw [← wish_same (fun z => by have := (gr.each wd hwd).some_; rw [z] at this; exact absurd this (by decide))]
          exact len_wish m6 g4 (gr.each wd hwd)
        have e : (Str.ofString "\n").length = 1 := by decide +kernel
        rw [List.map_cons, List.sum_cons, List.length_cons, e]
        rw [List.length_map] at a ⊢
        unfold headL
        omega
end
end Rd

set_option Elab.async false
set_option linter.all false
set_option maxRecDepth 100000
set_option maxHeartbeats 4000000
namespace Rd
open PySem PySem.Spec PyProof.Rows L2 Dt
abbrev sNum : Stmt := topS 20
abbrev nNum : List Str := ["thing", "low", "high"]
theorem scNum : FnScope nNum ["thing", "low", "high"] (defScope sNum) := ⟨rfl, rfl, rfl, by decide +kernel, rfl, by decide +kernel, by decide +kernel⟩
abbrev sRis : Stmt := topS 21
abbrev nRis : List Str := ["parts", "k"]
theorem scRis : FnScope nRis ["parts"] (defScope sRis) := ⟨rfl, rfl, rfl, by decide +kernel, rfl, by decide +kernel, by decide +kernel⟩
abbrev sFnu : Stmt := topS 22
abbrev nFnu : List Str := ["many", "hues", "number", "place"]
theorem scFnu : FnScope nFnu ["many", "hues"] (defScope sFnu) := ⟨rfl, rfl, rfl, by decide +kernel, rfl, by decide +kernel, by decide +kernel⟩
abbrev sSiz : Stmt := topS 23
abbrev nSiz : List Str := ["many", "hues"]
theorem scSiz : FnScope nSiz ["many", "hues"] (defScope sSiz) := ⟨rfl, rfl, rfl, by decide +kernel, rfl, by decide +kernel, by decide +kernel⟩
abbrev sPls : Stmt := topS 24
abbrev nPls : List Str := ["thing", "many", "place"]
theorem scPls : FnScope nPls ["thing", "many"] (defScope sPls) := ⟨rfl, rfl, rfl, by decide +kernel, rfl, by decide +kernel, by decide +kernel⟩
abbrev sHus : Stmt := topS 25
abbrev nHus : List Str := ["thing", "length", "hues", "hue"]
theorem scHus : FnScope nHus ["thing", "length", "hues"] (defScope sHus) := ⟨rfl, rfl, rfl, by decide +kernel, rfl, by decide +kernel, by decide +kernel⟩
abbrev sRws : Stmt := topS 26
abbrev nRws : List Str := ["thing", "length", "hues", "row"]
theorem scRws : FnScope nRws ["thing", "length", "hues"] (defScope sRws) := ⟨rfl, rfl, rfl, by decide +kernel, rfl, by decide +kernel, by decide +kernel⟩
abbrev sWsh : Stmt := topS 27
abbrev nWsh : List Str := ["thing", "many", "hues", "places", "rows"]
theorem scWsh : FnScope nWsh ["thing", "many", "hues"] (defScope sWsh) := ⟨rfl, rfl, rfl, by decide +kernel, rfl, by decide +kernel, by decide +kernel⟩
abbrev sIrd : Stmt := topS 28
abbrev nIrd : List Str := ["thing", "many", "hues", "wishes", "wish"]
theorem scIrd : FnScope nIrd ["thing"] (defScope sIrd) := ⟨rfl, rfl, rfl, by decide +kernel, rfl, by decide +kernel, by decide +kernel⟩
theorem ip_mul {X : Cx} : PIp X .Mult (fun x y H Q => ∃ i j, x = .int i ∧ y = .int j ∧ CMul i j ∧ Q (.int (i * j)) H) := by
  intro pins s σ H x y v u Q I r1 r2 h
  obtain ⟨i, j, e1, e2, hm, q⟩ := h
  subst e1; subst e2
  obtain ⟨t, rfl⟩ := r1
  obtain ⟨t', rfl⟩ := r2
  exact imul_int ⟨.int _, H, I.tok _, ⟨_, rfl⟩, q⟩ hm.ok
/-! ### what is rising -/
def risI (ns : List Int) : Bool := (List.range (ns.length - 1)).all fun k => decide (ns.getD k 0 < ns.getD (k + 1) 0)
def risR (rs : List Dt.Row) : Bool := (List.range (rs.length - 1)).all fun k => HT.lexLt (rs.getD k []) (rs.getD (k + 1) [])
structure Rise (wd : WD) : Prop where
  pl : risI wd.1 = true
  rows : risR wd.2 = true
def rLtU (K : PySem.W.Frag) : R2 := fun x y H Q => rI0 (fun i j => .bl (decide (i < j))) x y H Q ∨ rLtT K x y H Q
def sizeOk (many hues : Int) : Bool := decide (1 ≤ many ∧ many ≤ 6) && decide (2 ≤ hues ∧ hues ≤ 4) && decide (hues ^ many.toNat ≤ 256)
def spNum : Sp := fun vs H Q _ => ∃ t lo hi : Int, vs = [.int t, .int lo, .int hi] ∧ Q (.bl (decide (lo ≤ t ∧ t ≤ hi))) H
def spFno : Sp := fun vs H Q _ => ∃ many hues : Int, vs = [.int many, .int hues] ∧ 0 ≤ many ∧ many ≤ 6 ∧ 0 ≤ hues ∧ hues ≤ 4 ∧ Q (.int (hues ^ many.toNat)) H
def spSiz : Sp := fun vs H Q _ => ∃ many hues : Int, vs = [.int many, .int hues] ∧ Q (.bl (sizeOk many hues)) H

def plsB (ns : List Int) (many : Int) : Bool := decide (1 ≤ ns.length) && decide (ns.length ≤ 3) && ns.all (fun p => decide (0 ≤ p ∧ p ≤ many - 1)) && risI ns
def husB (row : List Int) (n : Nat) (hues : Int) : Bool := decide (row.length = n) && row.all fun h => decide (0 ≤ h ∧ h ≤ hues - 1)
def rwsB (rows : List (List Int)) (n : Nat) (hues : Int) : Bool := decide (rows.length ≠ 0) && rows.all (fun r => husB r n hues) && risR rows
def wshB (wd : WD) (many hues : Int) : Bool := plsB wd.1 many && rwsB wd.2 wd.1.length hues
def irdB (many hues : Int) (wds : List WD) : Bool := sizeOk many hues && decide (wds.length ≤ 8) && wds.all fun wd => wshB wd many hues
def spRis (Ps : List Addr) : Sp := fun vs H Q _ => ∃ pa : Addr, vs = [.ref pa] ∧ Tabs Ps H ∧ ((∃ ns : List Int, H pa = some (.tup (ns.map V.int)) ∧ ns.length ≤ 10000 ∧ ∀ H', FrS Ps H H' → Q (.bl (risI ns)) H') ∨ (∃ (rs : List Addr) (rows : List Dt.Row), H pa = some (.tup (rs.map V.ref)) ∧ Paired (IsRow H) rs rows ∧ rows.length ≤ 10000 ∧ ∀ H', FrS Ps H H' → Q (.bl (risR rows)) H'))
def spPls (Ps : List Addr) : Sp := fun vs H Q _ => ∃ (pa : Addr) (ns : List Int) (many : Int), vs = [.ref pa, .int many] ∧ Tabs Ps H ∧ H pa = some (.tup (ns.map V.int)) ∧ ns.length ≤ 10000 ∧ ∀ H', FrS Ps H H' → Q (.bl (plsB ns many)) H'
def spHus (Ps : List Addr) : Sp := fun vs H Q _ => ∃ (ra : Addr) (row : Dt.Row) (n : Nat) (hues : Int), vs = [.ref ra, .int n, .int hues] ∧ Tabs Ps H ∧ IsRow H ra row ∧ ∀ H', FrS Ps H H' → Q (.bl (husB row n hues)) H'
def spRws (Ps : List Addr) : Sp := fun vs H Q _ => ∃ (ra : Addr) (rs : List Addr) (rows : List Dt.Row) (n : Nat) (hues : Int), vs = [.ref ra, .int n, .int hues] ∧ Tabs Ps H ∧ H ra = some (.tup (rs.map V.ref)) ∧ Paired (IsRow H) rs rows ∧ rows.length ≤ 10000 ∧ ∀ H', FrS Ps H H' → Q (.bl (rwsB rows n hues)) H'
def spWsh (Ps : List Addr) : Sp := fun vs H Q _ => ∃ (wa : Addr) (wd : WD) (many hues : Int), vs = [.ref wa, .int many, .int hues] ∧ Tabs Ps H ∧ IsWish H wa wd ∧ wd.1.length ≤ 10000 ∧ wd.2.length ≤ 10000 ∧ ∀ H', FrS Ps H H' → Q (.bl (wshB wd many hues)) H'
def spIrd (Ps : List Addr) : Sp := fun vs H Q _ => ∃ (ri : Addr) (many hues : Int) (wds : List WD), vs = [.ref ri] ∧ Tabs Ps H ∧ IsRid H ri many hues wds ∧ (∀ wd ∈ wds, wd.1.length ≤ 10000 ∧ wd.2.length ≤ 10000) ∧ wds.length ≤ 10000 ∧ ∀ H', FrS Ps H H' → Q (.bl (irdB many hues wds)) H'
/-! what a riddle is, by these -/
def val4 (r : List Int) : Nat := r.foldl (fun v x => v * 4 + x.toNat) 0
theorem val_lt : ∀ (a b : List Int) (u v : Nat), a.length = b.length → (∀ x ∈ a, 0 ≤ x ∧ x ≤ 3) → (∀ x ∈ b, 0 ≤ x ∧ x ≤ 3) → (u < v ∨ u = v ∧ HT.lexLt a b = true) → a.foldl (fun v x => v * 4 + x.toNat) u < b.foldl (fun v x => v * 4 + x.toNat) v
  | [], [], u, v, _, _, _, h => by
    rcases h with h | ⟨_, h⟩
    · exact h
    · exact absurd h (by decide)
  | [], _ :: _, _, _, l, _, _, _ => by simp at l
  | _ :: _, [], _, _, l, _, _, _ => by simp at l
  | x :: a, y :: b, u, v, l, ha, hb, h => by
    have hx := ha x List.mem_cons_self
    have hy := hb y List.mem_cons_self
    rw [List.foldl_cons, List.foldl_cons]
    refine val_lt a b _ _ (by simpa using l) (fun z hz => ha z (List.mem_cons_of_mem _ hz)) (fun z hz => hb z (List.mem_cons_of_mem _ hz)) ?_
    rcases h with h | ⟨rfl, h⟩
    · exact .inl (by omega)
    · rw [HT.lexLt] at h
      by_cases e : x = y
      · rw [if_pos e] at h
        exact .inr ⟨by rw [e], h⟩
      · rw [if_neg e] at h
        have := of_decide_eq_true h
        exact .inl (by omega)
theorem val_le : ∀ (a : List Int) (u : Nat), (∀ x ∈ a, 0 ≤ x ∧ x ≤ 3) → a.foldl (fun v x => v * 4 + x.toNat) u < (u + 1) * 4 ^ a.length
  | [], u, _ => by simp
  | x :: a, u, h => by
    have hx := h x List.mem_cons_self
    rw [List.foldl_cons, List.length_cons, Nat.pow_succ]
    have z := val_le a (u * 4 + x.toNat) fun y hy => h y (List.mem_cons_of_mem _ hy)
    have : (u * 4 + x.toNat + 1) * 4 ^ a.length ≤ ((u + 1) * 4) * 4 ^ a.length := Nat.mul_le_mul_right _ (by omega)
    have e : (u + 1) * (4 ^ a.length * 4) = ((u + 1) * 4) * 4 ^ a.length := by rw [Nat.mul_comm (4 ^ a.length) 4, Nat.mul_assoc]
    omega
theorem rows_few {rows : List (List Int)} {n : Nat} (n3 : n ≤ 3) (h : ∀ r ∈ rows, r.length = n ∧ ∀ x ∈ r, 0 ≤ x ∧ x ≤ 3) (hr : risR rows = true) : rows.length ≤ 64 := by
  have key : ∀ k, k < rows.length → k ≤ val4 (rows.getD k []) := fun k => by
    induction k with
    | zero => exact fun _ => Nat.zero_le _
    | succ k ih =>
      intro hk
      have a := ih (by omega)
      have z := List.all_eq_true.mp hr k (List.mem_range.mpr (by omega))
      have m1 : rows.getD k [] ∈ rows := Dt.getD_mem (by omega)
      have m2 : rows.getD (k + 1) [] ∈ rows := Dt.getD_mem hk
      have y := val_lt (rows.getD k []) (rows.getD (k + 1) []) 0 0 ((h _ m1).1.trans (h _ m2).1.symm) (h _ m1).2 (h _ m2).2 (.inr ⟨rfl, z⟩)
      unfold val4 at a ⊢
      omega
  by_cases hl : rows.length = 0
  · omega
  · have a := key (rows.length - 1) (by omega)
    have m : rows.getD (rows.length - 1) [] ∈ rows := Dt.getD_mem (by omega)
    have b := val_le (rows.getD (rows.length - 1) []) 0 (h _ m).2
    have c : 4 ^ (rows.getD (rows.length - 1) []).length ≤ 4 ^ 3 := Nat.pow_le_pow_right (by decide) (by rw [(h _ m).1]; exact n3)
    unfold val4 at a
    have : (4 : Nat) ^ 3 = 64 := by decide
    omega
theorem ird_good {many hues : Int} {wds : List WD} (h : irdB many hues wds = true) : GoodR many hues wds ∧ (∀ wd ∈ wds, Rise wd) := by
  unfold irdB sizeOk at h
  simp only [Bool.and_eq_true, decide_eq_true_eq, List.all_eq_true] at h
  obtain ⟨⟨⟨⟨⟨m1, m6⟩, h2, h4⟩, k⟩, e8⟩, hw⟩ := h
  have each : ∀ wd ∈ wds, Good many hues wd ∧ Rise wd := fun wd hd => by
    have z := hw wd hd
    unfold wshB plsB rwsB at z
    simp only [Bool.and_eq_true, decide_eq_true_eq, List.all_eq_true] at z
    obtain ⟨⟨⟨⟨l1, l3⟩, pl⟩, r1⟩, ⟨nz, ro⟩, r2⟩ := z
    have ro' : ∀ r ∈ wd.2, r.length = wd.1.length ∧ ∀ x ∈ r, 0 ≤ x ∧ x ≤ hues - 1 := fun r hr => by
      have y := ro r hr
      unfold husB at y
      simp only [Bool.and_eq_true, decide_eq_true_eq, List.all_eq_true] at y
      exact y
    refine ⟨⟨l1, l3, fun p hp => ?_, by omega, rows_few l3 (fun r hr => ⟨(ro' r hr).1, fun x hx => ?_⟩) r2, fun r hr => ⟨(ro' r hr).1, fun x hx => ?_⟩⟩, ⟨r1, r2⟩⟩
    · have := pl p hp
      omega
    · have := (ro' r hr).2 x hx
      omega
    · have := (ro' r hr).2 x hx
      omega
  exact ⟨⟨m1, m6, h2, h4, e8, fun wd hd => (each wd hd).1⟩, fun wd hd => (each wd hd).2⟩
theorem good_ird {many hues : Int} {wds : List WD} (g : GoodR many hues wds) (hr : ∀ wd ∈ wds, Rise wd) (k : hues ^ many.toNat ≤ 256) : irdB many hues wds = true := by
  unfold irdB sizeOk
  simp only [Bool.and_eq_true, decide_eq_true_eq, List.all_eq_true]
  refine ⟨⟨⟨⟨⟨g.m1, g.m6⟩, g.h2, g.h4⟩, k⟩, g.eight⟩, fun wd hd => ?_⟩
  have gw := g.each wd hd
  unfold wshB plsB rwsB
  simp only [Bool.and_eq_true, decide_eq_true_eq, List.all_eq_true]
  refine ⟨⟨⟨⟨gw.one, gw.three⟩, fun p hp => ?_⟩, (hr wd hd).pl⟩, ⟨?_, fun r h => ?_⟩, (hr wd hd).rows⟩
  · have := gw.pl p hp
    omega
  · have := gw.some_
    omega
  · unfold husB
    simp only [Bool.and_eq_true, decide_eq_true_eq, List.all_eq_true]
    refine ⟨(gw.row r h).1, fun x hx => ?_⟩
    have := (gw.row r h).2 x hx
    omega
structure TxtI (mg : Str → Option Value) : Prop where
  m_isinstance : mg "isinstance" = none
  m_int : mg "int" = none
  m_bool : mg "bool" = none
  m_tuple : mg "tuple" = none
  m_len : mg "len" = none
  m_all : mg "all" = none
  m_range : mg "range" = none
  g_MOST_PLACES : ∃ u, mg "MOST_PLACES" = some u ∧ RelV (.int 6) u
  g_LEAST_HUES : ∃ u, mg "LEAST_HUES" = some u ∧ RelV (.int 2) u
  g_MOST_HUES : ∃ u, mg "MOST_HUES" = some u ∧ RelV (.int 4) u
  g_MOST_FILLINGS : ∃ u, mg "MOST_FILLINGS" = some u ∧ RelV (.int 256) u
  g_MOST_WISHES : ∃ u, mg "MOST_WISHES" = some u ∧ RelV (.int 8) u
  g_MOST_PLACES_OF_A_WISH : ∃ u, mg "MOST_PLACES_OF_A_WISH" = some u ∧ RelV (.int 3) u
structure TxtI1 (P : Program) (w : World) (K : PySem.W.Frag) (mg : Str → Option Value) (base : Heap) : Prop extends TxtI mg where
  c_is_number : Cal P w K mg base 1 "is_number" ["thing", "low", "high"] spNum
  c_fillings_number : Cal P w K mg base 1 "fillings_number" ["many", "hues"] spFno
structure TxtI2 (P : Program) (w : World) (K : PySem.W.Frag) (mg : Str → Option Value) (base : Heap) (Ps : List Addr) : Prop extends TxtI1 P w K mg base where
  c_is_rising : Cal P w K mg base 2 "is_rising" ["parts"] (spRis Ps)
structure TxtI3 (P : Program) (w : World) (K : PySem.W.Frag) (mg : Str → Option Value) (base : Heap) (Ps : List Addr) : Prop extends TxtI2 P w K mg base Ps where
  c_are_hues : Cal P w K mg base 3 "are_hues" ["thing", "length", "hues"] (spHus Ps)
structure TxtI4 (P : Program) (w : World) (K : PySem.W.Frag) (mg : Str → Option Value) (base : Heap) (Ps : List Addr) : Prop extends TxtI mg where
  c_are_places : Cal P w K mg base 3 "are_places" ["thing", "many"] (spPls Ps)
  c_are_rows : Cal P w K mg base 5 "are_rows" ["thing", "length", "hues"] (spRws Ps)
structure TxtI5 (P : Program) (w : World) (K : PySem.W.Frag) (mg : Str → Option Value) (base : Heap) (Ps : List Addr) : Prop extends TxtI mg where
  c_is_size : Cal P w K mg base 2 "is_size" ["many", "hues"] spSiz
  c_is_wish : Cal P w K mg base 6 "is_wish" ["thing", "many", "hues"] (spWsh Ps)
section
variable {P : Program} {w : World} {K : PySem.W.Frag} {mg : Str → Option Value} {base : Heap}
theorem ok_num {f : Addr} {fd : FuncData} {k : Nat} (F : Fun K "is_number" "is_number" sNum f fd) (T : TxtI mg) : FnOk P w K mg base CX0 (k + 1) f fd ["thing", "low", "high"] spNum := by
  refine F.ok scNum (fun vs H Q E h => ?_) (fun cdv A outer s H vs Q E hr h => ?_)
  · obtain ⟨t, lo, hi, rfl, _⟩ := h
    rfl
  · obtain ⟨t, lo, hi, rfl, q⟩ := h
    refine ⟨_, (pss_one (ps_ret (pe_and (pe_callB call_isi (by rfl) T.m_isinstance (by decide +kernel) (pa_cons (pv 0) (pa_cons (pe_bltn (v := .ty "int") (by rfl) T.m_int (by decide +kernel) rfl) pa_nil))) (pe_and (pe_not (pe_callB call_isi (by rfl) T.m_isinstance (by decide +kernel) (pa_cons (pv 0) (pa_cons (pe_bltn (v := .ty "bool") (by rfl) T.m_bool (by decide +kernel) rfl) pa_nil)))) (pe_one (pe_chain op_le op_le (pv 1) (pv 0) (pv 2))))))), ?_⟩
    refine ⟨.int t, rfl, .int t, .ty "int", .type "int", .type "int", true, rfl, .ty _, .base (.int t), kit_ty (by decide +kernel), true, rfl, iteT ?_⟩
    refine ⟨.int t, rfl, .int t, .ty "bool", .type "int", .type "bool", false, rfl, .ty _, .base (.int t), kit_ty (by decide +kernel), false, rfl, true, rfl, iteT ?_⟩
    refine ⟨.int lo, rfl, .int t, rfl, lo, t, rfl, rfl, _, rfl, ite2 (fun e => ?_) (fun e => ?_)⟩
    · refine ⟨.int hi, rfl, t, hi, rfl, rfl, ?_⟩
      have e : lo ≤ t := by simpa using e
      have e2 : decide (lo ≤ t ∧ t ≤ hi) = decide (t ≤ hi) := by simp [e]
      rw [e2] at q
      exact q
    · have e : ¬ lo ≤ t := by simpa using e
      have e2 : decide (lo ≤ t ∧ t ≤ hi) = false := by simp [e]
      rw [e2] at q
      exact q
theorem ok_fno {f : Addr} {fd : FuncData} {k : Nat} (F : Fun K "fillings_number" "fillings_number" sFnu f fd) (T : TxtI mg) : FnOk P w K mg base CX0 (k + 1) f fd ["many", "hues"] spFno := by
  refine F.ok scFnu (fun vs H Q E h => ?_) (fun cdv A outer s H vs Q E hr h => ?_)
  · obtain ⟨many, hues, rfl, _⟩ := h
    rfl
  · obtain ⟨m, n, rfl, m0, m6, h0, h4, q⟩ := h
    refine ⟨_, (pss_cons (ps_set (i := 2) scFnu.nd rfl (Or.inl rfl) pe_int)
  (pss_cons (ps_for PassesOwn.never rfl (pi_range1 (by rfl) T.m_range (pa_cons (pv 0) pa_nil)) (pg_name (i := 3) scFnu.nd rfl (Or.inl rfl))
  (pss_one (ps_aug (i := 2) scFnu.nd rfl (Or.inl rfl) (pv 1) ip_mul)))
  (pss_one (ps_ret (pv 2))))), ?_⟩
    refine ⟨.int m, rfl, m, rfl, by omega, by omega, for_range (lo := 0) (n := m.toNat) (fun i σ H3 => H3 = H ∧ ∃ y3, σ = [some (.int m), some (.int n), some (.int (n ^ i)), y3]) ⟨rfl, none, by rw [Int.pow_zero]; rfl⟩ (fun i σ H3 hi p => ?_) (fun σ H3 p => ?_)⟩
    · obtain ⟨rfl, y3, rfl⟩ := p
      have b := pow_bd h0 h4 (i := i) (by omega)
      exact ⟨_, rfl, _, rfl, n ^ i, n, rfl, rfl, .inl ⟨by omega, by omega⟩, rfl, _, by rw [Int.pow_succ]; rfl⟩
    · obtain ⟨rfl, y3, rfl⟩ := p
      exact ⟨_, rfl, q⟩
theorem ok_siz {f : Addr} {fd : FuncData} {k : Nat} (F : Fun K "is_size" "is_size" sSiz f fd) (T : TxtI1 P w K mg base) : FnOk P w K mg base CX0 (k + 2) f fd ["many", "hues"] spSiz := by
  refine F.ok scSiz (fun vs H Q E h => ?_) (fun cdv A outer s H vs Q E hr h => ?_)
  · obtain ⟨many, hues, rfl, _⟩ := h
    rfl
  · obtain ⟨m, n, rfl, q⟩ := h
    have hr1 : Room 1 (A.deeper (envOfC (Str.ofString "is_size") (defScope sSiz) s.heap.objs.size f cdv)) := hr.mono (by omega)
    refine ⟨_, (pss_cons (ps_if (PW.pt (pw_or (pt_not (pt_val (pe_cal T.c_is_number (hr.mono (by omega)) (by rfl) (pa_cons (pv 0) (pa_cons pe_int (pa_cons (C8.pe_gc (by rfl) T.g_MOST_PLACES) pa_nil)))))) (pw_or1 (pt_not (pt_val (pe_cal T.c_is_number (hr.mono (by omega)) (by rfl) (pa_cons (pv 1) (pa_cons (C8.pe_gc (by rfl) T.g_LEAST_HUES) (pa_cons (C8.pe_gc (by rfl) T.g_MOST_HUES) pa_nil)))))))))
  (pss_one (ps_ret pe_bl)) pss_nil)
  (pss_one (ps_ret (pe_cmpR op_le (pe_cal T.c_fillings_number (hr.mono (by omega)) (by rfl) (pa_cons (pv 0) (pa_cons (pv 1) pa_nil))) (C8.pe_gc (by rfl) T.g_MOST_FILLINGS) (nomark _))))), ?_⟩
    refine ⟨.int m, rfl, m, 1, 6, rfl, _, rfl, ?_⟩
    by_cases h1 : 1 ≤ m ∧ m ≤ 6
    · rw [decide_eq_true h1]
      refine iteF ⟨.int n, rfl, n, 2, 4, rfl, _, rfl, ?_⟩
      by_cases h2 : 2 ≤ n ∧ n ≤ 4
      · rw [decide_eq_true h2]
        refine iteF ⟨.int m, rfl, .int n, rfl, m, n, rfl, by omega, by omega, by omega, by omega, _, _, rfl, rfl, ?_⟩
        have e : sizeOk m n = decide (n ^ m.toNat ≤ 256) := by
          unfold sizeOk
          rw [decide_eq_true h1, decide_eq_true h2, Bool.true_and, Bool.true_and]
        rw [e] at q
        exact q
      · rw [decide_eq_false h2]
        have e : sizeOk m n = false := by
          unfold sizeOk
          rw [decide_eq_false h2, Bool.and_false, Bool.false_and]
        rw [e] at q
        exact iteT q
    · rw [decide_eq_false h1]
      have e : sizeOk m n = false := by
        unfold sizeOk
        rw [decide_eq_false h1, Bool.false_and, Bool.false_and]
      rw [e] at q
      exact iteT (iteT q)
end
end Rd

set_option Elab.async false
set_option linter.all false
set_option maxRecDepth 100000
set_option maxHeartbeats 4000000
namespace Rd
open PySem PySem.Spec PyProof.Rows L2 Dt
theorem all_false {α : Type} {l : List α} {p : α → Bool} {x : α} (h : x ∈ l) (e : p x = false) : l.all p = false := by
  cases z : l.all p with
  | false => rfl
  | true =>
    have := List.all_eq_true.mp z x h
    rw [e] at this
    cases this
section
variable {P : Program} {w : World} {K : PySem.W.Frag} {mg : Str → Option Value} {base : Heap}
theorem ok_ris {f c Pr : Addr} {fd : FuncData} {Ps : List Addr} {k : Nat} (F : FunC K "is_rising" "is_rising" sRis f fd (.ref c)) (TB : GxR.TabB base mg c Pr) (hP : Pr ∈ Ps) (T : TxtI mg) : FnOk P w K mg base CX0 (k + 2) f fd ["parts"] (spRis Ps) := by
  refine F.ok scRis (fun vs H Q E h => ?_) (fun A outer s H vs Q E hr h => ?_)
  · obtain ⟨pa, rfl, _⟩ := h
    rfl
  · obtain ⟨pa, rfl, hT, hcase⟩ := h
    refine ⟨_, (pss_one (ps_ret (Gx.pe_allX (own := [("k", 1)]) (te := tOp (rLtU K) (tOp (rIxT K) (tVar 0) (tVar 1)) (tOp (rIxT K) (tVar 0) (tOp (rI0 fun i j => .int (i + j)) (tVar 1) (tC (.int 1))))) hr (by rfl) T.m_all rfl scRis.nd TB rfl (blkOk_by (own := [("k", 1)]) (N := nRis) (sc := defScope sRis) (by decide +kernel)) ⟨rfl, by decide +kernel, rfl⟩ (pi_range1 (by rfl) T.m_range (pa_cons (pe_op op_sub (pe_callB call_len_seq (by rfl) T.m_len (by decide +kernel) (pa_cons (pv 0) pa_nil)) pe_int) pa_nil))
   (fun _ _ _ _ _ _ hA => (pg_name (i := 1) scRis.nd rfl (Or.inl rfl))) (fun _ _ _ _ _ _ hA => pts_nil) (fun _ _ _ _ _ _ hA => (pe_cmpR (OpR.or op_lt (op_ltT (Nat.lt_of_le_of_lt (Nat.le_add_right _ 64) hA.units))) (pe_ix ix_tup (pv 0) (pv 1) (fun _ _ => rfl)) (pe_ix ix_tup (pv 0) (pe_op op_add (pv 1) pe_int) (fun _ _ => rfl)) (nomark _)))))), ?_⟩
    rcases hcase with ⟨ns, hpa, hlen, q⟩ | ⟨rs, rows, hpa, prs, hlen, q⟩
    · refine ⟨.ref pa, rfl, pa, _, rfl, .inr (.inl (.inl hpa)), _, 1, rfl, rfl, _, rfl, ?_, ?_, hT _ hP, fun H2 tb => ?_⟩
      · rw [List.length_map]; omega
      · rw [List.length_map]; omega
      have f2 := FrS.one hT hP tb
      have en : (((ns.map V.int).length : Int) - 1).toNat = ns.length - 1 := by rw [List.length_map]; omega
      rw [en]
      refine Gx.all_range (lo := 0) (n := ns.length - 1) (fun i H3 => FrS Ps H H3 ∧ ∀ j, j < i → ns.getD j 0 < ns.getD (j + 1) 0) ⟨f2, fun j hj => absurd hj (Nat.not_lt_zero _)⟩ (fun i H3 hi p => ?_) (fun H3 p => ?_)
      · obtain ⟨f3, hp⟩ := p
        have h1 : i < ns.length := by omega
        have h2 : i + 1 < ns.length := by omega
        have ha := getD_get (d := 0) h1
        have hb := getD_get (d := 0) h2
        have e0 : (0 : Int) + (i : Int) = i := Int.zero_add _
        have e1 : (0 : Int) + (i : Int) + 1 = ((i + 1 : Nat) : Int) := by omega
        refine ⟨rfl, ?_⟩
        dsimp only [tYes]
        rw [if_pos rfl]
        refine ⟨.ref pa, rfl, .int (0 + (i : Int)), rfl, pa, _, _, .int ns[i], rfl, rfl, .inl (.inl (f3.tups hT _ _ hpa)), by rw [e0]; exact atI_nat (by rw [List.getElem?_map, List.getElem?_eq_getElem h1]; rfl), ?_⟩
        refine ⟨.ref pa, rfl, .int (0 + (i : Int)), rfl, _, _, rfl, rfl, pa, _, _, .int ns[i + 1], rfl, rfl, .inl (.inl (f3.tups hT _ _ hpa)), by rw [e1]; exact atI_nat (by rw [List.getElem?_map, List.getElem?_eq_getElem h2]; rfl), .inl ⟨ns[i], ns[i + 1], rfl, rfl, _, rfl, ?_⟩⟩
        by_cases hab : ns[i] < ns[i + 1]
        · rw [if_pos (decide_eq_true hab)]
          refine ⟨f3, fun j hj => ?_⟩
          by_cases ej : j = i
          · rw [ej, ha, hb]
            exact hab
          · exact hp j (by omega)
        · rw [if_neg (by rw [decide_eq_true_eq]; exact hab)]
          have e : risI ns = false := all_false (x := i) (List.mem_range.mpr hi) (decide_eq_false (by rw [ha, hb]; exact hab))
          rw [e] at q
          exact q H3 f3
      · have e : risI ns = true := List.all_eq_true.mpr fun j hj => decide_eq_true (p.2 j (List.mem_range.mp hj))
        rw [e] at q
        exact q H3 p.1
    · have rl := pairedLen prs
      refine ⟨.ref pa, rfl, pa, _, rfl, .inr (.inl (.inl hpa)), _, 1, rfl, rfl, _, rfl, ?_, ?_, hT _ hP, fun H2 tb => ?_⟩
      · rw [List.length_map]; omega
      · rw [List.length_map]; omega
      have f2 := FrS.one hT hP tb
      have en : (((rs.map V.ref).length : Int) - 1).toNat = rows.length - 1 := by rw [List.length_map]; omega
      rw [en]
      refine Gx.all_range (lo := 0) (n := rows.length - 1) (fun i H3 => FrS Ps H H3 ∧ ∀ j, j < i → HT.lexLt (rows.getD j []) (rows.getD (j + 1) []) = true) ⟨f2, fun j hj => absurd hj (Nat.not_lt_zero _)⟩ (fun i H3 hi p => ?_) (fun H3 p => ?_)
      · obtain ⟨f3, hp⟩ := p
        have h1 : i < rows.length := by omega
        have h2 : i + 1 < rows.length := by omega
        have ha := getD_get (d := []) h1
        have hb := getD_get (d := []) h2
        obtain ⟨pa1, ea1, ra1⟩ := pairedGet prs (List.getElem?_eq_getElem h1)
        obtain ⟨pb1, eb1, rb1⟩ := pairedGet prs (List.getElem?_eq_getElem h2)
        have e0 : (0 : Int) + (i : Int) = i := Int.zero_add _
        have e1 : (0 : Int) + (i : Int) + 1 = ((i + 1 : Nat) : Int) := by omega
        refine ⟨rfl, ?_⟩
        dsimp only [tYes]
        rw [if_pos rfl]
        refine ⟨.ref pa, rfl, .int (0 + (i : Int)), rfl, pa, _, _, .ref pa1, rfl, rfl, .inl (.inl (f3.tups hT _ _ hpa)), by rw [e0]; exact atI_nat (by rw [List.getElem?_map, ea1]; rfl), ?_⟩
        refine ⟨.ref pa, rfl, .int (0 + (i : Int)), rfl, _, _, rfl, rfl, pa, _, _, .ref pb1, rfl, rfl, .inl (.inl (f3.tups hT _ _ hpa)), by rw [e1]; exact atI_nat (by rw [List.getElem?_map, eb1]; rfl), .inr ⟨pa1, pb1, rows[i], rows[i + 1], rfl, rfl, .inl (.inl (f3.tups hT _ _ ra1)), .inl (.inl (f3.tups hT _ _ rb1)), _, rfl, ?_⟩⟩
        by_cases hab : HT.lexLt rows[i] rows[i + 1] = true
        · rw [if_pos hab]
          refine ⟨f3, fun j hj => ?_⟩
          by_cases ej : j = i
          · rw [ej, ha, hb]
            exact hab
          · exact hp j (by omega)
        · rw [if_neg hab]
          have e : risR rows = false := all_false (x := i) (List.mem_range.mpr hi) (by rw [ha, hb]; exact Bool.eq_false_iff.mpr hab)
          rw [e] at q
          exact q H3 f3
      · have e : risR rows = true := List.all_eq_true.mpr fun j hj => p.2 j (List.mem_range.mp hj)
        rw [e] at q
        exact q H3 p.1
theorem ok_pls {f c Pp : Addr} {fd : FuncData} {Ps : List Addr} {k : Nat} (F : FunC K "are_places" "are_places" sPls f fd (.ref c)) (TB : GxR.TabB base mg c Pp) (hP : Pp ∈ Ps) (T : TxtI2 P w K mg base Ps) : FnOk P w K mg base CX0 (k + 3) f fd ["thing", "many"] (spPls Ps) := by
  refine F.ok scPls (fun vs H Q E h => ?_) (fun A outer s H vs Q E hr h => ?_)
  · obtain ⟨pa, ns, many, rfl, _⟩ := h
    rfl
  · obtain ⟨pa, ns, many, rfl, hT, hpa, l10, q⟩ := h
    have hr2 : Room 2 (A.deeper (envOfC (Str.ofString "are_places") (defScope sPls) s.heap.objs.size f (.ref c))) := hr.mono (by omega)
    refine ⟨_, (pss_cons (ps_if (PW.pt (pw_or (pt_not (pt_val (pe_callB call_isi (by rfl) T.m_isinstance (by decide +kernel) (pa_cons (pv 0) (pa_cons (pe_bltn (v := .ty "tuple") (by rfl) T.m_tuple (by decide +kernel) rfl) pa_nil))))) (pw_or1 (pt_not (pt_chain op_le op_le pe_int (pe_callB call_len_seq (by rfl) T.m_len (by decide +kernel) (pa_cons (pv 0) pa_nil)) (C8.pe_gc (by rfl) T.g_MOST_PLACES_OF_A_WISH))))))
  (pss_one (ps_ret pe_bl)) pss_nil)
  (pss_one (ps_ret (pe_and (Gx.pe_allX (own := [("place", 2)]) hr (by rfl) T.m_all rfl scPls.nd TB rfl (blkOk_by (own := [("place", 2)]) (N := nPls) (sc := defScope sPls) (by decide +kernel)) ⟨rfl, by decide +kernel, rfl⟩ (pi_tup (pv 0))
   (fun _ _ _ _ _ _ hA => (pg_name (i := 2) scPls.nd rfl (Or.inl rfl))) (fun _ _ _ _ _ _ hA => pts_nil) (fun _ _ _ _ _ _ hA => (pe_cal T.c_is_number (hA.mono (by omega)) (by rfl) (pa_cons (pv 2) (pa_cons pe_int (pa_cons (pe_op op_sub (pv 1) pe_int) pa_nil)))))) (pe_one (pe_cal T.c_is_rising (hr.mono (by omega)) (by rfl) (pa_cons (pv 0) pa_nil))))))), ?_⟩
    refine ⟨.ref pa, rfl, .ref pa, .ty "tuple", .type "tuple", .type "tuple", true, rfl, .ty _, .base (.tup hpa), kit_ty (by decide +kernel), true, rfl, iteF ?_⟩
    refine ⟨.ref pa, rfl, pa, _, rfl, .inr (.inl (.inl hpa)), _, _, rfl, rfl, _, rfl, ?_⟩
    rw [List.length_map]
    unfold plsB at q
    by_cases l1 : 1 ≤ ns.length
    · rw [if_pos (decide_eq_true (show (1 : Int) ≤ (ns.length : Int) by omega))]
      refine ⟨_, _, rfl, rfl, _, rfl, ?_⟩
      rw [decide_eq_true l1, Bool.true_and] at q
      by_cases l3 : ns.length ≤ 3
      · rw [decide_eq_true (show ((ns.length : Nat) : Int) ≤ 3 by omega)]
        rw [decide_eq_true l3, Bool.true_and] at q
        refine iteF ?_
        refine ⟨.ref pa, rfl, pa, rfl, ⟨_, .inl (.inl hpa)⟩, hT _ hP, fun H2 tb => ?_⟩
        have f2 := FrS.one hT hP tb
        refine Gx.all_tup (K := K) (a := pa) (xs := ns.map V.int) (fun i H3 => FrS Ps H H3 ∧ ∀ p ∈ ns.take i, 0 ≤ p ∧ p ≤ many - 1) ⟨f2, fun _ h => nomatch h⟩ (fun i H3 _ p => .inl (.inl (p.1.tups hT _ _ hpa))) (fun i x H3 hx p => ?_) (fun H3 p => ?_)
        · obtain ⟨n, en, rfl⟩ := map_get hx
          obtain ⟨f3, hp⟩ := p
          refine ⟨rfl, ?_⟩
          dsimp only [tYes]
          rw [if_pos rfl]
          refine ⟨.int n, rfl, .int many, rfl, _, _, rfl, rfl, n, 0, many - 1, rfl, _, rfl, ?_⟩
          by_cases hn : 0 ≤ n ∧ n ≤ many - 1
          · rw [if_pos (decide_eq_true hn)]
            refine ⟨f3, fun p hp2 => ?_⟩
            rw [take_snoc en] at hp2
            rcases List.mem_append.mp hp2 with h | h
            · exact hp p h
            · rw [List.mem_singleton.mp h]
              exact hn
          · rw [if_neg (by rw [decide_eq_true_eq]; exact hn)]
            rw [all_false (List.mem_of_getElem? en) (decide_eq_false hn), Bool.false_and] at q
            exact ⟨false, rfl, iteF (q H3 f3)⟩
        · obtain ⟨f3, hp⟩ := p
          rw [List.length_map, List.take_length] at hp
          have e : (ns.all fun p => decide (0 ≤ p ∧ p ≤ many - 1)) = true := List.all_eq_true.mpr fun p h => decide_eq_true (hp p h)
          rw [e, Bool.true_and] at q
          refine ⟨true, rfl, iteT ?_⟩
          exact ⟨.ref pa, rfl, pa, rfl, f3.2, .inl ⟨ns, f3.tups hT _ _ hpa, l10, fun H4 f4 => q H4 (f3.trans f4)⟩⟩
      · rw [decide_eq_false (show ¬ ((ns.length : Nat) : Int) ≤ 3 by omega)]
        rw [decide_eq_false l3, Bool.false_and, Bool.false_and] at q
        exact iteT (q H (FrS.refl hT))
    · rw [if_neg (by rw [decide_eq_true_eq]; omega)]
      rw [decide_eq_false l1, Bool.false_and, Bool.false_and, Bool.false_and] at q
      exact ⟨_, rfl, iteT (q H (FrS.refl hT))⟩
theorem ok_hus {f c Ph : Addr} {fd : FuncData} {Ps : List Addr} {k : Nat} (F : FunC K "are_hues" "are_hues" sHus f fd (.ref c)) (TB : GxR.TabB base mg c Ph) (hP : Ph ∈ Ps) (T : TxtI2 P w K mg base Ps) : FnOk P w K mg base CX0 (k + 3) f fd ["thing", "length", "hues"] (spHus Ps) := by
  refine F.ok scHus (fun vs H Q E h => ?_) (fun A outer s H vs Q E hr h => ?_)
  · obtain ⟨pa, ns, n, many, rfl, _⟩ := h
    rfl
  · obtain ⟨pa, ns, n, hues, rfl, hT, hpa, q⟩ := h
    have hpa : H pa = some (.tup (ns.map V.int)) := hpa
    refine ⟨_, (pss_cons (ps_if (PW.pt (pw_or (pt_not (pt_val (pe_callB call_isi (by rfl) T.m_isinstance (by decide +kernel) (pa_cons (pv 0) (pa_cons (pe_bltn (v := .ty "tuple") (by rfl) T.m_tuple (by decide +kernel) rfl) pa_nil))))) (pw_or1 (pt_cmpR op_ne (pe_callB call_len_seq (by rfl) T.m_len (by decide +kernel) (pa_cons (pv 0) pa_nil)) (pv 1) (nomark _)))))
  (pss_one (ps_ret pe_bl)) pss_nil)
  (pss_one (ps_ret (Gx.pe_allX (own := [("hue", 3)]) hr (by rfl) T.m_all rfl scHus.nd TB rfl (blkOk_by (own := [("hue", 3)]) (N := nHus) (sc := defScope sHus) (by decide +kernel)) ⟨rfl, by decide +kernel, rfl⟩ (pi_tup (pv 0))
   (fun _ _ _ _ _ _ hA => (pg_name (i := 3) scHus.nd rfl (Or.inl rfl))) (fun _ _ _ _ _ _ hA => pts_nil) (fun _ _ _ _ _ _ hA => (pe_cal T.c_is_number (hA.mono (by omega)) (by rfl) (pa_cons (pv 3) (pa_cons pe_int (pa_cons (pe_op op_sub (pv 2) pe_int) pa_nil))))))))), ?_⟩
    refine ⟨.ref pa, rfl, .ref pa, .ty "tuple", .type "tuple", .type "tuple", true, rfl, .ty _, .base (.tup hpa), kit_ty (by decide +kernel), true, rfl, iteF ?_⟩
    refine ⟨.ref pa, rfl, pa, _, rfl, .inr (.inl (.inl hpa)), _, rfl, rfl, _, rfl, ?_⟩
    rw [List.length_map]
    unfold husB at q
    by_cases el : ns.length = n
    · refine iteNS (by rw [el]) ?_
      rw [decide_eq_true el, Bool.true_and] at q
      refine ⟨.ref pa, rfl, pa, rfl, ⟨_, .inl (.inl hpa)⟩, hT _ hP, fun H2 tb => ?_⟩
      have f2 := FrS.one hT hP tb
      refine Gx.all_tup (K := K) (a := pa) (xs := ns.map V.int) (fun i H3 => FrS Ps H H3 ∧ ∀ p ∈ ns.take i, 0 ≤ p ∧ p ≤ hues - 1) ⟨f2, fun _ h => nomatch h⟩ (fun i H3 _ p => .inl (.inl (p.1.tups hT _ _ hpa))) (fun i x H3 hx p => ?_) (fun H3 p => ?_)
      · obtain ⟨n, en, rfl⟩ := map_get hx
        obtain ⟨f3, hp⟩ := p
        refine ⟨rfl, ?_⟩
        dsimp only [tYes]
        rw [if_pos rfl]
        refine ⟨.int n, rfl, .int hues, rfl, _, _, rfl, rfl, n, 0, hues - 1, rfl, _, rfl, ?_⟩
        by_cases hn : 0 ≤ n ∧ n ≤ hues - 1
        · rw [if_pos (decide_eq_true hn)]
          refine ⟨f3, fun p hp2 => ?_⟩
          rw [take_snoc en] at hp2
          rcases List.mem_append.mp hp2 with h | h
          · exact hp p h
          · rw [List.mem_singleton.mp h]
            exact hn
        · rw [if_neg (by rw [decide_eq_true_eq]; exact hn)]
          rw [all_false (List.mem_of_getElem? en) (decide_eq_false hn)] at q
          exact q H3 f3
      · obtain ⟨f3, hp⟩ := p
        rw [List.length_map, List.take_length] at hp
        have e : (ns.all fun p => decide (0 ≤ p ∧ p ≤ hues - 1)) = true := List.all_eq_true.mpr fun p h => decide_eq_true (hp p h)
        rw [e] at q
        exact q H3 f3
    · rw [decide_eq_false el, Bool.false_and] at q
      have e : (!decide (V.int (ns.length : Int) = V.int (n : Int))) = true := by
        rw [decide_eq_false (fun z => el (by injection z with z; omega))]
        rfl
      rw [e]
      exact iteT (q H (FrS.refl hT))
theorem ok_rws {f c Pw : Addr} {fd : FuncData} {Ps : List Addr} {k : Nat} (F : FunC K "are_rows" "are_rows" sRws f fd (.ref c)) (TB : GxR.TabB base mg c Pw) (hP : Pw ∈ Ps) (T : TxtI3 P w K mg base Ps) : FnOk P w K mg base CX0 (k + 5) f fd ["thing", "length", "hues"] (spRws Ps) := by
  refine F.ok scRws (fun vs H Q E h => ?_) (fun A outer s H vs Q E hr h => ?_)
  · obtain ⟨pa, rs, rows, n, hues, rfl, _⟩ := h
    rfl
  · obtain ⟨pa, rs, rows, n, hues, rfl, hT, hpa, prs, l10, q⟩ := h
    have hr2 : Room 2 (A.deeper (envOfC (Str.ofString "are_rows") (defScope sRws) s.heap.objs.size f (.ref c))) := hr.mono (by omega)
    have rl := pairedLen prs
    refine ⟨_, (pss_cons (ps_if (PW.pt (pw_or (pt_not (pt_val (pe_callB call_isi (by rfl) T.m_isinstance (by decide +kernel) (pa_cons (pv 0) (pa_cons (pe_bltn (v := .ty "tuple") (by rfl) T.m_tuple (by decide +kernel) rfl) pa_nil))))) (pw_or1 (pt_cmpR op_eq (pe_callB call_len_seq (by rfl) T.m_len (by decide +kernel) (pa_cons (pv 0) pa_nil)) pe_int (nomark _)))))
  (pss_one (ps_ret pe_bl)) pss_nil)
  (pss_one (ps_ret (pe_and (Gx.pe_allX (own := [("row", 3)]) hr (by rfl) T.m_all rfl scRws.nd TB rfl (blkOk_by (own := [("row", 3)]) (N := nRws) (sc := defScope sRws) (by decide +kernel)) ⟨rfl, by decide +kernel, rfl⟩ (pi_tup (pv 0))
   (fun _ _ _ _ _ _ hA => (pg_name (i := 3) scRws.nd rfl (Or.inl rfl))) (fun _ _ _ _ _ _ hA => pts_nil) (fun _ _ _ _ _ _ hA => (pe_cal T.c_are_hues (hA.mono (by omega)) (by rfl) (pa_cons (pv 3) (pa_cons (pv 1) (pa_cons (pv 2) pa_nil)))))) (pe_one (pe_cal T.c_is_rising (hr.mono (by omega)) (by rfl) (pa_cons (pv 0) pa_nil))))))), ?_⟩
    refine ⟨.ref pa, rfl, .ref pa, .ty "tuple", .type "tuple", .type "tuple", true, rfl, .ty _, .base (.tup hpa), kit_ty (by decide +kernel), true, rfl, iteF ?_⟩
    refine ⟨.ref pa, rfl, pa, _, rfl, .inr (.inl (.inl hpa)), rfl, _, rfl, ?_⟩
    rw [List.length_map, rl]
    unfold rwsB at q
    by_cases l0 : rows.length ≠ 0
    · have el : decide (V.int (rows.length : Int) = V.int 0) = false := decide_eq_false fun z => by
        injection z with z
        omega
      rw [el]
      refine iteF ?_
      rw [decide_eq_true l0, Bool.true_and] at q
      refine ⟨.ref pa, rfl, pa, rfl, ⟨_, .inl (.inl hpa)⟩, hT _ hP, fun H2 tb => ?_⟩
      have f2 := FrS.one hT hP tb
      refine Gx.all_tup (K := K) (a := pa) (xs := rs.map V.ref) (fun i H3 => FrS Ps H H3 ∧ ∀ r ∈ rows.take i, husB r n hues = true) ⟨f2, fun _ h => nomatch h⟩ (fun i H3 _ p => .inl (.inl (p.1.tups hT _ _ hpa))) (fun i x H3 hx p => ?_) (fun H3 p => ?_)
      · obtain ⟨ra, era, rfl⟩ := map_get hx
        obtain ⟨f3, hp⟩ := p
        obtain ⟨row, hrw, isr⟩ := pairedGetL prs era
        refine ⟨rfl, ?_⟩
        dsimp only [tYes]
        rw [if_pos rfl]
        refine ⟨.ref ra, rfl, .int n, rfl, .int hues, rfl, ra, row, n, hues, rfl, f3.2, f3.tups hT _ _ isr, fun H4 f4 => ⟨_, rfl, ?_⟩⟩
        by_cases hn : husB row n hues = true
        · rw [if_pos hn]
          refine ⟨f3.trans f4, fun p hp2 => ?_⟩
          rw [take_snoc hrw] at hp2
          rcases List.mem_append.mp hp2 with h | h
          · exact hp p h
          · rw [List.mem_singleton.mp h]
            exact hn
        · rw [if_neg hn]
          rw [all_false (List.mem_of_getElem? hrw) (Bool.eq_false_iff.mpr hn), Bool.false_and] at q
          exact ⟨false, rfl, iteF (q H4 (f3.trans f4))⟩
      · obtain ⟨f3, hp⟩ := p
        rw [List.length_map, rl, List.take_length] at hp
        have e : (rows.all fun r => husB r n hues) = true := List.all_eq_true.mpr hp
        rw [e, Bool.true_and] at q
        refine ⟨true, rfl, iteT ?_⟩
        exact ⟨.ref pa, rfl, pa, rfl, f3.2, .inr ⟨rs, rows, f3.tups hT _ _ hpa, pairedMap (fun _ _ e => f3.tups hT _ _ e) prs, l10, fun H4 f4 => q H4 (f3.trans f4)⟩⟩
    · have el : decide (V.int (rows.length : Int) = V.int 0) = true := decide_eq_true (congrArg V.int (by omega))
      rw [el]
      rw [decide_eq_false l0, Bool.false_and, Bool.false_and] at q
      exact iteT (q H (FrS.refl hT))
theorem ok_wsh {f : Addr} {fd : FuncData} {Ps : List Addr} {k : Nat} (F : Fun K "is_wish" "is_wish" sWsh f fd) (T : TxtI4 P w K mg base Ps) : FnOk P w K mg base CX0 (k + 6) f fd ["thing", "many", "hues"] (spWsh Ps) := by
  refine F.ok scWsh (fun vs H Q E h => ?_) (fun cdv A outer s H vs Q E hr h => ?_)
  · obtain ⟨wa, wd, many, hues, rfl, _⟩ := h
    rfl
  · obtain ⟨wa, wd, many, hues, rfl, hT, hw, w1, w2, q⟩ := h
    have hr3 : Room 3 (A.deeper (envOfC (Str.ofString "is_wish") (defScope sWsh) s.heap.objs.size f cdv)) := hr.mono (by omega)
    have hr5 : Room 5 (A.deeper (envOfC (Str.ofString "is_wish") (defScope sWsh) s.heap.objs.size f cdv)) := hr.mono (by omega)
    refine ⟨_, (pss_cons (ps_if (PW.pt (pw_or (pt_not (pt_val (pe_callB call_isi (by rfl) T.m_isinstance (by decide +kernel) (pa_cons (pv 0) (pa_cons (pe_bltn (v := .ty "tuple") (by rfl) T.m_tuple (by decide +kernel) rfl) pa_nil))))) (pw_or1 (pt_cmpR op_ne (pe_callB call_len_seq (by rfl) T.m_len (by decide +kernel) (pa_cons (pv 0) pa_nil)) pe_int (nomark _)))))
  (pss_one (ps_ret pe_bl)) pss_nil)
  (pss_cons (ps_asg (pv 0) (pg_tup rfl (pgs_cons (pg_name (i := 3) scWsh.nd rfl (Or.inl rfl)) (pgs_cons (pg_name (i := 4) scWsh.nd rfl (Or.inl rfl)) pgs_nil))))
  (pss_one (ps_ret (pe_and (pe_cal T.c_are_places (hr.mono (by omega)) (by rfl) (pa_cons (pv 3) (pa_cons (pv 1) pa_nil))) (pe_one (pe_cal T.c_are_rows (hr.mono (by omega)) (by rfl) (pa_cons (pv 4) (pa_cons (pe_callB call_len_seq (by rfl) T.m_len (by decide +kernel) (pa_cons (pv 3) pa_nil)) (pa_cons (pv 2) pa_nil)))))))))), ?_⟩
    obtain ⟨pa, ra, rs, h1, h2, h3, h4⟩ := id hw
    refine ⟨.ref wa, rfl, .ref wa, .ty "tuple", .type "tuple", .type "tuple", true, rfl, .ty _, .base (.tup h1), kit_ty (by decide +kernel), true, rfl, iteF ?_⟩
    refine ⟨.ref wa, rfl, wa, _, rfl, .inr (.inl (.inl h1)), rfl, _, rfl, iteNS rfl ?_⟩
    refine ⟨.ref wa, rfl, wa, _, rfl, .inl (.inl h1), rfl, .ref pa, [.ref ra], rfl, .ref ra, [], rfl, rfl, ?_⟩
    unfold wshB at q
    refine ⟨.ref pa, rfl, .int many, rfl, pa, wd.1, many, rfl, hT, h2, w1, fun H2 f2 => ⟨_, rfl, ?_⟩⟩
    cases e : plsB wd.1 many with
    | true =>
      rw [e, Bool.true_and] at q
      refine iteT ?_
      exact ⟨.ref ra, rfl, .ref pa, rfl, pa, _, rfl, .inr (.inl (.inl (f2.tups hT _ _ h2))), .int hues, rfl, ra, rs, wd.2, wd.1.length, hues, by rw [List.length_map]; rfl, f2.2, f2.tups hT _ _ h3, pairedMap (fun _ _ e => f2.tups hT _ _ e) h4, w2, fun H3 f3 => q H3 (f2.trans f3)⟩
    | false =>
      rw [e, Bool.false_and] at q
      exact iteF (q H2 f2)
theorem ok_ird {f c Pi : Addr} {fd : FuncData} {Ps : List Addr} {k : Nat} (F : FunC K "is_riddle" "is_riddle" sIrd f fd (.ref c)) (TB : GxR.TabB base mg c Pi) (hP : Pi ∈ Ps) (T : TxtI5 P w K mg base Ps) : FnOk P w K mg base CX0 (k + 8) f fd ["thing"] (spIrd Ps) := by
  refine F.ok scIrd (fun vs H Q E h => ?_) (fun A outer s H vs Q E hr h => ?_)
  · obtain ⟨ri, many, hues, wds, rfl, _⟩ := h
    rfl
  · obtain ⟨ri, many, hues, wds, rfl, hT, rid, few, l10, q⟩ := h
    have hr2 : Room 2 (A.deeper (envOfC (Str.ofString "is_riddle") (defScope sIrd) s.heap.objs.size f (.ref c))) := hr.mono (by omega)
    refine ⟨_, (pss_cons (ps_if (PW.pt (pw_or (pt_not (pt_val (pe_callB call_isi (by rfl) T.m_isinstance (by decide +kernel) (pa_cons (pv 0) (pa_cons (pe_bltn (v := .ty "tuple") (by rfl) T.m_tuple (by decide +kernel) rfl) pa_nil))))) (pw_or1 (pt_cmpR op_ne (pe_callB call_len_seq (by rfl) T.m_len (by decide +kernel) (pa_cons (pv 0) pa_nil)) pe_int (nomark _)))))
  (pss_one (ps_ret pe_bl)) pss_nil)
  (pss_cons (ps_asg (pv 0) (pg_tup rfl (pgs_cons (pg_name (i := 1) scIrd.nd rfl (Or.inr rfl)) (pgs_cons (pg_name (i := 2) scIrd.nd rfl (Or.inr rfl)) (pgs_cons (pg_name (i := 3) scIrd.nd rfl (Or.inl rfl)) pgs_nil)))))
  (pss_cons (ps_if (pt_not (pt_val (pe_cal T.c_is_size (hr.mono (by omega)) (by rfl) (pa_cons (pv 1) (pa_cons (pv 2) pa_nil)))))
  (pss_one (ps_ret pe_bl)) pss_nil)
  (pss_cons (ps_if (PW.pt (pw_or (pt_not (pt_val (pe_callB call_isi (by rfl) T.m_isinstance (by decide +kernel) (pa_cons (pv 3) (pa_cons (pe_bltn (v := .ty "tuple") (by rfl) T.m_tuple (by decide +kernel) rfl) pa_nil))))) (pw_or1 (pt_cmpR op_gt (pe_callB call_len_seq (by rfl) T.m_len (by decide +kernel) (pa_cons (pv 3) pa_nil)) (C8.pe_gc (by rfl) T.g_MOST_WISHES) (nomark _)))))
  (pss_one (ps_ret pe_bl)) pss_nil)
  (pss_one (ps_ret (Gx.pe_allX (own := [("wish", 4)]) hr (by rfl) T.m_all rfl scIrd.nd TB rfl (blkOk_by (own := [("wish", 4)]) (N := nIrd) (sc := defScope sIrd) (by decide +kernel)) ⟨rfl, by decide +kernel, rfl⟩ (pi_tup (pv 3))
   (fun _ _ _ _ _ _ hA => (pg_name (i := 4) scIrd.nd rfl (Or.inl rfl))) (fun _ _ _ _ _ _ hA => pts_nil) (fun _ _ _ _ _ _ hA => (pe_cal T.c_is_wish (hA.mono (by omega)) (by rfl) (pa_cons (pv 4) (pa_cons (pv 1) (pa_cons (pv 2) pa_nil)))))))))))), ?_⟩
    obtain ⟨wt, was, h1, h2, h3⟩ := id rid
    have hl := pairedLen h3
    refine ⟨.ref ri, rfl, .ref ri, .ty "tuple", .type "tuple", .type "tuple", true, rfl, .ty _, .base (.tup h1), kit_ty (by decide +kernel), true, rfl, iteF ?_⟩
    refine ⟨.ref ri, rfl, ri, _, rfl, .inr (.inl (.inl h1)), rfl, _, rfl, iteNS rfl ?_⟩
    refine ⟨.ref ri, rfl, ri, _, rfl, .inl (.inl h1), rfl, .int many, [.int hues, .ref wt], rfl, .int hues, [.ref wt], rfl, .ref wt, [], rfl, rfl, ?_⟩
    unfold irdB at q
    refine ⟨.int many, rfl, .int hues, rfl, many, hues, rfl, sizeOk many hues, rfl, ?_⟩
    cases es : sizeOk many hues with
    | false =>
      rw [es, Bool.false_and, Bool.false_and] at q
      exact iteT (q H (FrS.refl hT))
    | true =>
      rw [es, Bool.true_and] at q
      refine iteF ?_
      refine ⟨.ref wt, rfl, .ref wt, .ty "tuple", .type "tuple", .type "tuple", true, rfl, .ty _, .base (.tup h2), kit_ty (by decide +kernel), true, rfl, iteF ?_⟩
      refine ⟨.ref wt, rfl, wt, _, rfl, .inr (.inl (.inl h2)), _, _, rfl, rfl, _, rfl, ?_⟩
      rw [List.length_map, hl]
      by_cases e8 : wds.length ≤ 8
      · rw [decide_eq_false (show ¬ (8 : Int) < ((wds.length : Nat) : Int) by omega)]
        rw [decide_eq_true e8, Bool.true_and] at q
        refine iteF ?_
        refine ⟨.ref wt, rfl, wt, rfl, ⟨_, .inl (.inl h2)⟩, hT _ hP, fun H2 tb => ?_⟩
        have f2 := FrS.one hT hP tb
        refine Gx.all_tup (K := K) (a := wt) (xs := was.map V.ref) (fun i H3 => FrS Ps H H3 ∧ ∀ wd ∈ wds.take i, wshB wd many hues = true) ⟨f2, fun _ h => nomatch h⟩ (fun i H3 _ p => .inl (.inl (p.1.tups hT _ _ h2))) (fun i x H3 hx p => ?_) (fun H3 p => ?_)
        · obtain ⟨wa, ewa, rfl⟩ := map_get hx
          obtain ⟨f3, hp⟩ := p
          obtain ⟨wd, hwd, isw⟩ := pairedGetL h3 ewa
          have hf := few wd (List.mem_of_getElem? hwd)
          refine ⟨rfl, ?_⟩
          dsimp only [tYes]
          rw [if_pos rfl]
          refine ⟨.ref wa, rfl, .int many, rfl, .int hues, rfl, wa, wd, many, hues, rfl, f3.2, isw.mono (f3.tups hT), hf.1, hf.2, fun H4 f4 => ⟨_, rfl, ?_⟩⟩
          by_cases hn : wshB wd many hues = true
          · rw [if_pos hn]
            refine ⟨f3.trans f4, fun p hp2 => ?_⟩
            rw [take_snoc hwd] at hp2
            rcases List.mem_append.mp hp2 with h | h
            · exact hp p h
            · rw [List.mem_singleton.mp h]
              exact hn
          · rw [if_neg hn]
            rw [all_false (List.mem_of_getElem? hwd) (Bool.eq_false_iff.mpr hn)] at q
            exact q H4 (f3.trans f4)
        · obtain ⟨f3, hp⟩ := p
          rw [List.length_map, hl, List.take_length] at hp
          have e : (wds.all fun wd => wshB wd many hues) = true := List.all_eq_true.mpr hp
          rw [e] at q
          exact q H3 f3
      · rw [decide_eq_true (show (8 : Int) < ((wds.length : Nat) : Int) by omega)]
        rw [decide_eq_false e8, Bool.false_and] at q
        exact iteT (q H (FrS.refl hT))
end
end Rd

set_option Elab.async false
set_option linter.all false
set_option maxRecDepth 100000
set_option maxHeartbeats 4000000
namespace Rd
open PySem PySem.Spec PyProof.Rows L2 Dt TL
abbrev sFig : Stmt := topS 33
abbrev nFig : List Str := ["word"]
theorem scFig : FnScope nFig ["word"] (defScope sFig) := ⟨rfl, rfl, rfl, by decide +kernel, rfl, by decide +kernel, by decide +kernel⟩
abbrev sRwi : Stmt := topS 34
abbrev nRwi : List Str := ["line", "before", "colon", "behind", "places", "rows", "word", "sign"]
theorem scRwi : FnScope nRwi ["line"] (defScope sRwi) := ⟨rfl, rfl, rfl, by decide +kernel, rfl, by decide +kernel, by decide +kernel⟩
abbrev sRri : Stmt := topS 35
abbrev nRri : List Str := ["text", "lines", "head", "riddle", "line"]
theorem scRri : FnScope nRri ["text"] (defScope sRri) := ⟨rfl, rfl, rfl, by decide +kernel, rfl, by decide +kernel, by decide +kernel⟩
def spFig : Sp := fun vs H Q _ => ∃ t : Str, vs = [.str t] ∧ Q (.int (figI t)) H
def spRwi (AA Qs : List Addr) : Sp := fun vs H Q _ => ∃ t : Str, vs = [.str t] ∧ t.length ≤ 6000 ∧ Gx.Nests AA Qs H ∧
  ∀ H' wa, NFr AA Qs H H' → IsWish H' wa (readW t) → Q (.ref wa) H'
def spRri (Ps AA Qs : List Addr) (D : Addr) : Sp := fun vs H Q E => ∃ t : Str, vs = [.str t] ∧ t.length ≤ 6000 ∧ Tabs Ps H ∧ Gx.Nests AA Qs H ∧ (∀ P ∈ Ps, P ∈ AA) ∧ (∀ P ∈ Qs, P ∉ Ps) ∧
  (∀ H' ri many hues wds, NFr AA Qs H H' → IsRid H' ri many hues wds → readR t = some (many, hues, wds) → irdB many hues wds = true → ridT many hues wds = t → Q (.ref ri) H') ∧
  ∀ H', NFr AA Qs H H' → (∀ many hues wds, readR t = some (many, hues, wds) → irdB many hues wds = true → ridT many hues wds ≠ t) → E (.ref D) none H'
structure TxtF1 (mg : Str → Option Value) : Prop where
  g_FIGURES : ∃ u, mg "FIGURES" = some u ∧ RelV (.str figS) u
structure TxtF2 (P : Program) (w : World) (K : PySem.W.Frag) (mg : Str → Option Value) (base : Heap) : Prop where
  m_tuple : mg "tuple" = none
  c_figure : Cal P w K mg base 1 "figure" ["word"] spFig
structure TxtF3 (P : Program) (w : World) (K : PySem.W.Frag) (mg : Str → Option Value) (base : Heap) (Ps AA Qs : List Addr) : Prop where
  m_isinstance : mg "isinstance" = none
  m_str : mg "str" = none
  m_len : mg "len" = none
  m_tuple : mg "tuple" = none
  c_figure : Cal P w K mg base 1 "figure" ["word"] spFig
  c_read_wish : Cal P w K mg base 6 "read_wish" ["line"] (spRwi AA Qs)
  c_is_riddle : Cal P w K mg base 8 "is_riddle" ["thing"] (spIrd Ps)
  c_show_riddle : Cal P w K mg base 7 "show_riddle" ["riddle"] (spSri AA Qs)
structure ClsT (K : PySem.W.Frag) (mg : Str → Option Value) (D : Addr) : Prop extends Cls1 K D where
  g_NoText : mg "NoText" = some (.ref D)
theorem mem_sum {α : Type} {f : α → Nat} : ∀ {l : List α} {x : α}, x ∈ l → f x ≤ (l.map f).sum
  | y :: r, x, h => by
    rw [List.map_cons, List.sum_cons]
    rcases List.mem_cons.mp h with rfl | h
    · omega
    · have := mem_sum (f := f) h
      omega
theorem part_short (x y : Str) : (Txt.partition x y).1.length ≤ x.length ∧ (Txt.partition x y).2.2.length ≤ x.length := by
  unfold Txt.partition
  split
  · exact ⟨strSub_length_le .., strSub_length_le ..⟩
  · exact ⟨Nat.le_refl _, Nat.zero_le _⟩
section
variable {P : Program} {w : World} {K : PySem.W.Frag} {mg : Str → Option Value} {base : Heap}
theorem ok_fig {f : Addr} {fd : FuncData} {k : Nat} (F : Fun K "figure" "figure" sFig f fd) (T : TxtF1 mg) : FnOk P w K mg base CX0 (k + 1) f fd ["word"] spFig := by
  refine F.ok scFig (fun vs H Q E h => ?_) (fun cdv A outer s H vs Q E hr h => ?_)
  · obtain ⟨t, rfl, _⟩ := h
    rfl
  · obtain ⟨t, rfl, q⟩ := h
    refine ⟨_, (pss_one (ps_ret (pe_m1 PySem.F.slot_str_find PySem.F.type_str_find mt_find (C8.pe_gc (by rfl) T.g_FIGURES) (pv 0)))), ?_⟩
    exact ⟨⟨_, rfl⟩, .str t, rfl, figS, t, rfl, rfl, q⟩
set_option maxHeartbeats 16000000 in
theorem ok_rwi {f c Pt : Addr} {AA Qs : List Addr} {fd : FuncData} {k : Nat} (F : FunC K "read_wish" "read_wish" sRwi f fd (.ref c)) (TB : GxR.TabB base mg c Pt) (hP : Pt ∈ Qs) (T : TxtF2 P w K mg base) : FnOk P w K mg base CX0 (k + 6) f fd ["line"] (spRwi AA Qs) := by
  refine F.ok scRwi (fun vs H Q E h => ?_) (fun A outer s H vs Q E hr h => ?_)
  · obtain ⟨t, rfl, _⟩ := h
    rfl
  · obtain ⟨t, rfl, tl6, hN, q⟩ := h
    refine ⟨_, (pss_cons (ps_asg (pe_partition (pv 0) pe_str) (pg_tup rfl (pgs_cons (pg_name (i := 1) scRwi.nd rfl (Or.inl rfl)) (pgs_cons (pg_name (i := 2) scRwi.nd rfl (Or.inl rfl)) (pgs_cons (pg_name (i := 3) scRwi.nd rfl (Or.inl rfl)) pgs_nil)))))
  (pss_cons (ps_set (i := 4) scRwi.nd rfl (Or.inl rfl) (Gx.pe_tupN (own := [("word", 6)]) (AA := AA) (g := gName 6) (tt := tYes) (te := fun _ => tCall spFig [] E0 (tCons (tVar 6) tNil)) hr (by rfl) T.m_tuple rfl scRwi.nd TB hP rfl (blkOk_by (own := [("word", 6)]) (N := nRwi) (sc := defScope sRwi) (by decide +kernel)) ⟨rfl, by decide +kernel, rfl⟩ (pi_list (pe_slice sl_list (pe_split (pv 1) pe_str) (po_some pe_int) po_none))
   (fun _ _ _ _ _ _ hA => (pg_name (i := 6) scRwi.nd rfl (Or.inl rfl))) (fun _ _ _ _ _ _ hA => pts_nil) (fun _ _ _ _ code _ hA => (pe_cal T.c_figure (hA.mono (by omega)) (by rfl) (pa_cons (pv 6) pa_nil)))))
  (pss_cons (ps_set (i := 5) scRwi.nd rfl (Or.inl rfl) (Gx.pe_tupN (own := [("word", 6)]) (AA := AA) (g := gName 6) (tt := tYes) (te := fun code => Gx.tTI (iStr (tVar 6)) (gName 7) tYes (tCall spFig [] E0 (tCons (tVar 7) tNil)) [7] code) hr (by rfl) T.m_tuple rfl scRwi.nd TB hP rfl (blkOk_by (own := [("word", 6)]) (N := nRwi) (sc := defScope sRwi) (by decide +kernel)) ⟨rfl, by decide +kernel, rfl⟩ (pi_list (pe_split (pv 3) pe_str))
   (fun _ _ _ _ _ _ hA => (pg_name (i := 6) scRwi.nd rfl (Or.inl rfl))) (fun _ _ _ _ _ _ hA => pts_nil) (fun _ _ _ _ code _ hA => (Gx.pe_tupI (own := [("sign", 7)]) (g := gName 7) (tt := tYes) (te := tCall spFig [] E0 (tCons (tVar 7) tNil)) hA (by rfl) T.m_tuple rfl scRwi.nd TB rfl (blkOk_by (own := [("sign", 7)]) (N := nRwi) (sc := { kind := .function, names := [(".0", .local), ("word", .local), ("tuple", .globalImplicit)], isGenerator := true, isCoroutine := false }) (by decide +kernel)) ⟨rfl, by decide +kernel, rfl⟩ (pi_str (pv 6))
   (fun _ _ _ _ _ _ hA => (pg_name (i := 7) scRwi.nd rfl (Or.inl rfl))) (fun _ _ _ _ _ _ hA => pts_nil) (fun _ _ _ _ code _ hA => (pe_cal T.c_figure (hA.mono (by omega)) (by rfl) (pa_cons (pv 7) pa_nil)))))))
  (pss_one (ps_ret (pe_tup (pa_cons (pv 4) (pa_cons (pv 5) pa_nil)))))))), ?_⟩
    have sp1 : (Str.ofString " ").length = 1 := by decide +kernel
    have big : 10000 ≤ sizeLine := by decide
    obtain ⟨b1, b2, b3, eP, lb1, lb3⟩ : ∃ b1 b2 b3, Txt.partition t (Str.ofString ": ") = (b1, b2, b3) ∧ b1.length ≤ 6000 ∧ b3.length ≤ 6000 := by
      refine ⟨(Txt.partition t (Str.ofString ": ")).1, (Txt.partition t (Str.ofString ": ")).2.1, (Txt.partition t (Str.ofString ": ")).2.2, rfl, ?_, ?_⟩
      · have := part_short t (Str.ofString ": ")
        omega
      · have := part_short t (Str.ofString ": ")
        omega
    have w1 := split_weight b1 (Str.ofString " ") (by omega)
    have w3 := split_weight b3 (Str.ofString " ") (by omega)
    have wd3 : ∀ x ∈ Txt.split b3 (Str.ofString " "), x.length ≤ 6001 := fun x hx => by
      have := mem_sum (f := fun y : Str => y.length) hx
      omega
    have eW : readW t = (((Txt.split b1 (Str.ofString " ")).drop 1).map figI, (Txt.split b3 (Str.ofString " ")).map rowR) := by
      unfold readW
      rw [eP]
    refine ⟨.str t, rfl, ⟨t, rfl⟩, t, _, rfl, rfl, (by decide +kernel), by omega, fun tp ntp => ?_⟩
    rw [eP]
    have s0 := same_upd (o := .tup [.str b1, .str b2, .str b3]) ntp
    refine ⟨tp, _, rfl, .inl (.inl upd_same), rfl, .str b1, [.str b2, .str b3], rfl, .str b2, [.str b3], rfl, .str b3, [], rfl, rfl, ?_⟩
    have F0 := (NFr.refl hN).same s0
    generalize upd H tp (.tup [.str b1, .str b2, .str b3]) = H0 at s0 F0
    -- places
    refine ⟨.str b1, rfl, ⟨b1, rfl⟩, b1, _, rfl, rfl, (by decide +kernel), by omega, fun l1 nl1 => ?_⟩
    have s1 := same_upd (o := .lst ((Txt.split b1 (Str.ofString " ")).map V.str)) nl1
    have hl1 : upd H0 l1 (.lst ((Txt.split b1 (Str.ofString " ")).map V.str)) l1 = _ := upd_same
    refine ⟨1, rfl, l1, _, rfl, .inl (.inl hl1), fun l2 nl2 => ?_⟩
    have ecut : cutV ((Txt.split b1 (Str.ofString " ")).map V.str) (some 1) none = ((Txt.split b1 (Str.ofString " ")).drop 1).map V.str := by
      have z := cut_from V.str (Txt.split b1 (Str.ofString " ")) 1
      exact z
    rw [ecut]
    have s2 := same_upd (o := .lst (((Txt.split b1 (Str.ofString " ")).drop 1).map V.str)) nl2
    have F2 := (F0.same s1).same s2
    have hl2 : upd (upd H0 l1 (.lst ((Txt.split b1 (Str.ofString " ")).map V.str))) l2 (.lst (((Txt.split b1 (Str.ofString " ")).drop 1).map V.str)) l2 = some (.lst (((Txt.split b1 (Str.ofString " ")).drop 1).map V.str)) := upd_same
    generalize upd (upd H0 l1 (.lst ((Txt.split b1 (Str.ofString " ")).map V.str))) l2 (.lst (((Txt.split b1 (Str.ofString " ")).drop 1).map V.str)) = H2 at s2 F2 hl2
    generalize hA1 : (Txt.split b1 (Str.ofString " ")).drop 1 = A1 at hl2 eW
    have lA1 : A1.length ≤ 6001 := by
      rw [← hA1, List.length_drop]
      omega
    refine ⟨l2, rfl, ⟨_, .inl (.inl hl2)⟩, F2.nest, fun c1 P1 H3 n3 => ?_⟩
    have F3 := F2.nested hP n3
    have hl3 := (NFr.refl F2.nest).nested hP n3 |>.seqs.2 _ _ hl2
    refine Gx.tup_list (K := K) (a := l2) (xs := A1.map V.str) (by rw [List.length_map]; omega) (fun i ys H4 => H4 = H3 ∧ ys = (A1.take i).map fun x => V.int (figI x)) ⟨rfl, rfl⟩ (fun i ys H4 _ p => .inl (.inl (by rw [p.1]; exact hl3))) (fun i ys H4 p => by rw [p.2, List.length_map, List.length_take]; omega) (fun i x ys H4 hx p => ?_) (fun ys H4 p => ?_)
    · obtain ⟨p1, ep, rfl⟩ := map_get hx
      obtain ⟨e4, rfl⟩ := p
      refine ⟨rfl, yes_if ⟨.str p1, rfl, p1, rfl, e4, ?_⟩⟩
      rw [take_snoc ep, List.map_append]
      rfl
    obtain ⟨e4, rfl⟩ := p
    rw [e4]
    rw [List.length_map, List.take_length]
    intro pa npa
    have s4 := same_upd (o := .tup (A1.map fun x => V.int (figI x))) npa
    have F4 := F3.same s4
    have hpa : upd H3 pa (.tup (A1.map fun x => V.int (figI x))) pa = some (.tup ((A1.map figI).map V.int)) := by
      rw [upd_same, List.map_map]
      rfl
    generalize upd H3 pa (.tup (A1.map fun x => V.int (figI x))) = H4' at s4 F4 hpa
    -- rows
    refine ⟨.str b3, rfl, ⟨b3, rfl⟩, b3, _, rfl, rfl, (by decide +kernel), by omega, fun l5 nl5 => ?_⟩
    have s5 := same_upd (o := .lst ((Txt.split b3 (Str.ofString " ")).map V.str)) nl5
    have F5 := F4.same s5
    have hl5 : upd H4' l5 (.lst ((Txt.split b3 (Str.ofString " ")).map V.str)) l5 = some (.lst ((Txt.split b3 (Str.ofString " ")).map V.str)) := upd_same
    have hpa5 := s5 _ _ hpa
    generalize upd H4' l5 (.lst ((Txt.split b3 (Str.ofString " ")).map V.str)) = H5 at s5 F5 hl5 hpa5
    generalize Txt.split b3 (Str.ofString " ") = A3 at hl5 eW w3 wd3
    refine ⟨l5, rfl, ⟨_, .inl (.inl hl5)⟩, F5.nest, fun c' P' H6 n6 => ?_⟩
    have G6 := (NFr.refl F5.nest).nested hP n6
    have F6 := F5.nested hP n6
    refine Gx.tup_list (K := K) (a := l5) (xs := A3.map V.str) (by rw [List.length_map]; omega) (fun i ys H7 => (NFr AA Qs H5 H7 ∧ H7 c' = some (Gx.CodeO c' P') ∧ GxR.TabG H7 P') ∧ ∃ rs : List Addr, ys = rs.map V.ref ∧ Paired (IsRow H7) rs ((A3.take i).map rowR)) ⟨⟨G6, n6.code, n6.tab⟩, [], rfl, .nil⟩ (fun i ys H7 _ p => .inl (.inl (p.1.1.seqs.2 _ _ hl5))) (fun i ys H7 p => ?_) (fun i x ys H7 hx p => ?_) (fun ys H7 p => ?_)
    · obtain ⟨_, rs, rfl, pr⟩ := p
      have z := pairedLen pr
      rw [List.length_map, List.length_take] at z
      rw [List.length_map]
      omega
    · obtain ⟨w0, ew, rfl⟩ := map_get hx
      obtain ⟨⟨G7, hc7, tb7⟩, rs, rfl, pr⟩ := p
      have lw := wd3 w0 (List.mem_of_getElem? ew)
      have ls : w0.cps.size ≤ sizeLine := by
        have : w0.cps.size = w0.length := rfl
        omega
      refine ⟨rfl, yes_if ⟨c', P', rfl, .str w0, rfl, w0, rfl, hc7, tb7, fun H8 t8 => ?_⟩⟩
      have G8 := G7.tabbed n6.ne tb7 t8
      have k8 : ∀ b o, (∀ ps, o ≠ .tbl ps) → H7 b = some o → H8 b = some o := fun b o nt e => by
        rw [t8.2 b (fun z => by
          obtain ⟨ps, t1, _⟩ := tb7
          rw [z, t1] at e
          exact nt ps (Option.some.inj e).symm)]
        exact e
      refine Gx.tup_str (x := w0) ls (fun j ys H9 => H9 = H8 ∧ ys = ((signs w0).take j).map fun z => V.int (figI z)) ⟨rfl, rfl⟩ (fun j ys H9 p => by rw [p.2, List.length_map, List.length_take]; omega) (fun j z ys H9 hz p => ?_) (fun ys H9 p => ?_)
      · obtain ⟨e9, rfl⟩ := p
        have ez : (signs w0)[j]? = some ⟨#[z]⟩ := by
          unfold signs
          rw [List.getElem?_map]
          have : (tl w0)[j]? = some z := by rw [Array.getElem?_toList]; exact hz
          rw [this]
          rfl
        refine ⟨rfl, yes_if ⟨.str ⟨#[z]⟩, rfl, ⟨#[z]⟩, rfl, e9, ?_⟩⟩
        rw [take_snoc ez, List.map_append]
        rfl
      · obtain ⟨e9, rfl⟩ := p
        rw [e9]
        have ls2 : (signs w0).length = w0.cps.size := by
          unfold signs
          rw [List.length_map]
          simp
        rw [← ls2, List.take_length]
        intro r nr
        have s9 := same_upd (o := .tup ((signs w0).map fun z => V.int (figI z))) nr
        refine ⟨⟨G8.same s9, s9 _ _ (k8 _ _ (fun _ z => by cases z) hc7), let ⟨ps, e, r⟩ := t8.1; ⟨ps, s9 _ _ e, r⟩⟩, rs ++ [r], by rw [List.map_append]; rfl, ?_⟩
        rw [take_snoc ew, List.map_append]
        refine pairedSnoc (pairedMap (fun _ _ e => s9 _ _ (k8 _ _ (fun _ z => by cases z) e)) pr) ?_
        show upd H8 r _ r = _
        rw [upd_same]
        unfold rowR
        rw [List.map_map]
        rfl
    obtain ⟨⟨G7, _, _⟩, rs, rfl, pr⟩ := p
    rw [List.length_map, List.take_length] at pr
    intro ra nra
    have s8 := same_upd (o := .tup (rs.map V.ref)) nra
    have hra : upd H7 ra (.tup (rs.map V.ref)) ra = some (.tup (rs.map V.ref)) := upd_same
    have F8 := (F5.trans G7).same s8
    have pr8 : Paired (IsRow (upd H7 ra (.tup (rs.map V.ref)))) rs (A3.map rowR) := pairedMap (fun _ _ e => s8 _ _ e) pr
    have hpa8 := s8 _ _ (G7.seqs.1 _ _ hpa5)
    generalize upd H7 ra (.tup (rs.map V.ref)) = H8 at s8 hra F8 pr8 hpa8
    refine ⟨.ref pa, rfl, .ref ra, rfl, (by show 2 ≤ sizeLine; decide), fun wa nwa => ?_⟩
    have s9 := same_upd (o := .tup [.ref pa, .ref ra]) nwa
    refine q _ wa (F8.same s9) ?_
    rw [eW]
    exact ⟨pa, ra, rs, upd_same, s9 _ _ hpa8, s9 _ _ hra, pairedMap (fun _ _ e => s9 _ _ e) pr8⟩
set_option maxHeartbeats 16000000 in
theorem ok_rri {f c Pt : Addr} {Ps AA Qs : List Addr} {D : Addr} {fd : FuncData} {k : Nat} (F : FunC K "read_riddle" "read_riddle" sRri f fd (.ref c)) (TB : GxR.TabB base mg c Pt) (hP : Pt ∈ Qs) (C : ClsT K mg D) (T : TxtF3 P w K mg base Ps AA Qs) : FnOk P w K mg base (L2.CX P w) (k + 9) f fd ["text"] (spRri Ps AA Qs D) := by
  refine F.okX scRri (fun vs H Q E h => ?_) (fun A outer s H vs Q E hr h => ?_)
  · obtain ⟨t, rfl, _⟩ := h
    rfl
  · obtain ⟨t, rfl, tl6, hT, hN, sub, dis, q, qx⟩ := h
    refine ⟨_, (pss_cons (ps_if (pt_not (pt_val (pe_callB call_isi (by rfl) T.m_isinstance (by decide +kernel) (pa_cons (pv 0) (pa_cons (pe_bltn (v := .ty "str") (by rfl) T.m_str (by decide +kernel) rfl) pa_nil)))))
  (pss_one (ps_raise rfl (takes_of rfl rfl rfl rfl) (pmk_own PySem.F.excBase_ValueError C.x C.g_NoText C.k (raises_own C.b C.t) (by rfl)))) pss_nil)
  (pss_cons (ps_set (i := 1) scRri.nd rfl (Or.inl rfl) (pe_split (pv 0) pe_str))
  (pss_cons (ps_set (i := 2) scRri.nd rfl (Or.inl rfl) (pe_split (pe_ix ix_list (pv 1) pe_int (fun _ _ => rfl)) pe_str))
  (pss_cons (ps_if (pt_cmpR op_ne (pe_callB call_len_seq (by rfl) T.m_len (by decide +kernel) (pa_cons (pv 2) pa_nil)) pe_int (nomark _))
  (pss_one (ps_raise rfl (takes_of rfl rfl rfl rfl) (pmk_own PySem.F.excBase_ValueError C.x C.g_NoText C.k (raises_own C.b C.t) (by rfl)))) pss_nil)
  (pss_cons (ps_set (i := 3) scRri.nd rfl (Or.inl rfl) (pe_tup (pa_cons (pe_cal T.c_figure (hr.mono (by omega)) (by rfl) (pa_cons (pe_ix ix_list (pv 2) pe_int (fun _ _ => rfl)) pa_nil)) (pa_cons (pe_cal T.c_figure (hr.mono (by omega)) (by rfl) (pa_cons (pe_ix ix_list (pv 2) pe_int (fun _ _ => rfl)) pa_nil)) (pa_cons (Gx.pe_tupN (own := [("line", 4)]) (AA := AA) (g := gName 4) (tt := tYes) (te := fun _ => tCall (spRwi AA Qs) [] E0 (tCons (tVar 4) tNil)) hr (by rfl) T.m_tuple rfl scRri.nd TB hP rfl (blkOk_by (own := [("line", 4)]) (N := nRri) (sc := defScope sRri) (by decide +kernel)) ⟨rfl, by decide +kernel, rfl⟩ (pi_list (pe_slice sl_list (pv 1) (po_some pe_int) po_none))
   (fun _ _ _ _ _ _ hA => (pg_name (i := 4) scRri.nd rfl (Or.inl rfl))) (fun _ _ _ _ _ _ hA => pts_nil) (fun _ _ _ _ code _ hA => (pe_cal T.c_read_wish (hA.mono (by omega)) (by rfl) (pa_cons (pv 4) pa_nil)))) pa_nil)))))
  (pss_cons (ps_if (PW.pt (pw_or (pt_not (pt_val (pe_cal T.c_is_riddle (hr.mono (by omega)) (by rfl) (pa_cons (pv 3) pa_nil)))) (pw_or1 (pt_cmpR op_ne (pe_cal T.c_show_riddle (hr.mono (by omega)) (by rfl) (pa_cons (pv 3) pa_nil)) (pv 0) (nomark _)))))
  (pss_one (ps_raise rfl (takes_of rfl rfl rfl rfl) (pmk_own PySem.F.excBase_ValueError C.x C.g_NoText C.k (raises_own C.b C.t) (by rfl)))) pss_nil)
  (pss_one (ps_ret (pv 3))))))))), ?_⟩
    have sp1 : (Str.ofString " ").length = 1 := by decide +kernel
    have nl0 : (Str.ofString "\n").length = 1 := by decide +kernel
    have big : 10000 ≤ sizeLine := by decide
    have w1 := split_weight t (Str.ofString "\n") (by omega)
    have ps1 := split_pos t (Str.ofString "\n")
    have wd1 : ∀ x ∈ Txt.split t (Str.ofString "\n"), x.length ≤ 6000 := fun x hx => by
      have := mem_sum (f := fun y : Str => y.length) hx
      omega
    have eR : readR t = readR t := rfl
    unfold readR at eR
    refine ⟨.str t, rfl, .str t, .ty "str", .type "str", .type "str", true, rfl, .ty _, .base (.str _), kit_ty (by decide +kernel), true, rfl, iteF ?_⟩
    -- lines
    refine ⟨.str t, rfl, ⟨t, rfl⟩, t, _, rfl, rfl, (by decide +kernel), by omega, fun l1 nl1 => ?_⟩
    have s1 := same_upd (o := .lst ((Txt.split t (Str.ofString "\n")).map V.str)) nl1
    have F1 := (NFr.refl hN).same s1
    have hl1 : upd H l1 (.lst ((Txt.split t (Str.ofString "\n")).map V.str)) l1 = some (.lst ((Txt.split t (Str.ofString "\n")).map V.str)) := upd_same
    generalize upd H l1 (.lst ((Txt.split t (Str.ofString "\n")).map V.str)) = H1 at s1 F1 hl1
    have rd0 : readR t = if (Txt.split ((Txt.split t (Str.ofString "\n")).getD 0 Str.empty) (Str.ofString " ")).length = 4 then
      some (figI ((Txt.split ((Txt.split t (Str.ofString "\n")).getD 0 Str.empty) (Str.ofString " ")).getD 1 Str.empty), figI ((Txt.split ((Txt.split t (Str.ofString "\n")).getD 0 Str.empty) (Str.ofString " ")).getD 3 Str.empty), ((Txt.split t (Str.ofString "\n")).drop 1).map readW)
      else none := rfl
    generalize Txt.split t (Str.ofString "\n") = LL at hl1 w1 ps1 wd1 rd0
    clear eR
    -- head
    have h0 : LL[0]? = some (LL.getD 0 Str.empty) := by rw [List.getD_eq_getElem?_getD, List.getElem?_eq_getElem (by omega)]; rfl
    have lh0 := wd1 _ (List.mem_of_getElem? h0)
    have w2 := split_weight (LL.getD 0 Str.empty) (Str.ofString " ") (by omega)
    refine ⟨.ref l1, rfl, l1, _, 0, _, rfl, rfl, .inl (.inl hl1), atI_nat (j := 0) (by rw [List.getElem?_map, h0]; rfl), ⟨_, rfl⟩, _, _, rfl, rfl, (by decide +kernel), by omega, fun l2 nl2 => ?_⟩
    have s2 := same_upd (o := .lst ((Txt.split (LL.getD 0 Str.empty) (Str.ofString " ")).map V.str)) nl2
    have F2 := F1.same s2
    have hl2 : upd H1 l2 (.lst ((Txt.split (LL.getD 0 Str.empty) (Str.ofString " ")).map V.str)) l2 = some (.lst ((Txt.split (LL.getD 0 Str.empty) (Str.ofString " ")).map V.str)) := upd_same
    have hl12 := s2 _ _ hl1
    generalize upd H1 l2 (.lst ((Txt.split (LL.getD 0 Str.empty) (Str.ofString " ")).map V.str)) = H2 at s2 F2 hl2 hl12
    generalize Txt.split (LL.getD 0 Str.empty) (Str.ofString " ") = HH at hl2 w2 rd0
    refine ⟨.ref l2, rfl, l2, _, rfl, .inl (.inl (.inl hl2)), rfl, _, rfl, ?_⟩
    rw [List.length_map]
    by_cases e4 : HH.length = 4
    · refine iteNS (congrArg V.int (by omega)) ?_
      rw [if_pos e4] at rd0
      have g1 : HH[1]? = some (HH.getD 1 Str.empty) := by rw [List.getD_eq_getElem?_getD, List.getElem?_eq_getElem (by omega)]; rfl
      have g3 : HH[3]? = some (HH.getD 3 Str.empty) := by rw [List.getD_eq_getElem?_getD, List.getElem?_eq_getElem (by omega)]; rfl
      refine ⟨.ref l2, rfl, l2, _, 1, _, rfl, rfl, .inl (.inl hl2), atI_nat (j := 1) (by rw [List.getElem?_map, g1]; rfl), _, rfl, .ref l2, rfl, l2, _, 3, _, rfl, rfl, .inl (.inl hl2), atI_nat (j := 3) (by rw [List.getElem?_map, g3]; rfl), _, rfl, ?_⟩
      refine ⟨.ref l1, rfl, 1, rfl, l1, _, rfl, .inl (.inl hl12), fun l3 nl3 => ?_⟩
      have ecut : cutV (LL.map V.str) (some 1) none = (LL.drop 1).map V.str := cut_from V.str LL 1
      rw [ecut]
      have s3 := same_upd (o := .lst ((LL.drop 1).map V.str)) nl3
      have F3 := F2.same s3
      have hl3 : upd H2 l3 (.lst ((LL.drop 1).map V.str)) l3 = some (.lst ((LL.drop 1).map V.str)) := upd_same
      generalize upd H2 l3 (.lst ((LL.drop 1).map V.str)) = H3 at s3 F3 hl3
      have wdD : ∀ x ∈ LL.drop 1, x.length ≤ 6000 := fun x hx => wd1 x (List.mem_of_mem_drop hx)
      have lD : (LL.drop 1).length ≤ 6001 := by
        rw [List.length_drop]
        omega
      generalize LL.drop 1 = DD at hl3 rd0 wdD lD
      refine ⟨l3, rfl, ⟨_, .inl (.inl hl3)⟩, F3.nest, fun c' P' H4 n4 => ?_⟩
      have G4 := (NFr.refl F3.nest).nested hP n4
      refine Gx.tup_list (K := K) (a := l3) (xs := DD.map V.str) (by rw [List.length_map]; omega) (fun i ys H5 => NFr AA Qs H3 H5 ∧ ∃ was : List Addr, ys = was.map V.ref ∧ Paired (IsWish H5) was ((DD.take i).map readW)) ⟨G4, [], rfl, .nil⟩ (fun i ys H5 _ p => .inl (.inl (p.1.seqs.2 _ _ hl3))) (fun i ys H5 p => ?_) (fun i x ys H5 hx p => ?_) (fun ys H5 p => ?_)
      · obtain ⟨_, was, rfl, pr⟩ := p
        have z := pairedLen pr
        rw [List.length_map, List.length_take] at z
        rw [List.length_map]
        omega
      · obtain ⟨l0, el, rfl⟩ := map_get hx
        obtain ⟨G5, was, rfl, pr⟩ := p
        refine ⟨rfl, yes_if ⟨.str l0, rfl, l0, rfl, wdD l0 (List.mem_of_getElem? el), G5.nest, fun H6 wa G6 isw => ?_⟩⟩
        refine ⟨G5.trans G6, was ++ [wa], by rw [List.map_append]; rfl, ?_⟩
        rw [take_snoc el, List.map_append]
        exact pairedSnoc (pairedMap (fun _ _ e => IsWish.mono G6.seqs.1 e) pr) isw
      obtain ⟨G5, was, rfl, pr⟩ := p
      rw [List.length_map, List.take_length] at pr
      intro wt nwt
      have s6 := same_upd (o := .tup (was.map V.ref)) nwt
      have F6 := (F3.trans G5).same s6
      have hwt : upd H5 wt (.tup (was.map V.ref)) wt = some (.tup (was.map V.ref)) := upd_same
      have pr6 : Paired (IsWish (upd H5 wt (.tup (was.map V.ref)))) was (DD.map readW) := pairedMap (fun _ _ e => IsWish.mono (tups_same s6) e) pr
      generalize upd H5 wt (.tup (was.map V.ref)) = H6 at s6 F6 hwt pr6
      refine ⟨(by show 3 ≤ sizeLine; decide), fun ri nri => ?_⟩
      have s7 := same_upd (o := .tup [.int (figI (HH.getD 1 Str.empty)), .int (figI (HH.getD 3 Str.empty)), .ref wt]) nri
      have F7 := F6.same s7
      have rid : IsRid (upd H6 ri (.tup [.int (figI (HH.getD 1 Str.empty)), .int (figI (HH.getD 3 Str.empty)), .ref wt])) ri (figI (HH.getD 1 Str.empty)) (figI (HH.getD 3 Str.empty)) (DD.map readW) := ⟨wt, was, upd_same, s7 _ _ hwt, pairedMap (fun _ _ e => IsWish.mono (tups_same s7) e) pr6⟩
      generalize upd H6 ri (.tup [.int (figI (HH.getD 1 Str.empty)), .int (figI (HH.getD 3 Str.empty)), .ref wt]) = H7 at s7 F7 rid
      generalize figI (HH.getD 1 Str.empty) = many at rid rd0
      generalize figI (HH.getD 3 Str.empty) = hues at rid rd0
      have fewW : ∀ wd ∈ DD.map readW, wd.1.length ≤ 10000 ∧ wd.2.length ≤ 10000 := fun wd hw => by
        obtain ⟨l0, hl0, rfl⟩ := List.mem_map.mp hw
        have a := wdD l0 hl0
        have b := part_short l0 (Str.ofString ": ")
        have c1 := split_weight (Txt.partition l0 (Str.ofString ": ")).1 (Str.ofString " ") (by omega)
        have c2 := split_weight (Txt.partition l0 (Str.ofString ": ")).2.2 (Str.ofString " ") (by omega)
        unfold readW
        dsimp only
        rw [List.length_map, List.length_map, List.length_drop]
        omega
      have lW : (DD.map readW).length ≤ 10000 := by
        rw [List.length_map]
        omega
      generalize DD.map readW = wds at rid rd0 fewW lW
      have hT7 := F7.tab hT
      refine ⟨.ref ri, rfl, ri, many, hues, wds, rfl, hT7, rid, fewW, lW, fun H8 f8 => ⟨_, rfl, ?_⟩⟩
      have F8 := F7.trans (NFr.ofS hT7 F7.nest sub dis f8)
      cases eI : irdB many hues wds with
      | false =>
        refine iteT (iteT ?_)
        refine qx H8 F8 fun m h w2 e1 e2 => ?_
        rw [rd0] at e1
        cases e1
        rw [eI] at e2
        cases e2
      | true =>
        refine iteF ?_
        have rid8 := rid.mono (f8.tups hT7)
        refine ⟨.ref ri, rfl, ri, many, hues, wds, rfl, rid8, (ird_good eI).1, F8.nest, fun H9 G9 => ?_⟩
        have F9 := F8.trans G9
        refine ⟨.str t, rfl, rfl, _, rfl, ?_⟩
        by_cases eT : ridT many hues wds = t
        · refine iteNS (congrArg V.str eT) ?_
          exact ⟨.ref ri, rfl, q H9 ri many hues wds F9 (rid8.mono G9.seqs.1) rd0 eI eT⟩
        · have e : (!decide (V.str (ridT many hues wds) = V.str t)) = true := by
            rw [decide_eq_false (fun z => eT (by injection z))]
            rfl
          rw [e]
          refine iteT ?_
          refine qx H9 F9 fun m h w2 e1 e2 => ?_
          rw [rd0] at e1
          cases e1
          exact eT
    · have e : (!decide (V.int (HH.length : Int) = V.int 4)) = true := by
        rw [decide_eq_false (fun z => e4 (by injection z with z; omega))]
        rfl
      rw [e]
      refine iteT ?_
      rw [if_neg e4] at rd0
      refine qx H2 F2 fun m h w2 e1 e2 => ?_
      rw [rd0] at e1
      cases e1
end
end Rd

set_option Elab.async false
set_option linter.all false
set_option maxRecDepth 100000
set_option maxHeartbeats 4000000
namespace Rd
open PySem PySem.Spec PyProof.Rows L2 Dt TL
abbrev sLsg : Stmt := topS 50
abbrev nLsg : List Str := ["found"]
theorem scLsg : FnScope nLsg [] (defScope sLsg) := ⟨rfl, rfl, rfl, by decide +kernel, rfl, by decide +kernel, by decide +kernel⟩
abbrev sLbt : Stmt := topS 51
abbrev nLbt : List Str := ["well", "text", "way", "signs", "at", "sign", "gone", "rows", "to", "between", "words", "spot", "odd"]
theorem scLbt : FnScope nLbt ["well", "text"] (defScope sLbt) := ⟨rfl, rfl, rfl, by decide +kernel, rfl, by decide +kernel, by decide +kernel⟩
def spLsg : Sp := fun vs H Q _ => vs = [] ∧ ∀ s : Str, 1 ≤ s.length → s.length ≤ 200 → okS s → Q (.str s) H
def spLbt : Sp := fun vs H Q _ => ∃ (wl cl : Addr) (t : Str), vs = [.ref wl, .str t] ∧ Well H wl cl ∧ t.length ≤ 12000 ∧ okS t ∧ ∀ H' t', Drawn wl cl H H' → t'.length ≤ 3 * t.length + 4000 → okS t' → Q (.str t') H'
structure TxtB72 (P : Program) (w : World) (K : PySem.W.Frag) (mg : Str → Option Value) (base : Heap) : Prop where
  m_len : mg "len" = none
  c__law_draw : Cal P w K mg base 1 "_law_draw" ["well", "many"] spDraw
  c__law_signs : Cal P w K mg base 1 "_law_signs" [] spLsg
theorem sgn_at {z : Str} {i : Int} (i0 : 0 ≤ i) (i1 : i < (z.length : Int)) : ∃ c, atI z.cps.toList i = some c := by
  have h : i.toNat < z.cps.toList.length := by
    have : z.cps.toList.length = z.length := by simp [Str.length]
    omega
  refine ⟨z.cps.toList[i.toNat], ?_⟩
  have e := atI_nat (List.getElem?_eq_getElem h)
  rw [show ((i.toNat : Nat) : Int) = i by omega] at e
  exact e
theorem str_at {ws : List Str} {i : Int} (i0 : 0 ≤ i) (i1 : i < (ws.length : Int)) : ∃ x ∈ ws, atI (ws.map V.str) i = some (.str x) := by
  have h : i.toNat < ws.length := by omega
  exact ⟨ws[i.toNat], List.getElem_mem h, atI_of i0 (List.getElem?_eq_getElem h)⟩
theorem mul_ok : MulOk (Str.ofString "9") 1500 := by
  refine ⟨by decide, fun _ _ => ?_, fun _ _ => ?_⟩
  · rw [show (Str.ofString "9").length = 1 by decide +kernel]
    decide
  · rw [show (Str.ofString "9").length = 1 by decide +kernel]
    decide
theorem mul_len : (Txt.mul (Str.ofString "9") 1500).length ≤ 1500 := by decide +kernel
section
variable {P : Program} {w : World} {K : PySem.W.Frag} {mg : Str → Option Value} {base : Heap}
theorem ok_lsg {f : Addr} {fd : FuncData} {k : Nat} (F : Fun K "_law_signs" "_law_signs" sLsg f fd) : FnOk P w K mg base CX0 (k + 1) f fd [] spLsg := by
  refine F.ok scLsg (fun vs H Q E h => ?_) (fun cdv A outer s H vs Q E hr h => ?_)
  · obtain ⟨rfl, _⟩ := h
    rfl
  · obtain ⟨rfl, q⟩ := h
    refine ⟨_, (pss_cons (ps_set (i := 0) scLsg.nd rfl (Or.inl rfl) pe_str)
  (pss_one (ps_ret (pe_op op_add_str (pe_op op_add_str (pv 0) pe_str) pe_str)))), ?_⟩
    refine ⟨_, rfl, _, _, rfl, rfl, (by decide +kernel), _, _, rfl, rfl, (by decide +kernel), q _ (by decide +kernel) (by decide +kernel) (by unfold okS; decide +kernel)⟩
set_option maxHeartbeats 32000000 in
theorem ok_lbt {f : Addr} {fd : FuncData} {k : Nat} (F : Fun K "_law_bent_text" "_law_bent_text" sLbt f fd) (T : TxtB72 P w K mg base) : FnOk P w K mg base CX0 (k + 2) f fd ["well", "text"] spLbt := by
  refine F.ok scLbt (fun vs H Q E h => ?_) (fun cdv A outer s H vs Q E hr h => ?_)
  · obtain ⟨wl, cl, t, rfl, _⟩ := h
    rfl
  · obtain ⟨wl, cl, t, rfl, hW, t3, tk, q⟩ := h
    refine ⟨_, (pss_cons (ps_set (i := 2) scLbt.nd rfl (Or.inl rfl) (pe_cal T.c__law_draw (hr.mono (by omega)) (by rfl) (pa_cons (pv 0) (pa_cons pe_int pa_nil))))
  (pss_cons (ps_set (i := 3) scLbt.nd rfl (Or.inl rfl) (pe_cal0 T.c__law_signs (hr.mono (by omega)) (by rfl)))
  (pss_cons (ps_if (pt_cmpR op_lt (pv 2) pe_int (nomark _))
  (pss_cons (ps_set (i := 4) scLbt.nd rfl (Or.inl rfl) (pe_cal T.c__law_draw (hr.mono (by omega)) (by rfl) (pa_cons (pv 0) (pa_cons (pe_op op_add (pe_callB call_len_str (by rfl) T.m_len (by decide +kernel) (pa_cons (pv 1) pa_nil)) pe_int) pa_nil))))
  (pss_cons (ps_set (i := 5) scLbt.nd rfl (Or.inl rfl) (pe_ix ix_str (pv 3) (pe_cal T.c__law_draw (hr.mono (by omega)) (by rfl) (pa_cons (pv 0) (pa_cons (pe_callB call_len_str (by rfl) T.m_len (by decide +kernel) (pa_cons (pv 3) pa_nil)) pa_nil))) (fun _ _ => rfl)))
  (pss_cons (ps_if (pt_cmpR op_gt (pv 2) pe_int (nomark _))
  (pss_one (ps_set (i := 5) scLbt.nd rfl (Or.inl rfl) (pe_ix ix_list (pe_lst (pa_cons (pe_ix ix_str pe_str (pe_cal T.c__law_draw (hr.mono (by omega)) (by rfl) (pa_cons (pv 0) (pa_cons pe_int pa_nil))) (fun _ _ => rfl)) (pa_cons pe_str pa_nil))) (pe_op op_sub (pv 2) pe_int) (fun _ _ => rfl)))) pss_nil)
  (pss_cons (ps_set (i := 6) scLbt.nd rfl (Or.inl rfl) (pe_cal T.c__law_draw (hr.mono (by omega)) (by rfl) (pa_cons (pv 0) (pa_cons pe_int pa_nil))))
  (pss_one (ps_ret (pe_op op_add_str (pe_op op_add_str (pe_slice sl_str (pv 1) po_none (po_some (pv 4))) (pv 5)) (pe_slice sl_str (pv 1) (po_some (pe_op op_add (pv 4) (pv 6))) po_none)))))))) pss_nil)
  (pss_cons (ps_set (i := 7) scLbt.nd rfl (Or.inl rfl) (pe_split (pv 1) pe_str))
  (pss_cons (ps_set (i := 4) scLbt.nd rfl (Or.inl rfl) (pe_cal T.c__law_draw (hr.mono (by omega)) (by rfl) (pa_cons (pv 0) (pa_cons (pe_callB call_len_seq (by rfl) T.m_len (by decide +kernel) (pa_cons (pv 7) pa_nil)) pa_nil))))
  (pss_cons (ps_set (i := 8) scLbt.nd rfl (Or.inl rfl) (pe_cal T.c__law_draw (hr.mono (by omega)) (by rfl) (pa_cons (pv 0) (pa_cons (pe_op op_add (pe_callB call_len_seq (by rfl) T.m_len (by decide +kernel) (pa_cons (pv 7) pa_nil)) pe_int) pa_nil))))
  (pss_cons (ps_if (pt_cmpR op_eq (pv 2) pe_int (nomark _))
  (pss_one (ps_ret (pe_join pe_str (pe_op op_cat (pe_slice sl_list (pv 7) po_none (po_some (pv 4))) (pe_slice sl_list (pv 7) (po_some (pe_op op_add (pv 4) pe_int)) po_none))))) pss_nil)
  (pss_cons (ps_if (pt_cmpR op_eq (pv 2) pe_int (nomark _))
  (pss_one (ps_ret (pe_join pe_str (pe_op op_cat (pe_op op_cat (pe_slice sl_list (pv 7) po_none (po_some (pv 8))) (pe_lst (pa_cons (pe_ix ix_list (pv 7) (pv 4) (fun _ _ => rfl)) pa_nil))) (pe_slice sl_list (pv 7) (po_some (pv 8)) po_none))))) pss_nil)
  (pss_cons (ps_if (pt_cmpR op_eq (pv 2) pe_int (nomark _))
  (pss_cons (ps_set (i := 9) scLbt.nd rfl (Or.inl rfl) (pe_ix ix_list (pe_lst (pa_cons pe_str (pa_cons pe_str (pa_cons pe_str (pa_cons pe_str (pa_cons pe_str (pa_cons pe_str pa_nil))))))) (pe_cal T.c__law_draw (hr.mono (by omega)) (by rfl) (pa_cons (pv 0) (pa_cons pe_int pa_nil))) (fun _ _ => rfl)))
  (pss_one (ps_ret (pe_op op_add_str (pe_op op_add_str (pe_join pe_str (pe_slice sl_list (pv 7) po_none (po_some (pv 4)))) (pv 9)) (pe_join pe_str (pe_slice sl_list (pv 7) (po_some (pv 4)) po_none)))))) pss_nil)
  (pss_cons (ps_set (i := 10) scLbt.nd rfl (Or.inl rfl) (pe_split (pe_ix ix_list (pv 7) (pv 4) (fun _ _ => rfl)) pe_str))
  (pss_cons (ps_set (i := 11) scLbt.nd rfl (Or.inl rfl) (pe_cal T.c__law_draw (hr.mono (by omega)) (by rfl) (pa_cons (pv 0) (pa_cons (pe_callB call_len_seq (by rfl) T.m_len (by decide +kernel) (pa_cons (pv 10) pa_nil)) pa_nil))))
  (pss_cons (ps_set (i := 12) scLbt.nd rfl (Or.inl rfl) (pe_lst (pa_cons pe_str (pa_cons pe_str (pa_cons pe_str (pa_cons pe_str (pa_cons pe_str (pa_cons pe_str (pa_cons pe_str (pa_cons pe_str (pa_cons pe_str (pa_cons pe_str (pa_cons pe_str (pa_cons pe_str (pa_cons pe_str (pa_cons pe_str (pa_cons pe_str (pa_cons pe_str (pa_cons pe_str pa_nil)))))))))))))))))))
  (pss_cons (ps_set (i := 12) scLbt.nd rfl (Or.inl rfl) (pe_op op_cat (pv 12) (pe_lst (pa_cons (pe_op op_mulS pe_str pe_int) (pa_cons pe_str (pa_cons pe_str pa_nil))))))
  (pss_cons (ps_asg (pe_ix ix_list (pv 12) (pe_cal T.c__law_draw (hr.mono (by omega)) (by rfl) (pa_cons (pv 0) (pa_cons pe_int pa_nil))) (fun _ _ => rfl)) (pg_sub (pv 10) (pv 11) set_list))
  (pss_cons (ps_if (pt_cmpR op_eq (pv 2) pe_int (nomark _))
  (pss_one (ps_set (i := 10) scLbt.nd rfl (Or.inl rfl) (pe_op op_cat (pe_slice sl_list (pv 10) po_none (po_some (pv 11))) (pe_slice sl_list (pv 10) (po_some (pe_op op_add (pv 11) pe_int)) po_none)))) pss_nil)
  (pss_cons (ps_asg (pe_join pe_str (pv 10)) (pg_sub (pv 7) (pv 4) set_list))
  (pss_one (ps_ret (pe_join pe_str (pv 7)))))))))))))))))))), ?_⟩
    have big : 100000 ≤ sizeLine := by decide
    have kn : okS (Str.ofString "\n") := by unfold okS; decide +kernel
    have ksp : okS (Str.ofString " ") := by unfold okS; decide +kernel
    refine ⟨.ref wl, rfl, wl, cl, 9, rfl, hW, by decide, by decide, fun H1 way D1 y0 y9 => ?_⟩
    refine ⟨rfl, fun sg g1 g2 gk => ?_⟩
    refine ⟨.int way, rfl, _, _, rfl, rfl, _, rfl, ite2 (fun c4 => ?_) (fun c4 => ?_)⟩
    · have c4 := of_decide_eq_true c4
      -- at
      refine ⟨.ref wl, rfl, .str t, rfl, t, rfl, by omega, _, _, rfl, rfl, wl, cl, _, rfl, D1.2, by omega, log_small (by omega) (by omega), fun H2 a D2 a0 a1 => ?_⟩
      have E2 := D1.trans D2
      -- sign
      refine ⟨.str sg, rfl, .ref wl, rfl, .str sg, rfl, sg, rfl, by omega, wl, cl, _, rfl, D2.2, by omega, log_small (by omega) (by omega), fun H3 i D3 i0 i1 => ?_⟩
      have E3 := E2.trans D3
      obtain ⟨c, ec⟩ := sgn_at i0 i1
      refine ⟨sg, i, c, rfl, rfl, by omega, ec, ?_⟩
      refine ⟨.int way, rfl, _, _, rfl, rfl, _, rfl, ite2 (fun c1 => ?_) (fun c1 => ?_)⟩
      · have c1 := of_decide_eq_true c1
        refine ⟨.ref wl, rfl, wl, cl, 12, rfl, D3.2, by decide, by decide, fun H4 j D4 j0 j1 => ?_⟩
        have E4 := E3.trans D4
        obtain ⟨c2, ec2⟩ := sgn_at (z := Str.ofString "0123456789: ") j0 (by rw [show (Str.ofString "0123456789: ").length = 12 by decide +kernel]; exact j1)
        refine ⟨_, j, c2, rfl, rfl, (by decide +kernel), ec2, ?_⟩
        refine ⟨(by show 2 ≤ sizeLine; decide), fun l nl => ?_⟩
        have s5 := same_upd (o := .lst [.str ⟨#[c2]⟩, .str (Str.ofString "")]) nl
        have E5 := E4.same s5
        obtain ⟨x, hx, ex⟩ := str_at (ws := [⟨#[c2]⟩, Str.ofString ""]) (i := way - 2) (by omega) (by show way - 2 < 2; omega)
        have lx : x.length ≤ 1 := by
          rcases List.mem_cons.mp hx with rfl | hx
          · exact Nat.le_refl _
          · rw [List.mem_singleton.mp hx]
            decide +kernel
        have kx : okS x := by
          rcases List.mem_cons.mp hx with rfl | hx
          · exact okS_sign (z := Str.ofString "0123456789: ") (by unfold okS; decide +kernel) ec2
          · rw [List.mem_singleton.mp hx]
            unfold okS
            decide +kernel
        refine ⟨.int way, rfl, _, _, rfl, rfl, l, _, _, .str x, rfl, rfl, .inl (.inl upd_same), ex, ?_⟩
        refine ⟨.ref wl, rfl, wl, cl, 2, rfl, E5.2, by decide, by decide, fun H6 g D6 _ _ => ?_⟩
        have la := cutS_length t none (some a)
        have lb := cutS_length t (some (a + g)) none
        have l1 := len_app (cutS t none (some a)) x
        refine ⟨.str t, rfl, .int a, rfl, _, rfl, t, rfl, by omega, .str x, rfl, _, _, rfl, rfl, by omega, .str t, rfl, .int a, rfl, .int g, rfl, _, _, rfl, rfl, _, rfl, t, rfl, by omega, _, _, rfl, rfl, by omega, q _ _ (E5.trans D6) ?_ (okS_app (okS_app (okS_cut tk) kx) (okS_cut tk))⟩
        rw [len_app, len_app]
        omega
      · refine ⟨.ref wl, rfl, wl, cl, 2, rfl, D3.2, by decide, by decide, fun H6 g D6 _ _ => ?_⟩
        have la := cutS_length t none (some a)
        have lb := cutS_length t (some (a + g)) none
        have l1 := len_app (cutS t none (some a)) (⟨#[c]⟩ : Str)
        have lc : (⟨#[c]⟩ : Str).length = 1 := rfl
        refine ⟨.str t, rfl, .int a, rfl, _, rfl, t, rfl, by omega, .str ⟨#[c]⟩, rfl, _, _, rfl, rfl, by omega, .str t, rfl, .int a, rfl, .int g, rfl, _, _, rfl, rfl, _, rfl, t, rfl, by omega, _, _, rfl, rfl, by omega, q _ _ (E3.trans D6) ?_ (okS_app (okS_app (okS_cut tk) (okS_sign gk ec)) (okS_cut tk))⟩
        rw [len_app, len_app]
        omega
    · have c4 : ¬ way < 4 := fun z => c4 (decide_eq_true z)
      have n1 : (Str.ofString "\n").length = 1 := by decide +kernel
      have sp1 : (Str.ofString " ").length = 1 := by decide +kernel
      have w1 := msr_split t (Str.ofString "\n") (by omega)
      have p1 := split_pos t (Str.ofString "\n")
      -- rows
      refine ⟨.str t, rfl, ⟨t, rfl⟩, t, _, rfl, rfl, (by decide +kernel), by omega, fun rl nrl => ?_⟩
      have s2 := same_upd (o := .lst ((Txt.split t (Str.ofString "\n")).map V.str)) nrl
      have nrw := D1.2.new nrl
      have E2 := D1.same s2
      have hr2 : upd H1 rl (.lst ((Txt.split t (Str.ofString "\n")).map V.str)) rl = some (.lst ((Txt.split t (Str.ofString "\n")).map V.str)) := upd_same
      generalize upd H1 rl (.lst ((Txt.split t (Str.ofString "\n")).map V.str)) = H2 at s2 E2 hr2
      have kR : okTs (Txt.split t (Str.ofString "\n")) := okTs_split tk
      generalize Txt.split t (Str.ofString "\n") = RR at hr2 w1 p1 kR
      have lR : RR.length ≤ 12001 := by
        unfold msr at w1
        omega
      refine ⟨.ref wl, rfl, .ref rl, rfl, rl, _, rfl, .inl (.inl (.inl hr2)), wl, cl, _, rfl, E2.2, ?_, ?_, fun H3 a D3 a0 a1 => ?_⟩
      · rw [List.length_map]; omega
      · rw [List.length_map]; exact log_small (by omega) (by omega)
      rw [List.length_map] at a1
      have E3 := E2.trans D3
      have hr3 := D3.1 rl _ nrw.1 nrw.2 hr2
      refine ⟨.ref wl, rfl, .ref rl, rfl, rl, _, rfl, .inl (.inl (.inl hr3)), _, _, rfl, rfl, wl, cl, _, rfl, D3.2, ?_, ?_, fun H4 b D4 b0 b1 => ?_⟩
      · rw [List.length_map]; omega
      · rw [List.length_map]; exact log_small (by omega) (by omega)
      have E4 := E3.trans D4
      have hr4 := D4.1 rl _ nrw.1 nrw.2 hr3
      obtain ⟨an, rfl⟩ : ∃ n : Nat, a = n := ⟨a.toNat, by omega⟩
      obtain ⟨bn, rfl⟩ : ∃ n : Nat, b = n := ⟨b.toNat, by omega⟩
      have ta := msr_take an RR
      have da := msr_drop an RR
      have da1 := msr_drop (an + 1) RR
      have tb := msr_take bn RR
      have db := msr_drop bn RR
      have sl_to : ∀ k : Nat, cutV (RR.map V.str) none (some (k : Int)) = (RR.take k).map V.str := fun k => cut_to V.str RR k
      have sl_fr : ∀ k : Nat, cutV (RR.map V.str) (some (k : Int)) none = (RR.drop k).map V.str := fun k => cut_from V.str RR k
      have ge3 : ∀ {v : Int} {y : V}, (V.int v = y) → (decide (V.int v = y) = true) := fun e => decide_eq_true e
      -- a row out
      refine ⟨.int way, rfl, rfl, _, rfl, ite2 (fun _ => ?_) (fun _ => ?_)⟩
      · refine ⟨⟨_, rfl⟩, .ref rl, rfl, .int an, rfl, _, rfl, rl, _, rfl, .inl (.inl hr4), fun l5 nl5 => ?_⟩
        rw [sl_to]
        have s5 := same_upd (o := .lst ((RR.take an).map V.str)) nl5
        refine ⟨.ref rl, rfl, .int an, rfl, _, _, rfl, rfl, _, rfl, rl, _, rfl, .inl (.inl (s5 _ _ hr4)), fun l6 nl6 => ?_⟩
        have e1 : ((an : Int) + 1) = ((an + 1 : Nat) : Int) := by omega
        rw [e1, sl_fr]
        have s6 := same_upd (o := .lst ((RR.drop (an + 1)).map V.str)) nl6
        refine ⟨l5, l6, _, _, rfl, rfl, s6 _ _ upd_same, upd_same, ?_, fun l7 nl7 => ?_⟩
        · rw [List.length_map, List.length_map, List.length_take, List.length_drop]
          omega
        have s7 := same_upd (o := .lst ((RR.take an).map V.str ++ (RR.drop (an + 1)).map V.str)) nl7
        have m7 := msr_app (RR.take an) (RR.drop (an + 1))
        have j7 := msr_join (sep := Str.ofString "\n") (a := RR.take an ++ RR.drop (an + 1)) (by omega)
        exact ⟨_, l7, RR.take an ++ RR.drop (an + 1), rfl, rfl, .inl (.inl (.inl (by rw [upd_same, List.map_append]))), msr_ok (by omega) (by omega), q _ _ (((E4.same s5).same s6).same s7) (by omega) (okS_join kn (okTs_app (okTs_take _ kR) (okTs_drop _ kR)))⟩
      -- a row twice
      refine ⟨.int way, rfl, rfl, _, rfl, ite2 (fun _ => ?_) (fun _ => ?_)⟩
      · refine ⟨⟨_, rfl⟩, .ref rl, rfl, .int bn, rfl, _, rfl, rl, _, rfl, .inl (.inl hr4), fun l5 nl5 => ?_⟩
        rw [sl_to]
        have s5 := same_upd (o := .lst ((RR.take bn).map V.str)) nl5
        obtain ⟨x, hx, ex⟩ := str_at (ws := RR) (i := (an : Int)) (by omega) a1
        have mx := msr_mem hx
        refine ⟨.ref rl, rfl, .int an, rfl, rl, _, _, .str x, rfl, rfl, .inl (.inl (s5 _ _ hr4)), ex, (by show 1 ≤ sizeLine; decide), fun l6 nl6 => ?_⟩
        have s6 := same_upd (o := .lst [V.str x]) nl6
        refine ⟨l5, l6, _, _, rfl, rfl, s6 _ _ upd_same, upd_same, ?_, fun l7 nl7 => ?_⟩
        · rw [List.length_map, List.length_take]
          show _ + 1 ≤ _
          omega
        have s7 := same_upd (o := .lst ((RR.take bn).map V.str ++ [V.str x])) nl7
        refine ⟨.ref rl, rfl, .int bn, rfl, _, rfl, rl, _, rfl, .inl (.inl (s7 _ _ (s6 _ _ (s5 _ _ hr4)))), fun l8 nl8 => ?_⟩
        rw [sl_fr]
        have s8 := same_upd (o := .lst ((RR.drop bn).map V.str)) nl8
        refine ⟨l7, l8, _, _, rfl, rfl, s8 _ _ upd_same, upd_same, ?_, fun l9 nl9 => ?_⟩
        · rw [List.length_append, List.length_map, List.length_map, List.length_take, List.length_drop]
          show _ + 1 + _ ≤ _
          omega
        have s9 := same_upd (o := .lst ((RR.take bn).map V.str ++ [V.str x] ++ (RR.drop bn).map V.str)) nl9
        have m7 := msr_app (RR.take bn ++ [x]) (RR.drop bn)
        have m8 := msr_app (RR.take bn) [x]
        have m9 := msr_cons x []
        have m10 : msr [] = 0 := rfl
        have j7 := msr_join (sep := Str.ofString "\n") (a := RR.take bn ++ [x] ++ RR.drop bn) (by omega)
        exact ⟨_, l9, RR.take bn ++ [x] ++ RR.drop bn, rfl, rfl, .inl (.inl (.inl (by rw [upd_same, List.map_append, List.map_append]; rfl))), msr_ok (by omega) (by omega), q _ _ (((((E4.same s5).same s6).same s7).same s8).same s9) (by omega) (okS_join kn (okTs_app (okTs_app (okTs_take _ kR) (okTs_one (kR x hx))) (okTs_drop _ kR)))⟩
      -- rows parted otherwise
      refine ⟨.int way, rfl, rfl, _, rfl, ite2 (fun _ => ?_) (fun _ => ?_)⟩
      · refine ⟨(by show 6 ≤ sizeLine; decide), fun l5 nl5 => ?_⟩
        have s5 := same_upd (o := .lst ([Str.ofString " / ", Str.ofString "\n\n", Str.ofString "\n ", Str.ofString " \n", Str.ofString ";", Str.ofString "\t"].map V.str)) nl5
        have E5 := E4.same s5
        refine ⟨.ref wl, rfl, wl, cl, 6, rfl, E5.2, by decide, by decide, fun H6 j D6 j0 j1 => ?_⟩
        have n5 := E4.2.new nl5
        obtain ⟨x, hx, ex⟩ := str_at (ws := [Str.ofString " / ", Str.ofString "\n\n", Str.ofString "\n ", Str.ofString " \n", Str.ofString ";", Str.ofString "\t"]) (i := j) j0 (by show j < 6; exact j1)
        have lx : x.length ≤ 3 := by
          have all : ∀ y ∈ [Str.ofString " / ", Str.ofString "\n\n", Str.ofString "\n ", Str.ofString " \n", Str.ofString ";", Str.ofString "\t"], y.length ≤ 3 := by decide +kernel
          exact all x hx
        have kx : okS x := by
          have all : ∀ y ∈ [Str.ofString " / ", Str.ofString "\n\n", Str.ofString "\n ", Str.ofString " \n", Str.ofString ";", Str.ofString "\t"], okS y := by unfold okS; decide +kernel
          exact all x hx
        refine ⟨l5, _, _, .str x, rfl, rfl, .inl (.inl (D6.1 l5 _ n5.1 n5.2 upd_same)), ex, ?_⟩
        have E6 := E5.trans D6
        have hr6 := D6.1 rl _ nrw.1 nrw.2 (s5 _ _ hr4)
        refine ⟨⟨_, rfl⟩, .ref rl, rfl, .int an, rfl, _, rfl, rl, _, rfl, .inl (.inl hr6), fun l7 nl7 => ?_⟩
        rw [sl_to]
        have s7 := same_upd (o := .lst ((RR.take an).map V.str)) nl7
        have j1' := msr_join (sep := Str.ofString "\n") (a := RR.take an) (by omega)
        have j2' := msr_join (sep := Str.ofString "\n") (a := RR.drop an) (by omega)
        have l1 := len_app (Txt.join (Str.ofString "\n") (RR.take an)) x
        refine ⟨_, l7, RR.take an, rfl, rfl, .inl (.inl (.inl upd_same)), msr_ok (by omega) (by omega), .str x, rfl, _, _, rfl, rfl, by omega, ?_⟩
        refine ⟨⟨_, rfl⟩, .ref rl, rfl, .int an, rfl, _, rfl, rl, _, rfl, .inl (.inl (s7 _ _ hr6)), fun l8 nl8 => ?_⟩
        rw [sl_fr]
        have s8 := same_upd (o := .lst ((RR.drop an).map V.str)) nl8
        refine ⟨_, l8, RR.drop an, rfl, rfl, .inl (.inl (.inl upd_same)), msr_ok (by omega) (by omega), _, _, rfl, rfl, by omega, q _ _ ((E6.same s7).same s8) ?_ (okS_app (okS_app (okS_join kn (okTs_take _ kR)) kx) (okS_join kn (okTs_drop _ kR)))⟩
        rw [len_app, len_app]
        omega
      -- a word otherwise
      obtain ⟨x, hx, ex⟩ := str_at (ws := RR) (i := (an : Int)) (by omega) a1
      have mx := msr_mem hx
      have w5 := msr_split x (Str.ofString " ") (by omega)
      have p5 := split_pos x (Str.ofString " ")
      refine ⟨.ref rl, rfl, .int an, rfl, rl, _, _, .str x, rfl, rfl, .inl (.inl hr4), ex, ⟨_, rfl⟩, x, _, rfl, rfl, (by decide +kernel), by omega, fun l5 nl5 => ?_⟩
      have s5 := same_upd (o := .lst ((Txt.split x (Str.ofString " ")).map V.str)) nl5
      have E5 := E4.same s5
      have n5 := E4.2.new nl5
      have n5r : l5 ≠ rl := (ne_of_none hr4 nl5).symm
      have hr5 := s5 _ _ hr4
      have hw5 : upd H4 l5 (.lst ((Txt.split x (Str.ofString " ")).map V.str)) l5 = some (.lst ((Txt.split x (Str.ofString " ")).map V.str)) := upd_same
      generalize upd H4 l5 (.lst ((Txt.split x (Str.ofString " ")).map V.str)) = H5 at s5 E5 hr5 hw5
      have kW : okTs (Txt.split x (Str.ofString " ")) := okTs_split (kR x hx)
      generalize Txt.split x (Str.ofString " ") = WW at hw5 w5 p5 kW
      have lW : WW.length ≤ 12001 := by
        unfold msr at w5
        omega
      refine ⟨.ref wl, rfl, .ref l5, rfl, l5, _, rfl, .inl (.inl (.inl hw5)), wl, cl, _, rfl, E5.2, ?_, ?_, fun H6 d D6 d0 d1 => ?_⟩
      · rw [List.length_map]; omega
      · rw [List.length_map]; exact log_small (by omega) (by omega)
      rw [List.length_map] at d1
      obtain ⟨dn, rfl⟩ : ∃ n : Nat, d = n := ⟨d.toNat, by omega⟩
      have E6 := E5.trans D6
      have hr6 := D6.1 rl _ nrw.1 nrw.2 hr5
      have hw6 := D6.1 l5 _ n5.1 n5.2 hw5
      -- the odd ones
      refine ⟨(by show 17 ≤ sizeLine; decide), fun o1 no1 => ?_⟩
      have s7 := same_upd (o := .lst ([Str.ofString "", Str.ofString "0", Str.ofString "00", Str.ofString "1", Str.ofString "10", Str.ofString "-1", Str.ofString "+1", Str.ofString "7", Str.ofString "wish", Str.ofString "places", Str.ofString "hues", Str.ofString "Wish", Str.ofString "0:", Str.ofString "1:", Str.ofString ":", Str.ofString "012", Str.ofString "0 1"].map V.str)) no1
      have all17 : ∀ y ∈ [Str.ofString "", Str.ofString "0", Str.ofString "00", Str.ofString "1", Str.ofString "10", Str.ofString "-1", Str.ofString "+1", Str.ofString "7", Str.ofString "wish", Str.ofString "places", Str.ofString "hues", Str.ofString "Wish", Str.ofString "0:", Str.ofString "1:", Str.ofString ":", Str.ofString "012", Str.ofString "0 1"], y.length ≤ 1500 := by decide +kernel
      refine ⟨.ref o1, rfl, _, _, rfl, rfl, mul_ok, (by show 3 ≤ sizeLine; decide), fun o2 no2 => ?_⟩
      have s8 := same_upd (o := .lst ([Txt.mul (Str.ofString "9") 1500, Str.ofString "x", Str.ofString "1.0"].map V.str)) no2
      have all3 : ∀ y ∈ [Txt.mul (Str.ofString "9") 1500, Str.ofString "x", Str.ofString "1.0"], y.length ≤ 1500 := fun y hy => by
        rcases List.mem_cons.mp hy with rfl | hy
        · exact mul_len
        · have all : ∀ y ∈ [Str.ofString "x", Str.ofString "1.0"], y.length ≤ 1500 := by decide +kernel
          exact all y hy
      refine ⟨o1, o2, _, _, rfl, rfl, s8 _ _ upd_same, upd_same, (by show 17 + 3 ≤ sizeLine; decide), fun o3 no3 => ?_⟩
      have s9 := same_upd (o := .lst (([Str.ofString "", Str.ofString "0", Str.ofString "00", Str.ofString "1", Str.ofString "10", Str.ofString "-1", Str.ofString "+1", Str.ofString "7", Str.ofString "wish", Str.ofString "places", Str.ofString "hues", Str.ofString "Wish", Str.ofString "0:", Str.ofString "1:", Str.ofString ":", Str.ofString "012", Str.ofString "0 1"] ++ [Txt.mul (Str.ofString "9") 1500, Str.ofString "x", Str.ofString "1.0"]).map V.str)) no3
      have E9 := ((E6.same s7).same s8).same s9
      refine ⟨.ref o3, rfl, .ref wl, rfl, wl, cl, 20, rfl, E9.2, by decide, by decide, fun H10 e D10 e0 e1 => ?_⟩
      have n3 := ((E6.same s7).same s8).2.new no3
      obtain ⟨y, hy, ey⟩ := str_at (ws := [Str.ofString "", Str.ofString "0", Str.ofString "00", Str.ofString "1", Str.ofString "10", Str.ofString "-1", Str.ofString "+1", Str.ofString "7", Str.ofString "wish", Str.ofString "places", Str.ofString "hues", Str.ofString "Wish", Str.ofString "0:", Str.ofString "1:", Str.ofString ":", Str.ofString "012", Str.ofString "0 1"] ++ [Txt.mul (Str.ofString "9") 1500, Str.ofString "x", Str.ofString "1.0"]) (i := e) e0 (by show e < 20; exact e1)
      have ly : y.length ≤ 1500 := by
        rcases List.mem_append.mp hy with hy | hy
        · exact all17 y hy
        · exact all3 y hy
      have ky : okS y := by
        rcases List.mem_append.mp hy with hy | hy
        · have all : ∀ y ∈ [Str.ofString "", Str.ofString "0", Str.ofString "00", Str.ofString "1", Str.ofString "10", Str.ofString "-1", Str.ofString "+1", Str.ofString "7", Str.ofString "wish", Str.ofString "places", Str.ofString "hues", Str.ofString "Wish", Str.ofString "0:", Str.ofString "1:", Str.ofString ":", Str.ofString "012", Str.ofString "0 1"], okS y := by unfold okS; decide +kernel
          exact all y hy
        · have all : ∀ y ∈ [Txt.mul (Str.ofString "9") 1500, Str.ofString "x", Str.ofString "1.0"], okS y := by unfold okS; decide +kernel
          exact all y hy
      have kS := okTs_set dn kW ky
      refine ⟨o3, _, _, .str y, rfl, rfl, .inl (.inl (D10.1 o3 _ n3.1 n3.2 upd_same)), ey, ?_⟩
      have E10 := E9.trans D10
      have hr10 := D10.1 rl _ nrw.1 nrw.2 (s9 _ _ (s8 _ _ (s7 _ _ hr6)))
      have hw10 := D10.1 l5 _ n5.1 n5.2 (s9 _ _ (s8 _ _ (s7 _ _ hw6)))
      refine ⟨.ref l5, rfl, .int dn, rfl, l5, _, _, dn, rfl, rfl, hw10, ?_, ?_⟩
      · rw [List.length_map]
        exact ixN_of (by omega) d1
      have nl50 : H l5 = none := E4.free hW nl5
      have nrl0 : H rl = none := D1.free hW nrl
      have E11 : Drawn wl cl H (upd H10 l5 (.lst ((WW.map V.str).set dn (.str y)))) := E10.put nl50 n5
      have hw11 : upd H10 l5 (.lst ((WW.map V.str).set dn (.str y))) l5 = some (.lst ((WW.set dn y).map V.str)) := by rw [upd_same, List.map_set]
      have hr11 : upd H10 l5 (.lst ((WW.map V.str).set dn (.str y))) rl = some (.lst (RR.map V.str)) := by
        rw [upd_ne (Ne.symm n5r)]
        exact hr10
      generalize upd H10 l5 (.lst ((WW.map V.str).set dn (.str y))) = H11 at E11 hw11 hr11
      have mw := msr_set WW dn y
      refine ⟨.int way, rfl, rfl, _, rfl, ite2 (fun _ => ?_) (fun _ => ?_)⟩
      · have sl_to2 : ∀ k : Nat, cutV ((WW.set dn y).map V.str) none (some (k : Int)) = ((WW.set dn y).take k).map V.str := fun k => cut_to V.str (WW.set dn y) k
        have sl_fr2 : ∀ k : Nat, cutV ((WW.set dn y).map V.str) (some (k : Int)) none = ((WW.set dn y).drop k).map V.str := fun k => cut_from V.str (WW.set dn y) k
        refine ⟨.ref l5, rfl, .int dn, rfl, _, rfl, l5, _, rfl, .inl (.inl hw11), fun l12 nl12 => ?_⟩
        rw [sl_to2]
        have s12 := same_upd (o := .lst (((WW.set dn y).take dn).map V.str)) nl12
        refine ⟨.ref l5, rfl, .int dn, rfl, _, _, rfl, rfl, _, rfl, l5, _, rfl, .inl (.inl (s12 _ _ hw11)), fun l13 nl13 => ?_⟩
        have e1' : ((dn : Int) + 1) = ((dn + 1 : Nat) : Int) := by omega
        rw [e1', sl_fr2]
        have s13 := same_upd (o := .lst (((WW.set dn y).drop (dn + 1)).map V.str)) nl13
        refine ⟨l12, l13, _, _, rfl, rfl, s13 _ _ upd_same, upd_same, ?_, fun l14 nl14 => ?_⟩
        · rw [List.length_map, List.length_map, List.length_take, List.length_drop, List.length_set]
          omega
        have s14 := same_upd (o := .lst (((WW.set dn y).take dn).map V.str ++ ((WW.set dn y).drop (dn + 1)).map V.str)) nl14
        have E14 := ((E11.same s12).same s13).same s14
        have hr14 := s14 _ _ (s13 _ _ (s12 _ _ hr11))
        have hw14 : ∀ Hx : Hp, upd Hx l14 (.lst (((WW.set dn y).take dn).map V.str ++ ((WW.set dn y).drop (dn + 1)).map V.str)) l14 = some (.lst (((WW.set dn y).take dn ++ (WW.set dn y).drop (dn + 1)).map V.str)) := fun Hx => by rw [upd_same, List.map_append]
        have m14 := msr_app ((WW.set dn y).take dn) ((WW.set dn y).drop (dn + 1))
        have m15 := msr_take dn (WW.set dn y)
        have m16 := msr_drop (dn + 1) (WW.set dn y)
        have kZ := okTs_app (okTs_take dn kS) (okTs_drop (dn + 1) kS)
        generalize (WW.set dn y).take dn ++ (WW.set dn y).drop (dn + 1) = WZ at hw14 m14 kZ
        have jw := msr_join (sep := Str.ofString " ") (a := WZ) (by omega)
        have eset : (RR.map V.str).set an (.str (Txt.join (Str.ofString " ") WZ)) = (RR.set an (Txt.join (Str.ofString " ") WZ)).map V.str := by rw [List.map_set]
        have mset := msr_set RR an (Txt.join (Str.ofString " ") WZ)
        have jr := msr_join (sep := Str.ofString "\n") (a := RR.set an (Txt.join (Str.ofString " ") WZ)) (by omega)
        refine ⟨⟨_, rfl⟩, .ref l14, rfl, _, l14, WZ, rfl, rfl, .inl (.inl (.inl (hw14 _))), msr_ok (by omega) (by omega), .ref rl, rfl, .int an, rfl, rl, _, _, an, rfl, rfl, hr14, ?_, ?_⟩
        · rw [List.length_map]
          exact ixN_of (by omega) a1
        refine ⟨⟨_, rfl⟩, .ref rl, rfl, _, rl, RR.set an (Txt.join (Str.ofString " ") WZ), rfl, rfl, .inl (.inl (.inl (by rw [upd_same, eset]))), msr_ok (by omega) (by omega), q _ _ (E14.put nrl0 nrw) (by omega) (okS_join kn (okTs_set _ kR (okS_join ksp kZ)))⟩
      · generalize WW.set dn y = WZ at hw11 mw kS
        have jw := msr_join (sep := Str.ofString " ") (a := WZ) (by omega)
        have eset : (RR.map V.str).set an (.str (Txt.join (Str.ofString " ") WZ)) = (RR.set an (Txt.join (Str.ofString " ") WZ)).map V.str := by rw [List.map_set]
        have mset := msr_set RR an (Txt.join (Str.ofString " ") WZ)
        have jr := msr_join (sep := Str.ofString "\n") (a := RR.set an (Txt.join (Str.ofString " ") WZ)) (by omega)
        refine ⟨⟨_, rfl⟩, .ref l5, rfl, _, l5, WZ, rfl, rfl, .inl (.inl (.inl hw11)), msr_ok (by omega) (by omega), .ref rl, rfl, .int an, rfl, rl, _, _, an, rfl, rfl, hr11, ?_, ?_⟩
        · rw [List.length_map]
          exact ixN_of (by omega) a1
        refine ⟨⟨_, rfl⟩, .ref rl, rfl, _, rl, RR.set an (Txt.join (Str.ofString " ") WZ), rfl, rfl, .inl (.inl (.inl (by rw [upd_same, eset]))), msr_ok (by omega) (by omega), q _ _ (E11.put nrl0 nrw) (by omega) (okS_join kn (okTs_set _ kR (okS_join ksp kS)))⟩
end
end Rd

set_option Elab.async false
set_option linter.all false
set_option maxRecDepth 100000
set_option maxHeartbeats 4000000
namespace Rd
open PySem PySem.Spec PyProof.Rows L2 Dt
abbrev sLwh : Stmt := topS 42
abbrev nLwh : List Str := ["thing", "low", "high"]
theorem scLwh : FnScope nLwh ["thing", "low", "high"] (defScope sLwh) := ⟨rfl, rfl, rfl, by decide +kernel, rfl, by decide +kernel, by decide +kernel⟩
abbrev sLri : Stmt := topS 43
abbrev nLri : List Str := ["things", "k"]
theorem scLri : FnScope nLri ["things"] (defScope sLri) := ⟨rfl, rfl, rfl, by decide +kernel, rfl, by decide +kernel, by decide +kernel⟩
abbrev sLiw : Stmt := topS 44
abbrev nLiw : List Str := ["thing", "many", "hues", "places", "rows", "row", "place", "hue"]
theorem scLiw : FnScope nLiw ["thing", "many", "hues"] (defScope sLiw) := ⟨rfl, rfl, rfl, by decide +kernel, rfl, by decide +kernel, by decide +kernel⟩
abbrev sLir : Stmt := topS 45
abbrev nLir : List Str := ["thing", "wish"]
theorem scLir : FnScope nLir ["thing"] (defScope sLir) := ⟨rfl, rfl, rfl, by decide +kernel, rfl, by decide +kernel, by decide +kernel⟩
def spLri : Sp := fun vs H Q _ => ∃ pa : Addr, vs = [.ref pa] ∧ ((∃ ns : List Int, H pa = some (.tup (ns.map V.int)) ∧ ns.length ≤ 10000 ∧ ∀ H', Same H H' → Q (.bl (risI ns)) H') ∨ (∃ (rs : List Addr) (rows : List Dt.Row), H pa = some (.tup (rs.map V.ref)) ∧ Paired (IsRow H) rs rows ∧ rows.length ≤ 10000 ∧ ∀ H', Same H H' → Q (.bl (risR rows)) H'))
def OptW (H : Hp) (v : V) (o : Option WD) : Prop := (o = none ∧ v = .non) ∨ ∃ wa wd, o = some wd ∧ v = .ref wa ∧ IsWish H wa wd ∧ wd.1.length ≤ 10000 ∧ wd.2.length ≤ 10000
def optB (many hues : Int) : Option WD → Bool
  | some wd => wshB wd many hues
  | none => false
def spLiw : Sp := fun vs H Q _ => ∃ (v : V) (o : Option WD) (many hues : Int), vs = [v, .int many, .int hues] ∧ OptW H v o ∧ ∀ H', Same H H' → Q (.bl (optB many hues o)) H'
def lirB (many hues : Int) (os : List (Option WD)) : Bool := sizeOk many hues && decide (os.length ≤ 8) && os.all (optB many hues)
def spLir : Sp := fun vs H Q _ => ∃ (ri wt : Addr) (many hues : Int) (ows : List V) (os : List (Option WD)), vs = [.ref ri] ∧ H ri = some (.tup [.int many, .int hues, .ref wt]) ∧ H wt = some (.tup ows) ∧ Paired (OptW H) ows os ∧ os.length ≤ 10000 ∧ ∀ H', Same H H' → Q (.bl (lirB many hues os)) H'
theorem OptW.same {H H' : Hp} {v : V} {o : Option WD} (h : OptW H v o) (s : Same H H') : OptW H' v o := h.imp id fun ⟨wa, wd, h1, h2, h3, h4⟩ => ⟨wa, wd, h1, h2, h3.mono (tups_same s), h4⟩
structure TxtU1 (mg : Str → Option Value) : Prop where
  m_isinstance : mg "isinstance" = none
  m_int : mg "int" = none
  m_bool : mg "bool" = none
  m_tuple : mg "tuple" = none
  m_len : mg "len" = none
  m_range : mg "range" = none
structure TxtU2 (P : Program) (w : World) (K : PySem.W.Frag) (mg : Str → Option Value) (base : Heap) : Prop extends TxtU1 mg where
  c__law_whole : Cal P w K mg base 1 "_law_whole" ["thing", "low", "high"] spNum
  c__law_rising : Cal P w K mg base 1 "_law_rising" ["things"] spLri
structure TxtU3 (P : Program) (w : World) (K : PySem.W.Frag) (mg : Str → Option Value) (base : Heap) : Prop extends TxtU1 mg where
  c__law_whole : Cal P w K mg base 1 "_law_whole" ["thing", "low", "high"] spNum
  c__law_power : Cal P w K mg base 1 "_law_power" ["number", "many"] spPow
  c__law_is_wish : Cal P w K mg base 2 "_law_is_wish" ["thing", "many", "hues"] spLiw
section
variable {P : Program} {w : World} {K : PySem.W.Frag} {mg : Str → Option Value} {base : Heap}
theorem ok_lwh {f : Addr} {fd : FuncData} {k : Nat} (F : Fun K "_law_whole" "_law_whole" sLwh f fd) (T : TxtU1 mg) : FnOk P w K mg base CX0 (k + 1) f fd ["thing", "low", "high"] spNum := by
  refine F.ok scLwh (fun vs H Q E h => ?_) (fun cdv A outer s H vs Q E hr h => ?_)
  · obtain ⟨t, lo, hi, rfl, _⟩ := h
    rfl
  · obtain ⟨t, lo, hi, rfl, q⟩ := h
    refine ⟨_, (pss_one (ps_ret (pe_and (pe_callB call_isi (by rfl) T.m_isinstance (by decide +kernel) (pa_cons (pv 0) (pa_cons (pe_bltn (v := .ty "int") (by rfl) T.m_int (by decide +kernel) rfl) pa_nil))) (pe_and (pe_not (pe_callB call_isi (by rfl) T.m_isinstance (by decide +kernel) (pa_cons (pv 0) (pa_cons (pe_bltn (v := .ty "bool") (by rfl) T.m_bool (by decide +kernel) rfl) pa_nil)))) (pe_one (pe_chain op_le op_le (pv 1) (pv 0) (pv 2))))))), ?_⟩
    refine ⟨.int t, rfl, .int t, .ty "int", .type "int", .type "int", true, rfl, .ty _, .base (.int t), kit_ty (by decide +kernel), true, rfl, iteT ?_⟩
    refine ⟨.int t, rfl, .int t, .ty "bool", .type "int", .type "bool", false, rfl, .ty _, .base (.int t), kit_ty (by decide +kernel), false, rfl, true, rfl, iteT ?_⟩
    refine ⟨.int lo, rfl, .int t, rfl, lo, t, rfl, rfl, _, rfl, ite2 (fun e => ?_) (fun e => ?_)⟩
    · refine ⟨.int hi, rfl, t, hi, rfl, rfl, ?_⟩
      have e : lo ≤ t := by simpa using e
      have e2 : decide (lo ≤ t ∧ t ≤ hi) = decide (t ≤ hi) := by simp [e]
      rw [e2] at q
      exact q
    · have e : ¬ lo ≤ t := by simpa using e
      have e2 : decide (lo ≤ t ∧ t ≤ hi) = false := by simp [e]
      rw [e2] at q
      exact q
set_option maxHeartbeats 16000000 in
theorem ok_lri {f : Addr} {fd : FuncData} {k : Nat} (F : Fun K "_law_rising" "_law_rising" sLri f fd) (T : TxtU1 mg) : FnOk P w K mg base CX0 (k + 1) f fd ["things"] spLri := by
  refine F.ok scLri (fun vs H Q E h => ?_) (fun cdv A outer s H vs Q E hr h => ?_)
  · obtain ⟨pa, rfl, _⟩ := h
    rfl
  · obtain ⟨pa, rfl, hcase⟩ := h
    refine ⟨_, (pss_one (ps_ret (pe_cmpR (op_eqE hr.units) (pe_lc (tt := tNot (tTest (tOp (rLtU K) (tOp (rIxT K) (tVar 0) (tOp (rI0 fun i j => .int (i - j)) (tVar 1) (tC (.int 1)))) (tOp (rIxT K) (tVar 0) (tVar 1))))) (te := tVar 1) (own := [("k", 1)]) rfl scLri.nd  (pi_range2 (by rfl) T.m_range (pa_cons pe_int (pa_cons (pe_callB call_len_seq (by rfl) T.m_len (by decide +kernel) (pa_cons (pv 0) pa_nil)) pa_nil))) (blkOk_by (own := [("k", 1)]) (N := nLri) (sc := defScope sLri) (by decide +kernel))
   (fun _ _ _ _ _ => (pg_name (i := 1) scLri.nd rfl (Or.inl rfl))) (fun _ _ _ _ _ => pts_one (pt_not (pt_cmpR (OpR.or op_lt (op_ltT (Nat.lt_of_le_of_lt (Nat.le_add_right _ 64) hr.units))) (pe_ix ix_tup (pv 0) (pe_op op_sub (pv 1) pe_int) (fun _ _ => rfl)) (pe_ix ix_tup (pv 0) (pv 1) (fun _ _ => rfl)) (nomark _)))) (fun _ _ _ _ _ => (pv 1))) (pe_lst pa_nil) (nomark _)))), ?_⟩
    rcases hcase with ⟨ns, hpa, hlen, q⟩ | ⟨rs, rows, hpa, prs, hlen, q⟩
    · refine ⟨.ref pa, rfl, pa, _, rfl, .inr (.inl (.inl hpa)), _, _, rfl, ⟨by decide, by decide, ?_, ?_⟩, fun D nD => ?_⟩
      · rw [List.length_map]; omega
      · rw [List.length_map]; omega
      have en : (((ns.map V.int).length : Int) - 1).toNat = ns.length - 1 := by rw [List.length_map]; omega
      rw [en]
      refine lc_range (lo := 1) (n := ns.length - 1) (fun i H3 => Same H H3 ∧ ∃ xs : List V, H3 D = some (.lst xs) ∧ xs.length ≤ i ∧ (xs = [] ↔ ∀ j, j < i → ns.getD j 0 < ns.getD (j + 1) 0)) ⟨same_upd nD, [], upd_same, Nat.le_refl _, ⟨fun _ j hj => absurd hj (Nat.not_lt_zero _), fun _ => rfl⟩⟩ (fun i H3 hi p => ?_) (fun H3 p => ?_)
      · obtain ⟨s3, xs, hD, xl, xe⟩ := p
        have h1 : i < ns.length := by omega
        have h2 : i + 1 < ns.length := by omega
        have ha := getD_get (d := 0) h1
        have hb := getD_get (d := 0) h2
        have e0 : (1 : Int) + (i : Int) - 1 = (i : Nat) := by omega
        have e1 : (1 : Int) + (i : Int) = ((i + 1 : Nat) : Int) := by omega
        refine ⟨rfl, .ref pa, rfl, .int (1 + (i : Int)), rfl, _, _, rfl, rfl, pa, _, _, .int ns[i], rfl, rfl, .inl (.inl (s3 _ _ hpa)), by rw [e0]; exact atI_nat (by rw [List.getElem?_map, List.getElem?_eq_getElem h1]; rfl), .ref pa, rfl, .int (1 + (i : Int)), rfl, pa, _, _, .int ns[i + 1], rfl, rfl, .inl (.inl (s3 _ _ hpa)), by rw [e1]; exact atI_nat (by rw [List.getElem?_map, List.getElem?_eq_getElem h2]; rfl), .inl ⟨ns[i], ns[i + 1], rfl, rfl, _, rfl, ?_⟩⟩
        by_cases hab : ns[i] < ns[i + 1]
        · rw [decide_eq_true hab]
          refine iteF ?_
          refine ⟨s3, xs, hD, by omega, ⟨fun e j hj => ?_, fun a => xe.mpr fun j hj => a j (by omega)⟩⟩
          by_cases ej : j = i
          · rw [ej, ha, hb]
            exact hab
          · exact xe.mp e j (by omega)
        · rw [decide_eq_false hab]
          refine iteT ?_
          refine ⟨.int (1 + (i : Int)), rfl, xs, hD, ?_, same_put s3 nD, _, upd_same, by rw [List.length_append]; exact Nat.succ_le_succ xl, ⟨fun e => by simp at e, fun a => ?_⟩⟩
          · exact Nat.lt_of_le_of_lt (show xs.length ≤ 10000 by omega) (by decide)
          · have z := a i (Nat.lt_succ_self _)
            rw [ha, hb] at z
            exact absurd z hab
      · obtain ⟨s3, xs, hD, xl, xe⟩ := p
        refine ⟨(by show 0 ≤ sizeLine; decide), fun e2 ne2 => ?_⟩
        have se := same_upd (o := .lst []) ne2
        refine ⟨D, e2, xs, rfl, rfl, .inl (.inl (se _ _ hD)), .inl (.inl upd_same), ?_⟩
        have e : xs.isEmpty = risI ns := by
          cases xs with
          | nil =>
            have z := xe.mp rfl
            exact (List.all_eq_true.mpr fun j hj => decide_eq_true (z j (List.mem_range.mp hj)) : risI ns = true).symm
          | cons y r =>
            cases er : risI ns with
            | false => rfl
            | true =>
              have z := xe.mpr fun j hj => of_decide_eq_true (List.all_eq_true.mp er j (List.mem_range.mpr hj))
              cases z
        rw [e]
        exact q _ (s3.trans se)
    · have rl := pairedLen prs
      refine ⟨.ref pa, rfl, pa, _, rfl, .inr (.inl (.inl hpa)), _, _, rfl, ⟨by decide, by decide, ?_, ?_⟩, fun D nD => ?_⟩
      · rw [List.length_map]; omega
      · rw [List.length_map]; omega
      have en : (((rs.map V.ref).length : Int) - 1).toNat = rows.length - 1 := by rw [List.length_map]; omega
      rw [en]
      refine lc_range (lo := 1) (n := rows.length - 1) (fun i H3 => Same H H3 ∧ ∃ xs : List V, H3 D = some (.lst xs) ∧ xs.length ≤ i ∧ (xs = [] ↔ ∀ j, j < i → HT.lexLt (rows.getD j []) (rows.getD (j + 1) []) = true)) ⟨same_upd nD, [], upd_same, Nat.le_refl _, ⟨fun _ j hj => absurd hj (Nat.not_lt_zero _), fun _ => rfl⟩⟩ (fun i H3 hi p => ?_) (fun H3 p => ?_)
      · obtain ⟨s3, xs, hD, xl, xe⟩ := p
        have h1 : i < rows.length := by omega
        have h2 : i + 1 < rows.length := by omega
        have ha := getD_get (d := []) h1
        have hb := getD_get (d := []) h2
        obtain ⟨pa1, ea1, ra1⟩ := pairedGet prs (List.getElem?_eq_getElem h1)
        obtain ⟨pb1, eb1, rb1⟩ := pairedGet prs (List.getElem?_eq_getElem h2)
        have e0 : (1 : Int) + (i : Int) - 1 = (i : Nat) := by omega
        have e1 : (1 : Int) + (i : Int) = ((i + 1 : Nat) : Int) := by omega
        refine ⟨rfl, .ref pa, rfl, .int (1 + (i : Int)), rfl, _, _, rfl, rfl, pa, _, _, .ref pa1, rfl, rfl, .inl (.inl (s3 _ _ hpa)), by rw [e0]; exact atI_nat (by rw [List.getElem?_map, ea1]; rfl), .ref pa, rfl, .int (1 + (i : Int)), rfl, pa, _, _, .ref pb1, rfl, rfl, .inl (.inl (s3 _ _ hpa)), by rw [e1]; exact atI_nat (by rw [List.getElem?_map, eb1]; rfl), .inr ⟨pa1, pb1, rows[i], rows[i + 1], rfl, rfl, .inl (.inl (s3 _ _ ra1)), .inl (.inl (s3 _ _ rb1)), _, rfl, ?_⟩⟩
        by_cases hab : HT.lexLt rows[i] rows[i + 1] = true
        · rw [hab]
          refine iteF ?_
          refine ⟨s3, xs, hD, by omega, ⟨fun e j hj => ?_, fun a => xe.mpr fun j hj => a j (by omega)⟩⟩
          by_cases ej : j = i
          · rw [ej, ha, hb]
            exact hab
          · exact xe.mp e j (by omega)
        · rw [Bool.eq_false_iff.mpr hab]
          refine iteT ?_
          refine ⟨.int (1 + (i : Int)), rfl, xs, hD, ?_, same_put s3 nD, _, upd_same, by rw [List.length_append]; exact Nat.succ_le_succ xl, ⟨fun e => by simp at e, fun a => ?_⟩⟩
          · exact Nat.lt_of_le_of_lt (show xs.length ≤ 10000 by omega) (by decide)
          · have z := a i (Nat.lt_succ_self _)
            rw [ha, hb] at z
            exact absurd z hab
      · obtain ⟨s3, xs, hD, xl, xe⟩ := p
        refine ⟨(by show 0 ≤ sizeLine; decide), fun e2 ne2 => ?_⟩
        have se := same_upd (o := .lst []) ne2
        refine ⟨D, e2, xs, rfl, rfl, .inl (.inl (se _ _ hD)), .inl (.inl upd_same), ?_⟩
        have e : xs.isEmpty = risR rows := by
          cases xs with
          | nil =>
            have z := xe.mp rfl
            exact (List.all_eq_true.mpr fun j hj => z j (List.mem_range.mp hj) : risR rows = true).symm
          | cons y r =>
            cases er : risR rows with
            | false => rfl
            | true =>
              have z := xe.mpr fun j hj => List.all_eq_true.mp er j (List.mem_range.mpr hj)
              cases z
        rw [e]
        exact q _ (s3.trans se)
end
end Rd

set_option Elab.async false
set_option linter.all false
set_option maxRecDepth 100000
set_option maxHeartbeats 4000000
namespace Rd
open PySem PySem.Spec PyProof.Rows L2 Dt
theorem layRs : ∀ rows : List (List Int), PyData.canLayAll0 (rows.map rowD) = true
  | [] => rfl
  | r :: q => by
    have a : ∀ ns : List Int, PyData.canLayAll0 (ns.map PyData.int) = true := fun ns => by
      induction ns with
      | nil => rfl
      | cons x t ih => simp only [List.map_cons, PyData.canLayAll0, PyData.canLay0, ih, Bool.and_true]
    rw [List.map_cons]
    unfold rowD
    simp only [PyData.canLayAll0, PyData.canLay0, a, Bool.true_and]
    exact layRs q
theorem depRs : ∀ rows : List (List Int), PyData.depthAll (rows.map rowD) ≤ 2
  | [] => by simp [PyData.depthAll]
  | r :: q => by
    have a : ∀ ns : List Int, PyData.depthAll (ns.map PyData.int) ≤ 1 := fun ns => by
      induction ns with
      | nil => simp [PyData.depthAll]
      | cons x t ih =>
        rw [List.map_cons]
        simp only [PyData.depthAll, PyData.depth]
        omega
    have b := depRs q
    have c := a r
    rw [List.map_cons]
    unfold rowD at b ⊢
    simp only [PyData.depthAll, PyData.depth]
    omega
theorem shpRs (rows : List (List Int)) : SeqAt.shaped (.tuple (rows.map rowD)) = true := by
  have a := layRs rows
  have b := depRs rows
  have e1 : (PyData.tuple (rows.map rowD)).canLay0 = true := by rw [PyData.canLay0]; exact a
  have e2 : (PyData.tuple (rows.map rowD)).depth ≤ 64 := by
    simp only [PyData.depth]
    omega
  unfold SeqAt.shaped
  rw [e1, Bool.true_and]
  exact decide_eq_true e2
theorem eqv_rs0 (rows : List (List Int)) : PyData.eqv (.tuple (rows.map rowD)) (.tuple []) = decide (rows.length = 0) := by
  cases rows with
  | nil => simp [PyData.eqv, PyData.eqvAll]
  | cons r q => simp [PyData.eqv, PyData.eqvAll]
section
variable {P : Program} {w : World} {K : PySem.W.Frag} {mg : Str → Option Value} {base : Heap}
set_option maxHeartbeats 32000000 in
theorem ok_liw {f : Addr} {fd : FuncData} {k : Nat} (F : Fun K "_law_is_wish" "_law_is_wish" sLiw f fd) (T : TxtU2 P w K mg base) : FnOk P w K mg base CX0 (k + 2) f fd ["thing", "many", "hues"] spLiw := by
  refine F.ok scLiw (fun vs H Q E h => ?_) (fun cdv A outer s H vs Q E hr h => ?_)
  · obtain ⟨v, o, many, hues, rfl, _⟩ := h
    rfl
  · obtain ⟨v, o, many, hues, rfl, ow, q⟩ := h
    refine ⟨_, (pss_cons (ps_if (PW.pt (pw_or (pt_not (pt_val (pe_callB call_isi (by rfl) T.m_isinstance (by decide +kernel) (pa_cons (pv 0) (pa_cons (pe_bltn (v := .ty "tuple") (by rfl) T.m_tuple (by decide +kernel) rfl) pa_nil))))) (pw_or1 (pt_cmpR op_ne (pe_callB call_len_seq (by rfl) T.m_len (by decide +kernel) (pa_cons (pv 0) pa_nil)) pe_int (nomark _)))))
  (pss_one (ps_ret pe_bl)) pss_nil)
  (pss_cons (ps_asg (pv 0) (pg_tup rfl (pgs_cons (pg_name (i := 3) scLiw.nd rfl (Or.inl rfl)) (pgs_cons (pg_name (i := 4) scLiw.nd rfl (Or.inl rfl)) pgs_nil))))
  (pss_cons (ps_if (PW.pt (pw_or (pt_not (pt_val (pe_callB call_isi (by rfl) T.m_isinstance (by decide +kernel) (pa_cons (pv 3) (pa_cons (pe_bltn (v := .ty "tuple") (by rfl) T.m_tuple (by decide +kernel) rfl) pa_nil))))) (pw_or (pt_not (pt_val (pe_callB call_isi (by rfl) T.m_isinstance (by decide +kernel) (pa_cons (pv 4) (pa_cons (pe_bltn (v := .ty "tuple") (by rfl) T.m_tuple (by decide +kernel) rfl) pa_nil))))) (pw_or (pt_cmpR (op_eqD hr.units) (pv 4) (pe_tup pa_nil) (nomark _)) (pw_or1 (pt_not (pt_chain op_lt op_lt pe_int (pe_callB call_len_seq (by rfl) T.m_len (by decide +kernel) (pa_cons (pv 3) pa_nil)) pe_int)))))))
  (pss_one (ps_ret pe_bl)) pss_nil)
  (pss_cons (ps_if (PW.pt (pw_or (pt_cmpR (op_neE hr.units) (pe_lc (tt := tNot (tB (tCall spNum [] E0 (tCons (tVar 6) (tCons (tC (.int 0)) (tCons (tOp (rI0 fun i j => .int (i - j)) (tVar 1) (tC (.int 1))) tNil)))))) (te := tVar 6) (own := [("place", 6)]) rfl scLiw.nd  (pi_tup (pv 3)) (blkOk_by (own := [("place", 6)]) (N := nLiw) (sc := defScope sLiw) (by decide +kernel))
   (fun _ _ _ _ _ => (pg_name (i := 6) scLiw.nd rfl (Or.inl rfl))) (fun _ _ _ _ _ => pts_one (pt_not (pt_val (pe_cal T.c__law_whole (hr.mono (by omega)) (by rfl) (pa_cons (pv 6) (pa_cons pe_int (pa_cons (pe_op op_sub (pv 1) pe_int) pa_nil))))))) (fun _ _ _ _ _ => (pv 6))) (pe_lst pa_nil) (nomark _)) (pw_or1 (pt_not (pt_val (pe_cal T.c__law_rising (hr.mono (by omega)) (by rfl) (pa_cons (pv 3) pa_nil)))))))
  (pss_one (ps_ret pe_bl)) pss_nil)
  (pss_cons (ps_for PassesOwn.never rfl (pi_tup (pv 4)) (pg_name (i := 5) scLiw.nd rfl (Or.inl rfl))
  (pss_cons (ps_if (PW.pt (pw_or (pt_not (pt_val (pe_callB call_isi (by rfl) T.m_isinstance (by decide +kernel) (pa_cons (pv 5) (pa_cons (pe_bltn (v := .ty "tuple") (by rfl) T.m_tuple (by decide +kernel) rfl) pa_nil))))) (pw_or1 (pt_cmpR op_ne (pe_callB call_len_seq (by rfl) T.m_len (by decide +kernel) (pa_cons (pv 5) pa_nil)) (pe_callB call_len_seq (by rfl) T.m_len (by decide +kernel) (pa_cons (pv 3) pa_nil)) (nomark _)))))
  (pss_one (ps_ret pe_bl)) pss_nil)
  (pss_one (ps_if (pt_cmpR (op_neE hr.units) (pe_lc (tt := tNot (tB (tCall spNum [] E0 (tCons (tVar 7) (tCons (tC (.int 0)) (tCons (tOp (rI0 fun i j => .int (i - j)) (tVar 2) (tC (.int 1))) tNil)))))) (te := tVar 7) (own := [("hue", 7)]) rfl scLiw.nd  (pi_tup (pv 5)) (blkOk_by (own := [("hue", 7)]) (N := nLiw) (sc := defScope sLiw) (by decide +kernel))
   (fun _ _ _ _ _ => (pg_name (i := 7) scLiw.nd rfl (Or.inl rfl))) (fun _ _ _ _ _ => pts_one (pt_not (pt_val (pe_cal T.c__law_whole (hr.mono (by omega)) (by rfl) (pa_cons (pv 7) (pa_cons pe_int (pa_cons (pe_op op_sub (pv 2) pe_int) pa_nil))))))) (fun _ _ _ _ _ => (pv 7))) (pe_lst pa_nil) (nomark _))
  (pss_one (ps_ret pe_bl)) pss_nil))))
  (pss_one (ps_ret (pe_cal T.c__law_rising (hr.mono (by omega)) (by rfl) (pa_cons (pv 4) pa_nil))))))))), ?_⟩
    rcases ow with ⟨rfl, rfl⟩ | ⟨wa, wd, rfl, rfl, isw, l1, l2⟩
    · refine ⟨.non, rfl, .non, .ty "tuple", .type "NoneType", .type "tuple", false, rfl, .ty _, .base .non, kit_ty (by decide +kernel), false, rfl, iteT (iteT ?_)⟩
      exact q H (fun _ _ e => e)
    obtain ⟨pa, ra, rs, i1, i2, i3, i4⟩ := id isw
    have rl := pairedLen i4
    refine ⟨.ref wa, rfl, .ref wa, .ty "tuple", .type "tuple", .type "tuple", true, rfl, .ty _, .base (.tup i1), kit_ty (by decide +kernel), true, rfl, iteF ?_⟩
    refine ⟨.ref wa, rfl, wa, _, rfl, .inr (.inl (.inl i1)), rfl, _, rfl, iteNS rfl ?_⟩
    refine ⟨.ref wa, rfl, wa, _, rfl, .inl (.inl i1), rfl, .ref pa, [.ref ra], rfl, .ref ra, [], rfl, rfl, ?_⟩
    have q : ∀ H', Same H H' → Q (.bl (plsB wd.1 many && rwsB wd.2 wd.1.length hues)) H' := q
    refine ⟨.ref pa, rfl, .ref pa, .ty "tuple", .type "tuple", .type "tuple", true, rfl, .ty _, .base (.tup i2), kit_ty (by decide +kernel), true, rfl, iteF ?_⟩
    refine ⟨.ref ra, rfl, .ref ra, .ty "tuple", .type "tuple", .type "tuple", true, rfl, .ty _, .base (.tup i3), kit_ty (by decide +kernel), true, rfl, iteF ?_⟩
    refine ⟨.ref ra, rfl, (by show 0 ≤ sizeLine; decide), fun e0 ne0 => ?_⟩
    have s0 := same_upd (o := .tup []) ne0
    refine ⟨.tuple (wd.2.map rowD), .tuple [], .tup (.inl (.inl (s0 _ _ i3))) (dpRows (pairedMap (fun _ _ e => s0 _ _ e) i4)), .tup (.inl (.inl upd_same)) .nil, shpRs _, (by decide +kernel), _, rfl, ?_⟩
    rw [eqv_rs0]
    by_cases z2 : wd.2.length = 0
    · rw [decide_eq_true z2]
      refine iteT (iteT ?_)
      have e : rwsB wd.2 wd.1.length hues = false := by
        unfold rwsB
        rw [decide_eq_false (fun c => c z2), Bool.false_and, Bool.false_and]
      rw [e, Bool.and_false] at q
      exact q _ s0
    rw [decide_eq_false z2]
    refine iteF ?_
    have i1' := s0 _ _ i1
    have i2' := s0 _ _ i2
    have i3' := s0 _ _ i3
    have i4' : Paired (IsRow (upd H e0 (.tup []))) rs wd.2 := pairedMap (fun _ _ e => s0 _ _ e) i4
    generalize upd H e0 (.tup []) = H0 at s0 i1' i2' i3' i4'
    refine ⟨.ref pa, rfl, pa, _, rfl, .inr (.inl (.inl i2')), _, _, rfl, rfl, _, rfl, ?_⟩
    rw [List.length_map]
    by_cases z1 : 1 ≤ wd.1.length
    · rw [if_pos (decide_eq_true (show (0 : Int) < ((wd.1.length : Nat) : Int) by omega))]
      refine ⟨_, _, rfl, rfl, _, rfl, ?_⟩
      by_cases z3 : wd.1.length ≤ 3
      · rw [decide_eq_true (show ((wd.1.length : Nat) : Int) < 4 by omega)]
        refine iteF ?_
        -- places
        refine ⟨.ref pa, rfl, pa, rfl, ⟨_, .inl (.inl i2')⟩, fun D nD => ?_⟩
        refine lc_tup (K := K) (a := pa) (xs := wd.1.map V.int) (fun i H3 => Same H0 H3 ∧ ∃ xs : List V, H3 D = some (.lst xs) ∧ xs.length ≤ i ∧ (xs = [] ↔ ∀ p ∈ wd.1.take i, 0 ≤ p ∧ p ≤ many - 1)) ⟨same_upd nD, [], upd_same, Nat.le_refl _, ⟨fun _ _ h => (nomatch h), fun _ => rfl⟩⟩ (fun i H3 _ p => .inl (.inl (p.1 _ _ i2'))) (fun i x H3 hx p => ?_) (fun H3 p => ?_)
        · obtain ⟨n, en, rfl⟩ := map_get hx
          obtain ⟨s3, xs, hD, xl, xe⟩ := p
          have il : i < wd.1.length := (List.getElem?_eq_some_iff.mp en).1
          refine ⟨rfl, .int n, rfl, .int many, rfl, _, _, rfl, rfl, n, 0, many - 1, rfl, _, rfl, ?_⟩
          by_cases hn : 0 ≤ n ∧ n ≤ many - 1
          · rw [decide_eq_true hn]
            refine iteF ⟨s3, xs, hD, by omega, ⟨fun e p hp => ?_, fun a => xe.mpr fun p hp => a p ?_⟩⟩
            · rw [take_snoc en] at hp
              rcases List.mem_append.mp hp with h | h
              · exact xe.mp e p h
              · rw [List.mem_singleton.mp h]
                exact hn
            · rw [take_snoc en]
              exact List.mem_append_left _ hp
          · rw [decide_eq_false hn]
            refine iteT ⟨.int n, rfl, xs, hD, Nat.lt_of_le_of_lt (show xs.length ≤ 10000 by omega) (by decide), same_put s3 nD, _, upd_same, by rw [List.length_append]; exact Nat.succ_le_succ xl, ⟨fun e => by simp at e, fun a => ?_⟩⟩
            exact absurd (a n (by rw [take_snoc en]; exact List.mem_append_right _ (List.mem_singleton.mpr rfl))) hn
        obtain ⟨s3, xs, hD, xl, xe⟩ := p
        rw [List.length_map, List.take_length] at xe
        have s03 := s0.trans s3
        refine ⟨(by show 0 ≤ sizeLine; decide), fun e2 ne2 => ?_⟩
        have se := same_upd (o := .lst []) ne2
        refine ⟨D, e2, xs, rfl, rfl, .inl (.inl (se _ _ hD)), .inl (.inl upd_same), _, rfl, ?_⟩
        have s4 := s3.trans se
        have s04 := s0.trans s4
        have i2q := s4 _ _ i2'
        have i3q := s4 _ _ i3'
        have i4q := pairedMap (fun _ _ e => s4 _ _ e) i4'
        generalize upd H3 e2 (.lst []) = H4 at s04 i2q i3q i4q s4
        by_cases zx : xs = []
        · have allP := xe.mp zx
          have eP : (wd.1.all fun p => decide (0 ≤ p ∧ p ≤ many - 1)) = true := List.all_eq_true.mpr fun p hp => decide_eq_true (allP p hp)
          rw [zx]
          refine iteF ?_
          refine ⟨.ref pa, rfl, pa, rfl, .inl ⟨wd.1, i2q, l1, fun H5 s5 => ⟨_, rfl, ?_⟩⟩⟩
          have s05 := s04.trans s5
          cases er : risI wd.1 with
          | false =>
            refine iteT ?_
            have e : plsB wd.1 many = false := by
              unfold plsB
              rw [er, Bool.and_false]
            rw [e, Bool.false_and] at q
            exact q _ s05
          | true =>
            refine iteF ?_
            have e : plsB wd.1 many = true := by
              unfold plsB
              rw [er, eP, decide_eq_true z1, decide_eq_true z3]
              rfl
            rw [e, Bool.true_and] at q
            -- rows
            refine ⟨.ref ra, rfl, ra, rfl, ⟨_, .inl (.inl (s5 _ _ i3q))⟩, ?_⟩
            refine for_tup (K := K) (a := ra) (xs := rs.map V.ref) (fun i σ H6 => Same H5 H6 ∧ (∀ r ∈ wd.2.take i, husB r wd.1.length hues = true) ∧ ∃ y5, σ = [some (.ref wa), some (.int many), some (.int hues), some (.ref pa), some (.ref ra), y5, none, none]) ⟨fun _ _ e => e, (fun _ h => nomatch h), _, rfl⟩ (fun i σ H6 _ p => .inl (.inl (p.1 _ _ (s5 _ _ i3q)))) (fun i x σ H6 hx p => ?_) (fun σ H6 p => ?_)
            · obtain ⟨r, er1, rfl⟩ := map_get hx
              obtain ⟨s6, hp, y5, rfl⟩ := p
              obtain ⟨row, ew, hrow⟩ := pairedGetL i4q er1
              have hrow6 : H6 r = some (.tup (row.map V.int)) := s6 _ _ (s5 _ _ hrow)
              have mrow := List.mem_of_getElem? ew
              have bad : husB row wd.1.length hues = false → ∀ H', Same H6 H' → Q (.bl false) H' := fun eb H' s' => by
                have e : rwsB wd.2 wd.1.length hues = false := by
                  unfold rwsB
                  rw [all_false mrow eb, Bool.and_false, Bool.false_and]
                rw [e] at q
                exact q _ ((s05.trans s6).trans s')
              refine ⟨.ref r, rfl, .ref r, .ty "tuple", .type "tuple", .type "tuple", true, rfl, .ty _, .base (.tup hrow6), kit_ty (by decide +kernel), true, rfl, iteF ?_⟩
              refine ⟨.ref r, rfl, r, _, rfl, .inr (.inl (.inl hrow6)), .ref pa, rfl, pa, _, rfl, .inr (.inl (.inl (s6 _ _ (s5 _ _ i2q)))), rfl, _, rfl, ?_⟩
              rw [List.length_map, List.length_map]
              by_cases el : row.length = wd.1.length
              · refine iteNS (by rw [el]) ?_
                refine ⟨.ref r, rfl, r, rfl, ⟨_, .inl (.inl hrow6)⟩, fun D2 nD2 => ?_⟩
                refine lc_tup (K := K) (a := r) (xs := row.map V.int) (fun i H7 => Same H6 H7 ∧ ∃ xs : List V, H7 D2 = some (.lst xs) ∧ xs.length ≤ i ∧ (xs = [] ↔ ∀ p ∈ row.take i, 0 ≤ p ∧ p ≤ hues - 1)) ⟨same_upd nD2, [], upd_same, Nat.le_refl _, ⟨fun _ _ h => (nomatch h), fun _ => rfl⟩⟩ (fun i H7 _ p => .inl (.inl (p.1 _ _ hrow6))) (fun i x H7 hx p => ?_) (fun H7 p => ?_)
                · obtain ⟨n, en, rfl⟩ := map_get hx
                  obtain ⟨s7, xs, hD, xl, xe⟩ := p
                  have il : i < row.length := (List.getElem?_eq_some_iff.mp en).1
                  refine ⟨rfl, .int n, rfl, .int hues, rfl, _, _, rfl, rfl, n, 0, hues - 1, rfl, _, rfl, ?_⟩
                  by_cases hn : 0 ≤ n ∧ n ≤ hues - 1
                  · rw [decide_eq_true hn]
                    refine iteF ⟨s7, xs, hD, by omega, ⟨fun e p hp => ?_, fun a => xe.mpr fun p hp => a p ?_⟩⟩
                    · rw [take_snoc en] at hp
                      rcases List.mem_append.mp hp with h | h
                      · exact xe.mp e p h
                      · rw [List.mem_singleton.mp h]
                        exact hn
                    · rw [take_snoc en]
                      exact List.mem_append_left _ hp
                  · rw [decide_eq_false hn]
                    refine iteT ⟨.int n, rfl, xs, hD, Nat.lt_of_le_of_lt (show xs.length ≤ 10000 by omega) (by decide), same_put s7 nD2, _, upd_same, by rw [List.length_append]; exact Nat.succ_le_succ xl, ⟨fun e => by simp at e, fun a => ?_⟩⟩
                    exact absurd (a n (by rw [take_snoc en]; exact List.mem_append_right _ (List.mem_singleton.mpr rfl))) hn
                obtain ⟨s7, xs, hD, xl, xe⟩ := p
                rw [List.length_map, List.take_length] at xe
                refine ⟨(by show 0 ≤ sizeLine; decide), fun e3 ne3 => ?_⟩
                have se3 := same_upd (o := .lst []) ne3
                refine ⟨D2, e3, xs, rfl, rfl, .inl (.inl (se3 _ _ hD)), .inl (.inl upd_same), _, rfl, ?_⟩
                by_cases zx2 : xs = []
                · rw [zx2]
                  refine iteF ⟨(s6.trans s7).trans se3, fun r' hr' => ?_, _, rfl⟩
                  rw [take_snoc ew] at hr'
                  rcases List.mem_append.mp hr' with h | h
                  · exact hp r' h
                  · rw [List.mem_singleton.mp h]
                    unfold husB
                    rw [decide_eq_true el, Bool.true_and]
                    exact List.all_eq_true.mpr fun x hx => decide_eq_true (xe.mp zx2 x hx)
                · have e9 : (!xs.isEmpty) = true := by
                    cases xs with
                    | nil => exact absurd rfl zx2
                    | cons _ _ => rfl
                  rw [e9]
                  refine iteT (bad ?_ _ (s7.trans se3))
                  cases eh : husB row wd.1.length hues with
                  | false => rfl
                  | true =>
                    unfold husB at eh
                    simp only [Bool.and_eq_true, decide_eq_true_eq, List.all_eq_true] at eh
                    exact absurd (xe.mpr eh.2) zx2
              · have e : (!decide (V.int (row.length : Int) = V.int (wd.1.length : Int))) = true := by
                  rw [decide_eq_false (fun z => el (by injection z with z; omega))]
                  rfl
                rw [e]
                refine iteT (bad ?_ _ (fun _ _ e => e))
                unfold husB
                rw [decide_eq_false el, Bool.false_and]
            · obtain ⟨s6, hp, y5, rfl⟩ := p
              rw [List.length_map, rl, List.take_length] at hp
              refine ⟨.ref ra, rfl, ra, rfl, .inr ⟨rs, wd.2, s6 _ _ (s5 _ _ i3q), pairedMap (fun _ _ e => s6 _ _ (s5 _ _ e)) i4q, l2, fun H7 s7 => ?_⟩⟩
              have e : rwsB wd.2 wd.1.length hues = risR wd.2 := by
                unfold rwsB
                rw [decide_eq_true z2, Bool.true_and, (List.all_eq_true.mpr hp : (wd.2.all fun r => husB r wd.1.length hues) = true), Bool.true_and]
              rw [e] at q
              exact q _ ((s05.trans s6).trans s7)
        · have e9 : (!xs.isEmpty) = true := by
            cases xs with
            | nil => exact absurd rfl zx
            | cons _ _ => rfl
          rw [e9]
          refine iteT (iteT ?_)
          have e : plsB wd.1 many = false := by
            cases eh : plsB wd.1 many with
            | false => rfl
            | true =>
              unfold plsB at eh
              simp only [Bool.and_eq_true, decide_eq_true_eq, List.all_eq_true] at eh
              exact absurd (xe.mpr eh.1.2) zx
          rw [e, Bool.false_and] at q
          exact q _ s04
      · rw [decide_eq_false (show ¬ ((wd.1.length : Nat) : Int) < 4 by omega)]
        refine iteT ?_
        have e : plsB wd.1 many = false := by
          unfold plsB
          rw [decide_eq_false z3, Bool.and_false, Bool.false_and, Bool.false_and]
        rw [e, Bool.false_and] at q
        exact q _ s0
    · rw [if_neg (by rw [decide_eq_true_eq]; omega)]
      refine ⟨_, rfl, iteT ?_⟩
      have e : plsB wd.1 many = false := by
        unfold plsB
        rw [decide_eq_false z1, Bool.false_and, Bool.false_and, Bool.false_and]
      rw [e, Bool.false_and] at q
      exact q _ s0
end
end Rd

set_option Elab.async false
set_option linter.all false
set_option maxRecDepth 100000
set_option maxHeartbeats 4000000
namespace Rd
open PySem PySem.Spec PyProof.Rows L2 Dt TL
abbrev sLfg : Stmt := topS 47
abbrev nLfg : List Str := ["word", "sign"]
theorem scLfg : FnScope nLfg ["word"] (defScope sLfg) := ⟨rfl, rfl, rfl, by decide +kernel, rfl, by decide +kernel, by decide +kernel⟩
abbrev sLwr : Stmt := topS 48
abbrev nLwr : List Str := ["row", "parts", "places", "word", "one"]
theorem scLwr : FnScope nLwr ["row"] (defScope sLwr) := ⟨rfl, rfl, rfl, by decide +kernel, rfl, by decide +kernel, by decide +kernel⟩
def spLfg : Sp := fun vs H Q _ => ∃ t : Str, vs = [.str t] ∧ t.length ≤ 7000 ∧ ∀ H' p, Same H H' → H p = none → H' p = some (.tup ((figL t).map V.int)) → Q (.ref p) H'
def spLwr : Sp := fun vs H Q _ => ∃ t : Str, vs = [.str t] ∧ t.length ≤ 6000 ∧ ∀ H' v, Same H H' → OptW H' v (wishR t) → Q v H'
structure TxtV1 (P : Program) (w : World) (K : PySem.W.Frag) (mg : Str → Option Value) (base : Heap) : Prop extends TxtU1 mg where
  c__law_figures : Cal P w K mg base 1 "_law_figures" ["word"] spLfg
section
variable {P : Program} {w : World} {K : PySem.W.Frag} {mg : Str → Option Value} {base : Heap}
set_option maxHeartbeats 16000000 in
theorem ok_lir {f : Addr} {fd : FuncData} {k : Nat} (F : Fun K "_law_is_riddle" "_law_is_riddle" sLir f fd) (T : TxtU3 P w K mg base) : FnOk P w K mg base CX0 (k + 3) f fd ["thing"] spLir := by
  refine F.ok scLir (fun vs H Q E h => ?_) (fun cdv A outer s H vs Q E hr h => ?_)
  · obtain ⟨ri, wt, many, hues, ows, os, rfl, _⟩ := h
    rfl
  · obtain ⟨ri, wt, many, hues, ows, os, rfl, h1, h2, po, ol, q⟩ := h
    refine ⟨_, (pss_cons (ps_if (PW.pt (pw_or (pt_not (pt_val (pe_callB call_isi (by rfl) T.m_isinstance (by decide +kernel) (pa_cons (pv 0) (pa_cons (pe_bltn (v := .ty "tuple") (by rfl) T.m_tuple (by decide +kernel) rfl) pa_nil))))) (pw_or (pt_cmpR op_ne (pe_callB call_len_seq (by rfl) T.m_len (by decide +kernel) (pa_cons (pv 0) pa_nil)) pe_int (nomark _)) (pw_or (pt_not (pt_val (pe_callB call_isi (by rfl) T.m_isinstance (by decide +kernel) (pa_cons (pe_ix ix_tup (pv 0) pe_int (fun _ _ => rfl)) (pa_cons (pe_bltn (v := .ty "tuple") (by rfl) T.m_tuple (by decide +kernel) rfl) pa_nil))))) (pw_or1 (pt_cmpR op_gt (pe_callB call_len_seq (by rfl) T.m_len (by decide +kernel) (pa_cons (pe_ix ix_tup (pv 0) pe_int (fun _ _ => rfl)) pa_nil)) pe_int (nomark _)))))))
  (pss_one (ps_ret pe_bl)) pss_nil)
  (pss_cons (ps_if (PW.pt (pw_or (pt_not (pt_val (pe_cal T.c__law_whole (hr.mono (by omega)) (by rfl) (pa_cons (pe_ix ix_tup (pv 0) pe_int (fun _ _ => rfl)) (pa_cons pe_int (pa_cons pe_int pa_nil)))))) (pw_or (pt_not (pt_val (pe_cal T.c__law_whole (hr.mono (by omega)) (by rfl) (pa_cons (pe_ix ix_tup (pv 0) pe_int (fun _ _ => rfl)) (pa_cons pe_int (pa_cons pe_int pa_nil)))))) (pw_or1 (pt_cmpR op_gt (pe_cal T.c__law_power (hr.mono (by omega)) (by rfl) (pa_cons (pe_ix ix_tup (pv 0) pe_int (fun _ _ => rfl)) (pa_cons (pe_ix ix_tup (pv 0) pe_int (fun _ _ => rfl)) pa_nil))) pe_int (nomark _))))))
  (pss_one (ps_ret pe_bl)) pss_nil)
  (pss_one (ps_ret (pe_cmpR (op_eqE hr.units) (pe_lc (tt := tNot (tB (tCall spLiw [] E0 (tCons (tVar 1) (tCons (tOp (rIxT K) (tVar 0) (tC (.int 0))) (tCons (tOp (rIxT K) (tVar 0) (tC (.int 1))) tNil)))))) (te := tVar 1) (own := [("wish", 1)]) rfl scLir.nd  (pi_tup (pe_ix ix_tup (pv 0) pe_int (fun _ _ => rfl))) (blkOk_by (own := [("wish", 1)]) (N := nLir) (sc := defScope sLir) (by decide +kernel))
   (fun _ _ _ _ _ => (pg_name (i := 1) scLir.nd rfl (Or.inl rfl))) (fun _ _ _ _ _ => pts_one (pt_not (pt_val (pe_cal T.c__law_is_wish (hr.mono (by omega)) (by rfl) (pa_cons (pv 1) (pa_cons (pe_ix ix_tup (pv 0) pe_int (fun _ _ => rfl)) (pa_cons (pe_ix ix_tup (pv 0) pe_int (fun _ _ => rfl)) pa_nil))))))) (fun _ _ _ _ _ => (pv 1))) (pe_lst pa_nil) (nomark _)))))), ?_⟩
    have oll := pairedLen po
    unfold lirB sizeOk at q
    refine ⟨.ref ri, rfl, .ref ri, .ty "tuple", .type "tuple", .type "tuple", true, rfl, .ty _, .base (.tup h1), kit_ty (by decide +kernel), true, rfl, iteF ?_⟩
    refine ⟨.ref ri, rfl, ri, _, rfl, .inr (.inl (.inl h1)), rfl, _, rfl, iteNS rfl ?_⟩
    refine ⟨.ref ri, rfl, ri, _, 2, _, rfl, rfl, .inl (.inl h1), atI_nat (j := 2) rfl, .ref wt, .ty "tuple", .type "tuple", .type "tuple", true, rfl, .ty _, .base (.tup h2), kit_ty (by decide +kernel), true, rfl, iteF ?_⟩
    refine ⟨.ref ri, rfl, ri, _, 2, _, rfl, rfl, .inl (.inl h1), atI_nat (j := 2) rfl, wt, _, rfl, .inr (.inl (.inl h2)), _, _, rfl, rfl, _, rfl, ?_⟩
    by_cases e8 : os.length ≤ 8
    · rw [decide_eq_false (show ¬ ((ows.length : Nat) : Int) > 8 by omega)]
      refine iteF ?_
      rw [decide_eq_true e8, Bool.and_true] at q
      refine ⟨.ref ri, rfl, ri, _, 0, _, rfl, rfl, .inl (.inl h1), atI_nat (j := 0) rfl, many, 1, 6, rfl, _, rfl, ?_⟩
      by_cases c1 : 1 ≤ many ∧ many ≤ 6
      · rw [decide_eq_true c1] at q ⊢
        refine iteF ?_
        refine ⟨.ref ri, rfl, ri, _, 1, _, rfl, rfl, .inl (.inl h1), atI_nat (j := 1) rfl, hues, 2, 4, rfl, _, rfl, ?_⟩
        by_cases c2 : 2 ≤ hues ∧ hues ≤ 4
        · rw [decide_eq_true c2] at q ⊢
          refine iteF ?_
          refine ⟨.ref ri, rfl, ri, _, 1, _, rfl, rfl, .inl (.inl h1), atI_nat (j := 1) rfl, .ref ri, rfl, ri, _, 0, _, rfl, rfl, .inl (.inl h1), atI_nat (j := 0) rfl, hues, many, rfl, by omega, by omega, by omega, by omega, _, _, rfl, rfl, _, rfl, ?_⟩
          by_cases c3 : hues ^ many.toNat ≤ 256
          · rw [decide_eq_false (show ¬ hues ^ many.toNat > 256 by omega)]
            refine iteF ?_
            rw [decide_eq_true c3, Bool.true_and, Bool.true_and, Bool.true_and] at q
            refine ⟨.ref ri, rfl, ri, _, 2, _, rfl, rfl, .inl (.inl h1), atI_nat (j := 2) rfl, wt, rfl, ⟨_, .inl (.inl h2)⟩, fun D nD => ?_⟩
            refine lc_tup (K := K) (a := wt) (xs := ows) (fun i H3 => Same H H3 ∧ ∃ xs : List V, H3 D = some (.lst xs) ∧ xs.length ≤ i ∧ (xs = [] ↔ ∀ o ∈ os.take i, optB many hues o = true)) ⟨same_upd nD, [], upd_same, Nat.le_refl _, ⟨fun _ _ h => (nomatch h), fun _ => rfl⟩⟩ (fun i H3 _ p => .inl (.inl (p.1 _ _ h2))) (fun i x H3 hx p => ?_) (fun H3 p => ?_)
            · obtain ⟨s3, xs, hD, xl, xe⟩ := p
              obtain ⟨o, eo, ow⟩ := pairedGetL po hx
              have il : i < os.length := (List.getElem?_eq_some_iff.mp eo).1
              refine ⟨rfl, x, rfl, .ref ri, rfl, ri, _, 0, _, rfl, rfl, .inl (.inl (s3 _ _ h1)), atI_nat (j := 0) rfl, .ref ri, rfl, ri, _, 1, _, rfl, rfl, .inl (.inl (s3 _ _ h1)), atI_nat (j := 1) rfl, x, o, many, hues, rfl, ow.same s3, fun H4 s4 => ⟨_, rfl, ?_⟩⟩
              cases eb : optB many hues o with
              | true =>
                refine iteF ⟨s3.trans s4, xs, s4 _ _ hD, by omega, ⟨fun e p hp => ?_, fun a => xe.mpr fun p hp => a p ?_⟩⟩
                · rw [take_snoc eo] at hp
                  rcases List.mem_append.mp hp with h | h
                  · exact xe.mp e p h
                  · rw [List.mem_singleton.mp h]
                    exact eb
                · rw [take_snoc eo]
                  exact List.mem_append_left _ hp
              | false =>
                refine iteT ⟨x, rfl, xs, s4 _ _ hD, Nat.lt_of_le_of_lt (show xs.length ≤ 10000 by omega) (by decide), same_put (s3.trans s4) nD, _, upd_same, by rw [List.length_append]; exact Nat.succ_le_succ xl, ⟨fun e => by simp at e, fun a => ?_⟩⟩
                have z := a o (by rw [take_snoc eo]; exact List.mem_append_right _ (List.mem_singleton.mpr rfl))
                rw [eb] at z
                cases z
            · obtain ⟨s3, xs, hD, xl, xe⟩ := p
              rw [oll, List.take_length] at xe
              refine ⟨(by show 0 ≤ sizeLine; decide), fun e2 ne2 => ?_⟩
              have se := same_upd (o := .lst []) ne2
              refine ⟨D, e2, xs, rfl, rfl, .inl (.inl (se _ _ hD)), .inl (.inl upd_same), ?_⟩
              have e : xs.isEmpty = os.all (optB many hues) := by
                cases xs with
                | nil => exact (List.all_eq_true.mpr (xe.mp rfl)).symm
                | cons y r =>
                  cases er : os.all (optB many hues) with
                  | false => rfl
                  | true =>
                    have z := xe.mpr (List.all_eq_true.mp er)
                    cases z
              rw [e]
              exact q _ (s3.trans se)
          · rw [decide_eq_true (show hues ^ many.toNat > 256 by omega)]
            rw [decide_eq_false c3, Bool.and_false, Bool.false_and] at q
            exact iteT (q H (fun _ _ e => e))
        · rw [decide_eq_false c2] at q ⊢
          rw [Bool.and_false, Bool.false_and, Bool.false_and] at q
          exact iteT (iteT (q H (fun _ _ e => e)))
      · rw [decide_eq_false c1] at q ⊢
        rw [Bool.false_and, Bool.false_and, Bool.false_and] at q
        exact iteT (iteT (q H (fun _ _ e => e)))
    · rw [decide_eq_true (show ((ows.length : Nat) : Int) > 8 by omega)]
      rw [decide_eq_false e8, Bool.and_false, Bool.false_and] at q
      exact iteT (q H (fun _ _ e => e))
set_option maxHeartbeats 16000000 in
theorem ok_lfg {f : Addr} {fd : FuncData} {k : Nat} (F : Fun K "_law_figures" "_law_figures" sLfg f fd) (T : TxtU1 mg) : FnOk P w K mg base CX0 (k + 1) f fd ["word"] spLfg := by
  refine F.ok scLfg (fun vs H Q E h => ?_) (fun cdv A outer s H vs Q E hr h => ?_)
  · obtain ⟨t, rfl, _⟩ := h
    rfl
  · obtain ⟨t, rfl, tl7, q⟩ := h
    refine ⟨_, (pss_cons (ps_if (pt_cmpR (op_neE hr.units) (pe_lc (tt := tTest (tOp (fun x y H Q => ∃ (c : Nat) (z : Str), x = .str ⟨#[c]⟩ ∧ y = .str z ∧ Q (.bl (!decide (c ∈ z.cps.toList))) H) (tVar 1) (tC (.str figS)))) (te := tVar 1) (own := [("sign", 1)]) rfl scLfg.nd  (pi_str (pv 0)) (blkOk_by (own := [("sign", 1)]) (N := nLfg) (sc := defScope sLfg) (by decide +kernel))
   (fun _ _ _ _ _ => (pg_name (i := 1) scLfg.nd rfl (Or.inl rfl))) (fun _ _ _ _ _ => pts_one (pt_cmpR op_notIn_sign (pv 1) pe_str (by rfl))) (fun _ _ _ _ _ => (pv 1))) (pe_lst pa_nil) (nomark _))
  (pss_one (ps_ret (pe_tup pa_nil))) pss_nil)
  (pss_one (ps_ret (pe_callTy call_tuple_of (by rfl) T.m_tuple (by decide +kernel) (pa_cons (pe_lc (te := tCB (fun xs H Q => ∃ (a : Str) (n : Int), xs = [.str a] ∧ PySem.intText? a = some n ∧ a.length ≤ 640 ∧ Q (.int n) H) (tCons (tVar 1) tNil)) (own := [("sign", 1)]) rfl scLfg.nd  (pi_str (pv 0)) (blkOk_by (own := [("sign", 1)]) (N := nLfg) (sc := defScope sLfg) (by decide +kernel))
   (fun _ _ _ _ _ => (pg_name (i := 1) scLfg.nd rfl (Or.inl rfl))) (fun _ _ _ _ _ => pts_nil) (fun _ _ _ _ _ => (pe_callTy call_int_str (by rfl) T.m_int (by decide +kernel) (pa_cons (pv 1) pa_nil)))) pa_nil))))), ?_⟩
    have big : 10000 ≤ sizeLine := by decide
    have szt : t.cps.size = (TL.tl t).length := by simp
    have szl : t.cps.size = t.length := rfl
    have gt : ∀ {i c : Nat}, t.cps[i]? = some c → (TL.tl t)[i]? = some c := fun e => by rw [Array.getElem?_toList]; exact e
    refine ⟨.str t, rfl, t, rfl, fun D nD => ?_⟩
    refine lc_str (z := t) (fun i H3 => Same H H3 ∧ ∃ xs : List V, H3 D = some (.lst xs) ∧ xs.length ≤ i ∧ (xs = [] ↔ ∀ c ∈ (TL.tl t).take i, isDig c = true)) ⟨same_upd nD, [], upd_same, Nat.le_refl _, ⟨fun _ _ h => (nomatch h), fun _ => rfl⟩⟩ (fun i c H3 hc p => ?_) (fun H3 p => ?_)
    · obtain ⟨s3, xs, hD, xl, xe⟩ := p
      have ec := gt hc
      have il : i < (TL.tl t).length := (List.getElem?_eq_some_iff.mp ec).1
      refine ⟨rfl, .str ⟨#[c]⟩, rfl, c, figS, rfl, rfl, _, rfl, ?_⟩
      rw [dig_mem]
      cases ed : isDig c with
      | true =>
        refine iteF ⟨s3, xs, hD, by omega, ⟨fun e p hp => ?_, fun a => xe.mpr fun p hp => a p ?_⟩⟩
        · rw [take_snoc ec] at hp
          rcases List.mem_append.mp hp with h | h
          · exact xe.mp e p h
          · rw [List.mem_singleton.mp h]
            exact ed
        · rw [take_snoc ec]
          exact List.mem_append_left _ hp
      | false =>
        refine iteT ⟨.str ⟨#[c]⟩, rfl, xs, hD, Nat.lt_of_le_of_lt (show xs.length ≤ 10000 by omega) (by decide), same_put s3 nD, _, upd_same, by rw [List.length_append]; exact Nat.succ_le_succ xl, ⟨fun e => by simp at e, fun a => ?_⟩⟩
        have z := a c (by rw [take_snoc ec]; exact List.mem_append_right _ (List.mem_singleton.mpr rfl))
        rw [ed] at z
        cases z
    obtain ⟨s3, xs, hD, xl, xe⟩ := p
    rw [szt, List.take_length] at xe
    refine ⟨(by show 0 ≤ sizeLine; decide), fun e2 ne2 => ?_⟩
    have se := same_upd (o := .lst []) ne2
    refine ⟨D, e2, xs, rfl, rfl, .inl (.inl (se _ _ hD)), .inl (.inl upd_same), _, rfl, ?_⟩
    have s4 := s3.trans se
    generalize upd H3 e2 (.lst []) = H4 at s4
    by_cases zx : xs = []
    · have ad := xe.mp zx
      rw [zx]
      refine iteF ?_
      refine ⟨.str t, rfl, t, rfl, fun D2 nD2 => ?_⟩
      refine lc_str (z := t) (fun i H5 => Same H4 H5 ∧ H5 D2 = some (.lst (((TL.tl t).take i).map fun c : Nat => V.int ((c : Int) - 48)))) ⟨same_upd nD2, upd_same⟩ (fun i c H5 hc p => ?_) (fun H5 p => ?_)
      · obtain ⟨s5, hD2⟩ := p
        have ec := gt hc
        have il : i < (TL.tl t).length := (List.getElem?_eq_some_iff.mp ec).1
        have dc := of_decide_eq_true (ad c (List.mem_of_getElem? ec))
        refine ⟨rfl, yes_if ⟨.str ⟨#[c]⟩, rfl, _, _, rfl, int_dig dc, (by show 1 ≤ 640; decide), _, hD2, ?_, same_put s5 nD2, ?_⟩⟩
        · rw [List.length_map, List.length_take]
          exact Nat.lt_of_le_of_lt (show _ ≤ 10000 by omega) (by decide)
        · rw [upd_same, take_snoc ec, List.map_append]
          rfl
      · obtain ⟨s5, hD2⟩ := p
        rw [szt, List.take_length] at hD2
        refine ⟨D2, _, rfl, .inl ⟨.inl (.inl hD2), fun p np => ?_⟩⟩
        have s6 := same_upd (o := .tup ((TL.tl t).map fun c : Nat => V.int ((c : Int) - 48))) np
        have n0 : H p = none := (s4.trans s5).free np
        refine q _ p ((s4.trans s5).trans s6) n0 ?_
        rw [upd_same]
        unfold figL
        rw [if_pos (List.all_eq_true.mpr ad), List.map_map]
        rfl
    · have e9 : (!xs.isEmpty) = true := by
        cases xs with
        | nil => exact absurd rfl zx
        | cons _ _ => rfl
      rw [e9]
      refine iteT ⟨(by show 0 ≤ sizeLine; decide), fun p np => ?_⟩
      have s6 := same_upd (o := .tup []) np
      refine q _ p (s4.trans s6) (s4.free np) ?_
      rw [upd_same]
      unfold figL
      rw [if_neg (fun a => zx (xe.mpr (List.all_eq_true.mp a)))]
      rfl
end
end Rd

set_option Elab.async false
set_option linter.all false
set_option maxRecDepth 100000
set_option maxHeartbeats 4000000
namespace Rd
open PySem PySem.Spec PyProof.Rows L2 Dt TL
section
variable {P : Program} {w : World} {K : PySem.W.Frag} {mg : Str → Option Value} {base : Heap}
theorem rows_put {H : Hp} {D : Addr} {ys zs : List V} {rs : List Addr} {rows : List Dt.Row} (hD : H D = some (.lst ys)) (p : Paired (IsRow H) rs rows) : Paired (IsRow (upd H D (.lst zs))) rs rows := pairedMap (fun r row e => by
  have n : r ≠ D := fun z => by
    unfold IsRow at e
    rw [z, hD] at e
    cases e
  show upd H D _ r = _
  rw [upd_ne n]
  exact e) p
theorem iteNT {c A B : Prop} [Decidable c] (h : ¬ c) (a : A) : if (!decide c) = true then A else B := by
  rw [decide_eq_false h]
  exact a
set_option maxHeartbeats 16000000 in
theorem ok_lwr {f : Addr} {fd : FuncData} {k : Nat} (F : Fun K "_law_wish_read" "_law_wish_read" sLwr f fd) (T : TxtV1 P w K mg base) : FnOk P w K mg base CX0 (k + 2) f fd ["row"] spLwr := by
  refine F.ok scLwr (fun vs H Q E h => ?_) (fun cdv A outer s H vs Q E hr h => ?_)
  · obtain ⟨t, rfl, _⟩ := h
    rfl
  · obtain ⟨t, rfl, tl6, q⟩ := h
    refine ⟨_, (pss_cons (ps_set (i := 1) scLwr.nd rfl (Or.inl rfl) (pe_split (pv 0) pe_str))
  (pss_cons (ps_if (PW.pt (pw_or (pt_cmpR op_ne (pe_slice sl_str (pv 0) po_none (po_some pe_int)) pe_str (nomark _)) (pw_or1 (pt_cmpR op_ne (pe_callB call_len_seq (by rfl) T.m_len (by decide +kernel) (pa_cons (pv 1) pa_nil)) pe_int (nomark _)))))
  (pss_one (ps_ret pe_non)) pss_nil)
  (pss_cons (ps_setLc (i := 2) (te := tCall spLfg [] E0 (tCons (tVar 3) tNil)) (own := [("word", 3)]) rfl scLwr.nd rfl rfl (sw_true rfl rfl rfl (by decide +kernel)) (pi_list (pe_split (pe_slice sl_str (pe_ix ix_list (pv 1) pe_int (fun _ _ => rfl)) (po_some pe_int) po_none) pe_str)) (blkOk_by (own := [("word", 3)]) (N := nLwr) (sc := defScope sLwr) (by decide +kernel))
   (fun _ _ _ _ _ => (pg_name (i := 3) scLwr.nd rfl (Or.inl rfl))) (fun _ _ _ _ _ => pts_nil) (fun _ _ _ _ _ => (pe_cal T.c__law_figures (hr.mono (by omega)) (by rfl) (pa_cons (pv 3) pa_nil))))
  (pss_cons (ps_if (pt_cmpR (op_neE hr.units) (pe_lc (tt := tTest (tOp rNe (tCB (rLen K) (tCons (tVar 4) tNil)) (tC (.int 1)))) (te := tVar 4) (own := [("one", 4)]) rfl scLwr.nd  (pi_list (pv 2)) (blkOk_by (own := [("one", 4)]) (N := nLwr) (sc := defScope sLwr) (by decide +kernel))
   (fun _ _ _ _ _ => (pg_name (i := 4) scLwr.nd rfl (Or.inl rfl))) (fun _ _ _ _ _ => pts_one (pt_cmpR op_ne (pe_callB call_len_seq (by rfl) T.m_len (by decide +kernel) (pa_cons (pv 4) pa_nil)) pe_int (nomark _))) (fun _ _ _ _ _ => (pv 4))) (pe_lst pa_nil) (nomark _))
  (pss_one (ps_ret pe_non)) pss_nil)
  (pss_one (ps_ret (pe_tup (pa_cons (pe_callTy call_tuple_of (by rfl) T.m_tuple (by decide +kernel) (pa_cons (pe_lc (te := tOp (rIxT K) (tVar 4) (tC (.int 0))) (own := [("one", 4)]) rfl scLwr.nd  (pi_list (pv 2)) (blkOk_by (own := [("one", 4)]) (N := nLwr) (sc := defScope sLwr) (by decide +kernel))
   (fun _ _ _ _ _ => (pg_name (i := 4) scLwr.nd rfl (Or.inl rfl))) (fun _ _ _ _ _ => pts_nil) (fun _ _ _ _ _ => (pe_ix ix_tup (pv 4) pe_int (fun _ _ => rfl)))) pa_nil)) (pa_cons (pe_callTy call_tuple_of (by rfl) T.m_tuple (by decide +kernel) (pa_cons (pe_lc (te := tCall spLfg [] E0 (tCons (tVar 3) tNil)) (own := [("word", 3)]) rfl scLwr.nd  (pi_list (pe_split (pe_ix ix_list (pv 1) pe_int (fun _ _ => rfl)) pe_str)) (blkOk_by (own := [("word", 3)]) (N := nLwr) (sc := defScope sLwr) (by decide +kernel))
   (fun _ _ _ _ _ => (pg_name (i := 3) scLwr.nd rfl (Or.inl rfl))) (fun _ _ _ _ _ => pts_nil) (fun _ _ _ _ _ => (pe_cal T.c__law_figures (hr.mono (by omega)) (by rfl) (pa_cons (pv 3) pa_nil)))) pa_nil)) pa_nil))))))))), ?_⟩
    have big : 10000 ≤ sizeLine := by decide
    have sp1 : (Str.ofString " ").length = 1 := by decide +kernel
    have cp2 : (Str.ofString ": ").length = 2 := by decide +kernel
    have w0 := msr_split t (Str.ofString ": ") (by omega)
    refine ⟨.str t, rfl, ⟨t, rfl⟩, t, _, rfl, rfl, (by decide +kernel), by omega, fun l0 n0 => ?_⟩
    have s0 := same_upd (o := .lst ((Txt.split t (Str.ofString ": ")).map V.str)) n0
    have h0 : upd H l0 (.lst ((Txt.split t (Str.ofString ": ")).map V.str)) l0 = some (.lst ((partsW t).map V.str)) := upd_same
    generalize upd H l0 (.lst ((Txt.split t (Str.ofString ": ")).map V.str)) = H0 at s0 h0
    have w0 : msr (partsW t) ≤ t.length + 1 := w0
    have lP : (partsW t).length ≤ 6001 := by
      unfold msr at w0
      omega
    refine ⟨.str t, rfl, 5, rfl, t, rfl, by omega, rfl, _, rfl, ?_⟩
    by_cases c1 : cutS t none (some 5) = Str.ofString "wish "
    · refine iteNS (congrArg V.str c1) ?_
      refine ⟨.ref l0, rfl, l0, _, rfl, .inl (.inl (.inl h0)), rfl, _, rfl, ?_⟩
      rw [List.length_map]
      by_cases c2 : (partsW t).length = 2
      · rw [c2]
        refine iteNS rfl ?_
        obtain ⟨p0, p1, ep⟩ : ∃ p0 p1, partsW t = [p0, p1] := by
          cases hp : partsW t with
          | nil => rw [hp] at c2; exact absurd c2 (by decide)
          | cons a r =>
            cases r with
            | nil => rw [hp] at c2; simp at c2
            | cons b q =>
              cases q with
              | nil => exact ⟨a, b, rfl⟩
              | cons _ _ => rw [hp] at c2; simp at c2
        have lp0 : p0.length ≤ 6000 := by
          have := msr_mem (a := partsW t) (x := p0) (by rw [ep]; exact List.mem_cons_self)
          omega
        have lp1 : p1.length ≤ 6000 := by
          have := msr_mem (a := partsW t) (x := p1) (by rw [ep]; exact List.mem_cons_of_mem _ List.mem_cons_self)
          omega
        rw [ep] at h0
        have lc0 := cutS_length p0 (some 5) none
        have w1 := msr_split (cutS p0 (some 5) none) (Str.ofString " ") (by omega)
        have w2 := msr_split p1 (Str.ofString " ") (by omega)
        have epl : plW t = (Txt.split (cutS p0 (some 5) none) (Str.ofString " ")).map figL := by
          unfold plW
          rw [ep]
          rfl
        have ewr : wishR t = if (plW t).any (fun l => decide (l.length ≠ 1)) then none else some ((plW t).map (fun l => l.getD 0 0), (Txt.split p1 (Str.ofString " ")).map figL) := by
          unfold wishR
          rw [if_neg (fun z => z.elim (fun z => z c1) (fun z => z c2)), ep]
          rfl
        refine ⟨.ref l0, rfl, l0, _, 0, .str p0, rfl, rfl, .inl (.inl h0), atI_nat (j := 0) rfl, 5, rfl, p0, rfl, by omega, ⟨_, rfl⟩, _, _, rfl, rfl, (by decide +kernel), by omega, fun l1 n1 => ?_⟩
        have s1 := same_upd (o := .lst ((Txt.split (cutS p0 (some 5) none) (Str.ofString " ")).map V.str)) n1
        have h1 : upd H0 l1 (.lst ((Txt.split (cutS p0 (some 5) none) (Str.ofString " ")).map V.str)) l1 = some (.lst ((Txt.split (cutS p0 (some 5) none) (Str.ofString " ")).map V.str)) := upd_same
        have h01 := s1 _ _ h0
        have S1 := s0.trans s1
        generalize upd H0 l1 (.lst ((Txt.split (cutS p0 (some 5) none) (Str.ofString " ")).map V.str)) = H1 at s1 h1 h01 S1
        generalize Txt.split (cutS p0 (some 5) none) (Str.ofString " ") = A1 at h1 w1 epl
        have lA1 : A1.length ≤ 6001 := by
          unfold msr at w1
          omega
        refine ⟨l1, rfl, ⟨_, .inl (.inl h1)⟩, fun D nD => ?_⟩
        refine lc_list (K := K) (a := l1) (xs := A1.map V.str) (fun i H3 => Same H1 H3 ∧ ∃ rs : List Addr, H3 D = some (.lst (rs.map V.ref)) ∧ Paired (IsRow H3) rs ((A1.take i).map figL)) ⟨same_upd nD, [], upd_same, .nil⟩ (fun i H3 _ p => .inl (.inl (p.1 _ _ h1))) (fun i x H3 hx p => ?_) (fun H3 p => ?_)
        · obtain ⟨x0, ex, rfl⟩ := map_get hx
          obtain ⟨s3, rs, hD, pr⟩ := p
          have lx := msr_mem (List.mem_of_getElem? ex)
          refine ⟨rfl, yes_if ⟨.str x0, rfl, x0, rfl, by omega, fun H4 pp s4 np hp => ⟨rs.map V.ref, s4 _ _ hD, ?_, same_put (s3.trans s4) nD, rs ++ [pp], ?_, ?_⟩⟩⟩
          · have z := pairedLen pr
            rw [List.length_map, List.length_take] at z
            rw [List.length_map]
            exact Nat.lt_of_le_of_lt (show rs.length ≤ 10000 by omega) (by decide)
          · rw [upd_same, List.map_append]
            rfl
          · rw [take_snoc ex, List.map_append]
            exact rows_put (s4 _ _ hD) (pairedSnoc (pairedMap (fun _ _ e => s4 _ _ e) pr) hp)
        obtain ⟨s3, rs, hD, pr⟩ := p
        rw [List.length_map, List.take_length, ← epl] at pr
        have lrs := pairedLen pr
        have lpl : (plW t).length ≤ 6001 := by rw [epl, List.length_map]; exact lA1
        have S3 := S1.trans s3
        have h03 := s3 _ _ h01
        refine ⟨.ref D, rfl, D, rfl, ⟨_, .inl (.inl hD)⟩, fun D2 nD2 => ?_⟩
        refine lc_list (K := K) (a := D) (xs := rs.map V.ref) (fun i H5 => Same H3 H5 ∧ ∃ xs : List V, H5 D2 = some (.lst xs) ∧ xs.length ≤ i ∧ (xs = [] ↔ ∀ l ∈ (plW t).take i, l.length = 1)) ⟨same_upd nD2, [], upd_same, Nat.le_refl _, ⟨fun _ _ h => (nomatch h), fun _ => rfl⟩⟩ (fun i H5 _ p => .inl (.inl (p.1 _ _ hD))) (fun i x H5 hx p => ?_) (fun H5 p => ?_)
        · obtain ⟨r, er, rfl⟩ := map_get hx
          obtain ⟨s5, xs, hD2, xl, xe⟩ := p
          obtain ⟨l, el, hl⟩ := pairedGetL pr er
          have il : i < (plW t).length := (List.getElem?_eq_some_iff.mp el).1
          refine ⟨rfl, .ref r, rfl, r, _, rfl, .inr (.inl (.inl (s5 _ _ hl))), rfl, _, rfl, ?_⟩
          rw [List.length_map]
          by_cases e1 : l.length = 1
          · rw [e1]
            refine iteNS rfl ⟨s5, xs, hD2, by omega, ⟨fun e p hp => ?_, fun a => xe.mpr fun p hp => a p ?_⟩⟩
            · rw [take_snoc el] at hp
              rcases List.mem_append.mp hp with h | h
              · exact xe.mp e p h
              · rw [List.mem_singleton.mp h]
                exact e1
            · rw [take_snoc el]
              exact List.mem_append_left _ hp
          · refine iteNT (fun z => e1 (by have z := V.int.inj z; omega)) ⟨.ref r, rfl, xs, hD2, Nat.lt_of_le_of_lt (show xs.length ≤ 10000 by omega) (by decide), same_put s5 nD2, _, upd_same, by rw [List.length_append]; exact Nat.succ_le_succ xl, ⟨fun e => by simp at e, fun a => ?_⟩⟩
            exact absurd (a l (by rw [take_snoc el]; exact List.mem_append_right _ (List.mem_singleton.mpr rfl))) e1
        obtain ⟨s5, xs, hD2, xl, xe⟩ := p
        rw [List.length_map, lrs, List.take_length] at xe
        refine ⟨(by show 0 ≤ sizeLine; decide), fun e2 ne2 => ?_⟩
        have se := same_upd (o := .lst []) ne2
        refine ⟨D2, e2, xs, rfl, rfl, .inl (.inl (se _ _ hD2)), .inl (.inl upd_same), _, rfl, ?_⟩
        have s6 := s5.trans se
        have S6 := S3.trans s6
        have hD6 := s6 _ _ hD
        have h06 := s6 _ _ h03
        have pr6 : Paired (IsRow (upd H5 e2 (.lst []))) rs (plW t) := pairedMap (fun _ _ e => s6 _ _ e) pr
        generalize upd H5 e2 (.lst []) = H6 at s6 S6 hD6 h06 pr6
        by_cases zx : xs = []
        · have all1 := xe.mp zx
          rw [zx]
          refine iteF ?_
          rw [if_neg (fun z => by
            obtain ⟨l, hl, y⟩ := List.any_eq_true.mp z
            exact of_decide_eq_true y (all1 l hl))] at ewr
          rw [ewr] at q
          refine ⟨.ref D, rfl, D, rfl, ⟨_, .inl (.inl hD6)⟩, fun D3 nD3 => ?_⟩
          refine lc_list (K := K) (a := D) (xs := rs.map V.ref) (fun i H7 => Same H6 H7 ∧ H7 D3 = some (.lst (((plW t).take i).map fun l => V.int (l.getD 0 0)))) ⟨same_upd nD3, upd_same⟩ (fun i H7 _ p => .inl (.inl (p.1 _ _ hD6))) (fun i x H7 hx p => ?_) (fun H7 p => ?_)
          · obtain ⟨r, er, rfl⟩ := map_get hx
            obtain ⟨s7, hD3⟩ := p
            obtain ⟨l, el, hl⟩ := pairedGetL pr6 er
            have il : i < (plW t).length := (List.getElem?_eq_some_iff.mp el).1
            have l1 := all1 l (List.mem_of_getElem? el)
            obtain ⟨y, rfl⟩ : ∃ y, l = [y] := by
              match l, l1 with
              | [y], _ => exact ⟨y, rfl⟩
            refine ⟨rfl, yes_if ⟨.ref r, rfl, r, _, 0, .int y, rfl, rfl, .inl (.inl (s7 _ _ hl)), atI_nat (j := 0) rfl, _, hD3, ?_, same_put s7 nD3, ?_⟩⟩
            · rw [List.length_map, List.length_take]
              exact Nat.lt_of_le_of_lt (show _ ≤ 10000 by omega) (by decide)
            · rw [upd_same, take_snoc el, List.map_append]
              rfl
          obtain ⟨s7, hD3⟩ := p
          rw [List.length_map, lrs, List.take_length] at hD3
          refine ⟨D3, _, rfl, .inl ⟨.inl (.inl hD3), fun pa npa => ?_⟩⟩
          have s8 := same_upd (o := .tup ((plW t).map fun l => V.int (l.getD 0 0))) npa
          have hpa : upd H7 pa (.tup ((plW t).map fun l => V.int (l.getD 0 0))) pa = some (.tup (((plW t).map fun l => l.getD 0 0).map V.int)) := by
            rw [upd_same, List.map_map]
            rfl
          have S8 := S6.trans (s7.trans s8)
          have h08 := (s7.trans s8) _ _ h06
          generalize upd H7 pa (.tup ((plW t).map fun l => V.int (l.getD 0 0))) = H8 at s8 hpa S8 h08
          refine ⟨.ref l0, rfl, l0, _, 1, .str p1, rfl, rfl, .inl (.inl h08), atI_nat (j := 1) rfl, ⟨_, rfl⟩, _, _, rfl, rfl, (by decide +kernel), by omega, fun l4 n4 => ?_⟩
          have s9 := same_upd (o := .lst ((Txt.split p1 (Str.ofString " ")).map V.str)) n4
          have h4 : upd H8 l4 (.lst ((Txt.split p1 (Str.ofString " ")).map V.str)) l4 = some (.lst ((Txt.split p1 (Str.ofString " ")).map V.str)) := upd_same
          have S9 := S8.trans s9
          have hpa9 := s9 _ _ hpa
          generalize upd H8 l4 (.lst ((Txt.split p1 (Str.ofString " ")).map V.str)) = H9 at s9 h4 S9 hpa9
          generalize Txt.split p1 (Str.ofString " ") = A2 at h4 w2 q
          have lA2 : A2.length ≤ 6001 := by
            unfold msr at w2
            omega
          refine ⟨l4, rfl, ⟨_, .inl (.inl h4)⟩, fun D4 nD4 => ?_⟩
          refine lc_list (K := K) (a := l4) (xs := A2.map V.str) (fun i H3 => Same H9 H3 ∧ ∃ rs : List Addr, H3 D4 = some (.lst (rs.map V.ref)) ∧ Paired (IsRow H3) rs ((A2.take i).map figL)) ⟨same_upd nD4, [], upd_same, .nil⟩ (fun i H3 _ p => .inl (.inl (p.1 _ _ h4))) (fun i x H3 hx p => ?_) (fun H10 p => ?_)
          · obtain ⟨x0, ex, rfl⟩ := map_get hx
            obtain ⟨s3, rs, hD, pr⟩ := p
            have lx := msr_mem (List.mem_of_getElem? ex)
            refine ⟨rfl, yes_if ⟨.str x0, rfl, x0, rfl, by omega, fun H4 pp s4 np hp => ⟨rs.map V.ref, s4 _ _ hD, ?_, same_put (s3.trans s4) nD4, rs ++ [pp], ?_, ?_⟩⟩⟩
            · have z := pairedLen pr
              rw [List.length_map, List.length_take] at z
              rw [List.length_map]
              exact Nat.lt_of_le_of_lt (show rs.length ≤ 10000 by omega) (by decide)
            · rw [upd_same, List.map_append]
              rfl
            · rw [take_snoc ex, List.map_append]
              exact rows_put (s4 _ _ hD) (pairedSnoc (pairedMap (fun _ _ e => s4 _ _ e) pr) hp)
          obtain ⟨s10, rs2, hD4, pr4⟩ := p
          rw [List.length_map, List.take_length] at pr4
          refine ⟨D4, _, rfl, .inl ⟨.inl (.inl hD4), fun ra nra => ?_⟩⟩
          have s11 := same_upd (o := .tup (rs2.map V.ref)) nra
          refine ⟨(by show 2 ≤ sizeLine; decide), fun wa nwa => ?_⟩
          have s12 := same_upd (o := .tup [.ref pa, .ref ra]) nwa
          have s1112 := s11.trans s12
          refine q _ _ ((S9.trans s10).trans s1112) (.inr ⟨wa, _, rfl, rfl, ⟨pa, ra, rs2, upd_same, s1112 _ _ (s10 _ _ hpa9), s12 _ _ upd_same, pairedMap (fun _ _ e => s1112 _ _ e) pr4⟩, ?_, ?_⟩)
          · rw [List.length_map]
            omega
          · rw [List.length_map]
            omega
        · have e9 : (!xs.isEmpty) = true := by
            cases xs with
            | nil => exact absurd rfl zx
            | cons _ _ => rfl
          rw [e9]
          have ny : (plW t).any (fun l => decide (l.length ≠ 1)) = true := by
            refine Decidable.byContradiction fun z => zx (xe.mpr fun l hl => ?_)
            exact Decidable.byContradiction fun y => z (List.any_eq_true.mpr ⟨l, hl, decide_eq_true y⟩)
          rw [if_pos ny] at ewr
          rw [ewr] at q
          exact iteT (q _ _ S6 (.inl ⟨rfl, rfl⟩))
      · have e : wishR t = none := by
          unfold wishR
          rw [if_pos (.inr c2)]
        rw [e] at q
        exact iteNT (fun z => c2 (by have z := V.int.inj z; omega)) (q _ _ s0 (.inl ⟨rfl, rfl⟩))
    · have e : wishR t = none := by
        unfold wishR
        rw [if_pos (.inl c1)]
      rw [e] at q
      exact iteNT (fun z => c1 (V.str.inj z)) (iteT (q _ _ s0 (.inl ⟨rfl, rfl⟩)))
end
end Rd

set_option Elab.async false
set_option linter.all false
set_option maxRecDepth 100000
set_option maxHeartbeats 4000000
namespace Rd
open PySem PySem.Spec PyProof.Rows L2 Dt TL
def rowsS (t : Str) : List Str := Txt.split t (Str.ofString "\n")
def wordsS (t : Str) : List Str := Txt.split ((rowsS t).getD 0 Str.empty) (Str.ofString " ")
def readS (t : Str) : Option (Int × Int × List (Option WD)) :=
  if (wordsS t).length = 4 ∧ ((wordsS t).getD 0 Str.empty = Str.ofString "places" ∧ (wordsS t).getD 2 Str.empty = Str.ofString "hues") ∧ (figL ((wordsS t).getD 1 Str.empty)).length = 1 ∧ (figL ((wordsS t).getD 3 Str.empty)).length = 1 then
    some ((figL ((wordsS t).getD 1 Str.empty)).getD 0 0, (figL ((wordsS t).getD 3 Str.empty)).getD 0 0, ((rowsS t).drop 1).map wishR)
  else none
theorem one_of {l : List Int} (h : l.length = 1) : l = [l.getD 0 0] := by
  match l, h with
  | [x], _ => rfl
theorem four_of {l : List Str} (h : l.length = 4) : l = [l.getD 0 Str.empty, l.getD 1 Str.empty, l.getD 2 Str.empty, l.getD 3 Str.empty] := by
  match l, h with
  | [a, b, c, d], _ => rfl
theorem lir_some (many hues : Int) (wds : List WD) : lirB many hues (wds.map some) = irdB many hues wds := by
  unfold lirB irdB
  rw [List.length_map, List.all_map]
  rfl
theorem opt_some {many hues : Int} : ∀ {os : List (Option WD)}, os.all (optB many hues) = true → ∃ wds : List WD, os = wds.map some
  | [], _ => ⟨[], rfl⟩
  | o :: q, h => by
    rw [List.all_cons, Bool.and_eq_true] at h
    obtain ⟨wds, e⟩ := opt_some h.2
    cases o with
    | none => exact absurd h.1 (fun z => by cases z)
    | some wd => exact ⟨wd :: wds, by rw [e]; rfl⟩
/-- what is read is the text of what it is read as -/
theorem readS_text {t : Str} {many hues : Int} {os : List (Option WD)} (h : readS t = some (many, hues, os)) (b : lirB many hues os = true) : ∃ wds, os = wds.map some ∧ irdB many hues wds = true ∧ ridT many hues wds = t := by
  have b2 := b
  unfold lirB at b2
  rw [Bool.and_eq_true] at b2
  obtain ⟨wds, rfl⟩ := opt_some b2.2
  rw [lir_some] at b
  refine ⟨wds, rfl, b, ?_⟩
  have g := (ird_good b).1
  unfold readS at h
  split at h
  case isFalse => cases h
  rename_i c
  obtain ⟨c4, ⟨c0, c2⟩, c1, c3⟩ := c
  have e := Option.some.inj h
  have ea : (figL ((wordsS t).getD 1 Str.empty)).getD 0 0 = many := congrArg (·.1) e
  have eb : (figL ((wordsS t).getD 3 Str.empty)).getD 0 0 = hues := congrArg (·.2.1) e
  have eo : ((rowsS t).drop 1).map wishR = wds.map some := congrArg (·.2.2) e
  have f1 := one_of c1
  have f3 := one_of c3
  rw [ea] at f1
  rw [eb] at f3
  have w1 := (fig_one f1).2.2
  have w3 := (fig_one f3).2.2
  have ew := four_of c4
  rw [c0, c2, w1, w3] at ew
  have eh : (rowsS t).getD 0 Str.empty = headT many hues := by
    rw [head_words, ← ew]
    exact (join_sp2 _ _).symm
  have er : (rowsS t).drop 1 = wds.map wishT := by
    have : ∀ (rs : List Str) (ws : List WD), rs.map wishR = ws.map some → (∀ wd ∈ ws, Good many hues wd) → rs = ws.map wishT := fun rs => by
      induction rs with
      | nil =>
        intro ws h _
        cases ws with
        | nil => rfl
        | cons _ _ => cases h
      | cons r q ih =>
        intro ws h hg
        cases ws with
        | nil => cases h
        | cons wd ws =>
          rw [List.map_cons, List.map_cons] at h
          injection h with h1 h2
          rw [List.map_cons, wishR_text h1 (hg wd List.mem_cons_self), ← ih ws h2 fun x hx => hg x (List.mem_cons_of_mem _ hx)]
    exact this _ _ eo g.each
  have ps1 := split_pos t (Str.ofString "\n")
  have es : rowsS t = headT many hues :: wds.map wishT := by
    have z : rowsS t = (rowsS t).getD 0 Str.empty :: (rowsS t).drop 1 := by
      have : 0 < (rowsS t).length := ps1
      cases hh : rowsS t with
      | nil => rw [hh] at this; exact absurd this (by decide)
      | cons a r => rfl
    rw [z, eh, er]
  have jn := join_sp2 t (Str.ofString "\n")
  have jn : Txt.join (Str.ofString "\n") (rowsS t) = t := jn
  rw [es] at jn
  exact jn
/-- the text of a riddle is read as it -/
theorem readS_of {many hues : Int} {wds : List WD} (b : irdB many hues wds = true) : readS (ridT many hues wds) = some (many, hues, wds.map some) := by
  have g := (ird_good b).1
  have m1 := g.m1
  have m6 := g.m6
  have h2 := g.h2
  have h4 := g.h4
  have hw : ∀ p ∈ [Str.ofString "places", numT many, Str.ofString "hues", numT hues], ∀ c, c = 32 ∨ c = 10 → c ∉ tl p := fun p hp c hc => by
    simp only [List.mem_cons, List.not_mem_nil, or_false] at hp
    rcases hp with rfl | rfl | rfl | rfl
    · rcases hc with rfl | rfl <;> decide +kernel
    · exact num_no (by omega) (by omega) (by omega)
    · rcases hc with rfl | rfl <;> decide +kernel
    · exact num_no (by omega) (by omega) (by omega)
  have e1 : rowsS (ridT many hues wds) = headT many hues :: wds.map wishT := by
    unfold ridT rowsS
    refine split_join (s := 10) (S := []) (by decide +kernel) (by decide +kernel) (by simp) fun p hp => ?_
    rw [List.singleton_append] at hp
    rcases List.mem_cons.mp hp with rfl | hp
    · rw [head_words, tl_joinT, tl_sp]
      intro z
      rcases join_mem z with z | ⟨p, hp1, z⟩
      · exact absurd z (by decide)
      · obtain ⟨q, hq, rfl⟩ := List.mem_map.mp hp1
        exact hw q hq 10 (.inr rfl) z
    · obtain ⟨wd, h, rfl⟩ := List.mem_map.mp hp
      exact wish_no m6 h4 (g.each wd h)
  have e2 : wordsS (ridT many hues wds) = [Str.ofString "places", numT many, Str.ofString "hues", numT hues] := by
    unfold wordsS
    rw [e1]
    show Txt.split (headT many hues) (Str.ofString " ") = _
    rw [head_words]
    exact sp_split (by simp) fun p hp => hw p hp 32 (.inl rfl)
  have f1 := fig_num' (i := many) (by omega) (by omega)
  have f3 := fig_num' (i := hues) (by omega) (by omega)
  unfold readS
  rw [e2, e1]
  have n1 : [Str.ofString "places", numT many, Str.ofString "hues", numT hues].getD 1 Str.empty = numT many := rfl
  have n3 : [Str.ofString "places", numT many, Str.ofString "hues", numT hues].getD 3 Str.empty = numT hues := rfl
  rw [n1, n3, f1, f3, if_pos ⟨rfl, ⟨rfl, rfl⟩, rfl, rfl⟩]
  show some (many, hues, (wds.map wishT).map wishR) = _
  rw [List.map_map]
  congr 3
  exact List.map_congr_left fun wd h => wishR_of m6 h4 (g.each wd h)
abbrev sLrd : Stmt := topS 49
abbrev nLrd : List Str := ["text", "rows", "words", "sizes", "riddle", "word", "one", "row"]
theorem scLrd : FnScope nLrd ["text"] (defScope sLrd) := ⟨rfl, rfl, rfl, by decide +kernel, rfl, by decide +kernel, by decide +kernel⟩
def spLrd : Sp := fun vs H Q _ => ∃ t : Str, vs = [.str t] ∧ t.length ≤ 6000 ∧ okS t ∧ (∀ H' ri many hues wds, Same H H' → IsRid H' ri many hues wds → irdB many hues wds = true → ridT many hues wds = t → Q (.ref ri) H') ∧
  ∀ H', Same H H' → (∀ many hues wds, irdB many hues wds = true → ridT many hues wds ≠ t) → Q .non H'
structure TxtW1 (P : Program) (w : World) (K : PySem.W.Frag) (mg : Str → Option Value) (base : Heap) : Prop extends TxtV1 P w K mg base where
  c__law_wish_read : Cal P w K mg base 2 "_law_wish_read" ["row"] spLwr
  c__law_is_riddle : Cal P w K mg base 3 "_law_is_riddle" ["thing"] spLir
theorem no_read {t : Str} (h : readS t = none) : ∀ many hues wds, irdB many hues wds = true → ridT many hues wds ≠ t := fun many hues wds b e => by
  have z := readS_of b
  rw [e, h] at z
  cases z
theorem shp2 {a c : Str} (ha : okS a) (hc : okS c) : SeqAt.shaped (.list [.str a, .str c]) = true := by
  simp [SeqAt.shaped, PyData.canLay0, PyData.canLayAll0, PyData.depth, PyData.depthAll, okS_ok ha, okS_ok hc]
theorem eqv2 (a c b d : Str) : PyData.eqv (.list [.str a, .str c]) (.list [.str b, .str d]) = decide (a = b ∧ c = d) := by
  have e : PyData.eqv (.list [.str a, .str c]) (.list [.str b, .str d]) = (a == b && c == d) := by simp [PyData.eqv, PyData.eqvAll]
  rw [e, Bool.decide_and]
  have f : ∀ x y : Str, (x == y) = decide (x = y) := fun x y => by
    by_cases h : x = y
    · rw [h, decide_eq_true rfl, beq_self_eq_true]
    · rw [decide_eq_false h]
      exact beq_eq_false_iff_ne.mpr h
  rw [f, f]
theorem optW_tups {H H' : Hp} {v : V} {o : Option WD} (h : OptW H v o) (s : Tups H H') : OptW H' v o := h.imp id fun ⟨wa, wd, h1, h2, h3, h4⟩ => ⟨wa, wd, h1, h2, h3.mono s, h4⟩
theorem isRid_some {H : Hp} {ows : List V} : ∀ {wds : List WD}, Paired (OptW H) ows (wds.map some) → ∃ was : List Addr, ows = was.map V.ref ∧ Paired (IsWish H) was wds := fun {wds} => by
  induction wds generalizing ows with
  | nil =>
    intro p
    cases p
    exact ⟨[], rfl, .nil⟩
  | cons wd q ih =>
    intro p
    cases p with
    | cons h r =>
      obtain ⟨was, e, pw⟩ := ih r
      rcases h with ⟨z, _⟩ | ⟨wa, wd', e1, e2, isw, _⟩
      · cases z
      · cases Option.some.inj e1
        exact ⟨wa :: was, by rw [e, e2]; rfl, .cons isw pw⟩
section
variable {P : Program} {w : World} {K : PySem.W.Frag} {mg : Str → Option Value} {base : Heap}
set_option maxHeartbeats 16000000 in
theorem ok_lrd {f : Addr} {fd : FuncData} {k : Nat} (F : Fun K "_law_read" "_law_read" sLrd f fd) (T : TxtW1 P w K mg base) : FnOk P w K mg base CX0 (k + 4) f fd ["text"] spLrd := by
  refine F.ok scLrd (fun vs H Q E h => ?_) (fun cdv A outer s H vs Q E hr h => ?_)
  · obtain ⟨t, rfl, _⟩ := h
    rfl
  · obtain ⟨t, rfl, tl6, tk, q, qn⟩ := h
    refine ⟨_, (pss_cons (ps_set (i := 1) scLrd.nd rfl (Or.inl rfl) (pe_split (pv 0) pe_str))
  (pss_cons (ps_set (i := 2) scLrd.nd rfl (Or.inl rfl) (pe_split (pe_ix ix_list (pv 1) pe_int (fun _ _ => rfl)) pe_str))
  (pss_cons (ps_if (PW.pt (pw_or (pt_cmpR op_ne (pe_callB call_len_seq (by rfl) T.m_len (by decide +kernel) (pa_cons (pv 2) pa_nil)) pe_int (nomark _)) (pw_or1 (pt_cmpR (op_neD hr.units) (pe_sl3 (by decide) (pv 2) po_none po_none) (pe_lst (pa_cons pe_str (pa_cons pe_str pa_nil))) (nomark _)))))
  (pss_one (ps_ret pe_non)) pss_nil)
  (pss_cons (ps_setLc (i := 3) (te := tCall spLfg [] E0 (tCons (tVar 5) tNil)) (own := [("word", 5)]) rfl scLrd.nd rfl rfl (sw_true rfl rfl rfl (by decide +kernel)) (pi_list (pe_sl3 (by decide) (pv 2) (po_some pe_int) po_none)) (blkOk_by (own := [("word", 5)]) (N := nLrd) (sc := defScope sLrd) (by decide +kernel))
   (fun _ _ _ _ _ => (pg_name (i := 5) scLrd.nd rfl (Or.inl rfl))) (fun _ _ _ _ _ => pts_nil) (fun _ _ _ _ _ => (pe_cal T.c__law_figures (hr.mono (by omega)) (by rfl) (pa_cons (pv 5) pa_nil))))
  (pss_cons (ps_if (pt_cmpR (op_neE hr.units) (pe_lc (tt := tTest (tOp rNe (tCB (rLen K) (tCons (tVar 6) tNil)) (tC (.int 1)))) (te := tVar 6) (own := [("one", 6)]) rfl scLrd.nd  (pi_list (pv 3)) (blkOk_by (own := [("one", 6)]) (N := nLrd) (sc := defScope sLrd) (by decide +kernel))
   (fun _ _ _ _ _ => (pg_name (i := 6) scLrd.nd rfl (Or.inl rfl))) (fun _ _ _ _ _ => pts_one (pt_cmpR op_ne (pe_callB call_len_seq (by rfl) T.m_len (by decide +kernel) (pa_cons (pv 6) pa_nil)) pe_int (nomark _))) (fun _ _ _ _ _ => (pv 6))) (pe_lst pa_nil) (nomark _))
  (pss_one (ps_ret pe_non)) pss_nil)
  (pss_cons (ps_set (i := 4) scLrd.nd rfl (Or.inl rfl) (pe_tup (pa_cons (pe_ix ix_tup (pe_ix ix_list (pv 3) pe_int (fun _ _ => rfl)) pe_int (fun _ _ => rfl)) (pa_cons (pe_ix ix_tup (pe_ix ix_list (pv 3) pe_int (fun _ _ => rfl)) pe_int (fun _ _ => rfl)) (pa_cons (pe_callTy call_tuple_of (by rfl) T.m_tuple (by decide +kernel) (pa_cons (pe_lc (te := tCall spLwr [] E0 (tCons (tVar 7) tNil)) (own := [("row", 7)]) rfl scLrd.nd  (pi_list (pe_slice sl_list (pv 1) (po_some pe_int) po_none)) (blkOk_by (own := [("row", 7)]) (N := nLrd) (sc := defScope sLrd) (by decide +kernel))
   (fun _ _ _ _ _ => (pg_name (i := 7) scLrd.nd rfl (Or.inl rfl))) (fun _ _ _ _ _ => pts_nil) (fun _ _ _ _ _ => (pe_cal T.c__law_wish_read (hr.mono (by omega)) (by rfl) (pa_cons (pv 7) pa_nil)))) pa_nil)) pa_nil)))))
  (pss_one (ps_ret (pe_ix ix_list (pe_lst (pa_cons pe_non (pa_cons (pv 4) pa_nil))) (pe_callTy call_int1 (by rfl) T.m_int (by decide +kernel) (pa_cons (pe_cal T.c__law_is_riddle (hr.mono (by omega)) (by rfl) (pa_cons (pv 4) pa_nil)) pa_nil)) (fun _ _ => rfl)))))))))), ?_⟩
    have big : 10000 ≤ sizeLine := by decide
    have sp1 : (Str.ofString " ").length = 1 := by decide +kernel
    have nl1 : (Str.ofString "\n").length = 1 := by decide +kernel
    have w1 : msr (rowsS t) ≤ t.length + 1 := msr_split t (Str.ofString "\n") (by omega)
    have ps1 : 0 < (rowsS t).length := split_pos t (Str.ofString "\n")
    have lR : (rowsS t).length ≤ 6001 := by
      unfold msr at w1
      omega
    refine ⟨.str t, rfl, ⟨t, rfl⟩, t, _, rfl, rfl, (by decide +kernel), by omega, fun l1 n1 => ?_⟩
    have s1 := same_upd (o := .lst ((Txt.split t (Str.ofString "\n")).map V.str)) n1
    have h1 : upd H l1 (.lst ((Txt.split t (Str.ofString "\n")).map V.str)) l1 = some (.lst ((rowsS t).map V.str)) := upd_same
    generalize upd H l1 (.lst ((Txt.split t (Str.ofString "\n")).map V.str)) = H1 at s1 h1
    have r0 : (rowsS t)[0]? = some ((rowsS t).getD 0 Str.empty) := by rw [List.getD_eq_getElem?_getD, List.getElem?_eq_getElem (by omega)]; rfl
    have lr0 := msr_mem (List.mem_of_getElem? r0)
    have w2 : msr (wordsS t) ≤ _ + 1 := msr_split ((rowsS t).getD 0 Str.empty) (Str.ofString " ") (by omega)
    have lW : (wordsS t).length ≤ 6001 := by
      unfold msr at w2
      omega
    refine ⟨.ref l1, rfl, l1, _, 0, _, rfl, rfl, .inl (.inl h1), atI_nat (j := 0) (by rw [List.getElem?_map, r0]; rfl), ⟨_, rfl⟩, _, _, rfl, rfl, (by decide +kernel), by omega, fun l2 n2 => ?_⟩
    have s2 := same_upd (o := .lst ((Txt.split ((rowsS t).getD 0 Str.empty) (Str.ofString " ")).map V.str)) n2
    have h2 : upd H1 l2 (.lst ((Txt.split ((rowsS t).getD 0 Str.empty) (Str.ofString " ")).map V.str)) l2 = some (.lst ((wordsS t).map V.str)) := upd_same
    have h12 := s2 _ _ h1
    have S2 := s1.trans s2
    generalize upd H1 l2 (.lst ((Txt.split ((rowsS t).getD 0 Str.empty) (Str.ofString " ")).map V.str)) = H2 at s2 h2 h12 S2
    refine ⟨.ref l2, rfl, l2, _, rfl, .inl (.inl (.inl h2)), rfl, _, rfl, ?_⟩
    rw [List.length_map]
    by_cases c4 : (wordsS t).length = 4
    · rw [c4]
      refine iteNS rfl ?_
      have ew := four_of c4
      have kW : okTs (wordsS t) := okTs_split ((okTs_split tk : okTs (rowsS t)) _ (List.mem_of_getElem? r0))
      obtain ⟨a, b, c, d, e4⟩ : ∃ a b c d, wordsS t = [a, b, c, d] := ⟨_, _, _, _, ew⟩
      have ka : okS a := kW a (by rw [e4]; exact List.mem_cons_self)
      have kc : okS c := kW c (by rw [e4]; exact List.mem_cons_of_mem _ (List.mem_cons_of_mem _ List.mem_cons_self))
      have lb := msr_mem (a := wordsS t) (x := b) (by rw [e4]; exact List.mem_cons_of_mem _ List.mem_cons_self)
      have ld := msr_mem (a := wordsS t) (x := d) (by rw [e4]; exact List.mem_cons_of_mem _ (List.mem_cons_of_mem _ (List.mem_cons_of_mem _ List.mem_cons_self)))
      have eR : readS t = if (a = Str.ofString "places" ∧ c = Str.ofString "hues") ∧ (figL b).length = 1 ∧ (figL d).length = 1 then some ((figL b).getD 0 0, (figL d).getD 0 0, ((rowsS t).drop 1).map wishR) else none := by
        unfold readS
        rw [e4]
        by_cases z : (a = Str.ofString "places" ∧ c = Str.ofString "hues") ∧ (figL b).length = 1 ∧ (figL d).length = 1
        · rw [if_pos z, if_pos ⟨rfl, z⟩]
          rfl
        · rw [if_neg z, if_neg (fun y => z y.2)]
      have h2 : H2 l2 = some (.lst [.str a, .str b, .str c, .str d]) := by
        rw [h2, e4]
        rfl
      refine ⟨.ref l2, rfl, l2, _, rfl, .inl (.inl h2), ?_, fun l3 n3 => ?_⟩
      · rw [pick4_even]
        show 2 ≤ sizeLine
        decide
      rw [pick4_even]
      have s3 := same_upd (o := .lst [.str a, .str c]) n3
      refine ⟨(by show 2 ≤ sizeLine; decide), fun l4 n4 => ?_⟩
      have s4 := same_upd (o := .lst [.str (Str.ofString "places"), .str (Str.ofString "hues")]) n4
      have h34 := s4 _ _ (upd_same (H := H2) (a := l3) (o := .lst [.str a, .str c]))
      refine ⟨.list [.str a, .str c], .list [.str (Str.ofString "places"), .str (Str.ofString "hues")], .lst (.inl (.inl h34)) (.cons (.str _) (.cons (.str _) .nil)), .lst (.inl (.inl upd_same)) (.cons (.str _) (.cons (.str _) .nil)), shp2 ka kc, shp2 (by unfold okS; decide +kernel) (by unfold okS; decide +kernel), _, rfl, ?_⟩
      rw [eqv2]
      have S4 := (S2.trans s3).trans s4
      have h24 := s4 _ _ (s3 _ _ h2)
      have h14 := s4 _ _ (s3 _ _ h12)
      generalize upd (upd H2 l3 (.lst [.str a, .str c])) l4 (.lst [.str (Str.ofString "places"), .str (Str.ofString "hues")]) = H4 at s4 S4 h24 h14
      by_cases ch : a = Str.ofString "places" ∧ c = Str.ofString "hues"
      · refine iteNS ch ?_
        -- sizes
        refine ⟨.ref l2, rfl, 1, rfl, l2, _, rfl, .inl (.inl h24), ?_, fun l5 n5 => ?_⟩
        · rw [pick4_odd]
          show 2 ≤ sizeLine
          decide
        rw [pick4_odd]
        have s5 := same_upd (o := .lst [.str b, .str d]) n5
        have h5 : upd H4 l5 (.lst [.str b, .str d]) l5 = some (.lst ([b, d].map V.str)) := upd_same
        have S5 := S4.trans s5
        have h15 := s5 _ _ h14
        generalize upd H4 l5 (.lst [.str b, .str d]) = H5 at s5 h5 S5 h15
        refine ⟨l5, rfl, ⟨_, .inl (.inl h5)⟩, fun D nD => ?_⟩
        refine lc_list (K := K) (a := l5) (xs := [b, d].map V.str) (fun i H3 => Same H5 H3 ∧ ∃ rs : List Addr, H3 D = some (.lst (rs.map V.ref)) ∧ Paired (IsRow H3) rs (([b, d].take i).map figL)) ⟨same_upd nD, [], upd_same, .nil⟩ (fun i H3 _ p => .inl (.inl (p.1 _ _ h5))) (fun i x H3 hx p => ?_) (fun H3 p => ?_)
        · obtain ⟨x0, ex, rfl⟩ := map_get hx
          obtain ⟨s3, rs, hD, pr⟩ := p
          have lx : x0.length ≤ 7000 := by
            have := List.mem_of_getElem? ex
            simp only [List.mem_cons, List.not_mem_nil, or_false] at this
            rcases this with rfl | rfl <;> omega
          refine ⟨rfl, yes_if ⟨.str x0, rfl, x0, rfl, lx, fun H4 pp s4 np hp => ⟨rs.map V.ref, s4 _ _ hD, ?_, same_put (s3.trans s4) nD, rs ++ [pp], ?_, ?_⟩⟩⟩
          · have z := pairedLen pr
            rw [List.length_map, List.length_take] at z
            rw [List.length_map]
            exact Nat.lt_of_le_of_lt (show rs.length ≤ 10000 by have : [b, d].length = 2 := rfl; omega) (by decide)
          · rw [upd_same, List.map_append]
            rfl
          · rw [take_snoc ex, List.map_append]
            exact rows_put (s4 _ _ hD) (pairedSnoc (pairedMap (fun _ _ e => s4 _ _ e) pr) hp)
        obtain ⟨s6, rs, hD, pr⟩ := p
        rw [List.length_map, List.take_length] at pr
        obtain ⟨r1, r2, rfl, hr1, hr2⟩ : ∃ r1 r2, rs = [r1, r2] ∧ IsRow H3 r1 (figL b) ∧ IsRow H3 r2 (figL d) := by
          cases pr with
          | cons x y =>
            cases y with
            | cons z y =>
              cases y
              exact ⟨_, _, rfl, x, z⟩
        have S6 := S5.trans s6
        have h16 := s6 _ _ h15
        -- of one figure each
        refine ⟨.ref D, rfl, D, rfl, ⟨_, .inl (.inl hD)⟩, fun D2 nD2 => ?_⟩
        refine lc_list (K := K) (a := D) (xs := [V.ref r1, V.ref r2]) (fun i H5 => Same H3 H5 ∧ ∃ xs : List V, H5 D2 = some (.lst xs) ∧ xs.length ≤ i ∧ (xs = [] ↔ ∀ l ∈ [figL b, figL d].take i, l.length = 1)) ⟨same_upd nD2, [], upd_same, Nat.le_refl _, ⟨fun _ _ h => (nomatch h), fun _ => rfl⟩⟩ (fun i H5 _ p => .inl (.inl (p.1 _ _ hD))) (fun i x H5 hx p => ?_) (fun H7 p => ?_)
        · obtain ⟨s5, xs, hD2, xl, xe⟩ := p
          obtain ⟨r, l, rfl, el, hl⟩ : ∃ r l, x = .ref r ∧ [figL b, figL d][i]? = some l ∧ IsRow H3 r l := by
            match i, hx with
            | 0, hx => exact ⟨r1, _, (Option.some.inj hx).symm, rfl, hr1⟩
            | 1, hx => exact ⟨r2, _, (Option.some.inj hx).symm, rfl, hr2⟩
          have il : i < 2 := (List.getElem?_eq_some_iff.mp el).1
          refine ⟨rfl, .ref r, rfl, r, _, rfl, .inr (.inl (.inl (s5 _ _ hl))), rfl, _, rfl, ?_⟩
          rw [List.length_map]
          by_cases e1 : l.length = 1
          · rw [e1]
            refine iteNS rfl ⟨s5, xs, hD2, by omega, ⟨fun e p hp => ?_, fun a => xe.mpr fun p hp => a p ?_⟩⟩
            · rw [take_snoc el] at hp
              rcases List.mem_append.mp hp with h | h
              · exact xe.mp e p h
              · rw [List.mem_singleton.mp h]
                exact e1
            · rw [take_snoc el]
              exact List.mem_append_left _ hp
          · refine iteNT (fun z => e1 (by have z := V.int.inj z; omega)) ⟨.ref r, rfl, xs, hD2, Nat.lt_of_le_of_lt (show xs.length ≤ 10000 by omega) (by decide), same_put s5 nD2, _, upd_same, by rw [List.length_append]; exact Nat.succ_le_succ xl, ⟨fun e => by simp at e, fun a => ?_⟩⟩
            exact absurd (a l (by rw [take_snoc el]; exact List.mem_append_right _ (List.mem_singleton.mpr rfl))) e1
        obtain ⟨s7, xs, hD2, xl, xe⟩ := p
        rw [show [V.ref r1, V.ref r2].length = [figL b, figL d].length from rfl, List.take_length] at xe
        refine ⟨(by show 0 ≤ sizeLine; decide), fun e2 ne2 => ?_⟩
        have se := same_upd (o := .lst []) ne2
        refine ⟨D2, e2, xs, rfl, rfl, .inl (.inl (se _ _ hD2)), .inl (.inl upd_same), _, rfl, ?_⟩
        have s8 := s7.trans se
        have S8 := S6.trans s8
        have hD8 := s8 _ _ hD
        have h18 := s8 _ _ h16
        have hr18 := s8 _ _ hr1
        have hr28 := s8 _ _ hr2
        generalize upd H7 e2 (.lst []) = H8 at s8 S8 hD8 h18 hr18 hr28
        by_cases zx : xs = []
        · have all1 := xe.mp zx
          have f1 := all1 _ List.mem_cons_self
          have f3 := all1 _ (List.mem_cons_of_mem _ List.mem_cons_self)
          rw [zx]
          refine iteF ?_
          rw [if_pos ⟨ch, f1, f3⟩] at eR
          rw [one_of f1] at hr18
          rw [one_of f3] at hr28
          generalize (figL b).getD 0 0 = many at eR hr18
          generalize (figL d).getD 0 0 = hues at eR hr28
          refine ⟨.ref D, rfl, D, _, 0, .ref r1, rfl, rfl, .inl (.inl hD8), atI_nat (j := 0) rfl, r1, _, 0, .int many, rfl, rfl, .inl (.inl hr18), atI_nat (j := 0) rfl, ?_⟩
          refine ⟨.ref D, rfl, D, _, 1, .ref r2, rfl, rfl, .inl (.inl hD8), atI_nat (j := 1) rfl, r2, _, 0, .int hues, rfl, rfl, .inl (.inl hr28), atI_nat (j := 0) rfl, ?_⟩
          refine ⟨.ref l1, rfl, 1, rfl, l1, _, rfl, .inl (.inl h18), fun l9 n9 => ?_⟩
          have ecut : cutV ((rowsS t).map V.str) (some 1) none = ((rowsS t).drop 1).map V.str := cut_from V.str (rowsS t) 1
          rw [ecut]
          have s9 := same_upd (o := .lst (((rowsS t).drop 1).map V.str)) n9
          have h9 : upd H8 l9 (.lst (((rowsS t).drop 1).map V.str)) l9 = some (.lst (((rowsS t).drop 1).map V.str)) := upd_same
          have S9 := S8.trans s9
          generalize upd H8 l9 (.lst (((rowsS t).drop 1).map V.str)) = H9 at s9 h9 S9
          have wdD : ∀ x ∈ (rowsS t).drop 1, x.length ≤ 6000 := fun x hx => by
            have := msr_mem (List.mem_of_mem_drop hx)
            omega
          have lD : ((rowsS t).drop 1).length ≤ 6001 := by
            rw [List.length_drop]
            omega
          generalize (rowsS t).drop 1 = DD at h9 eR wdD lD
          refine ⟨l9, rfl, ⟨_, .inl (.inl h9)⟩, fun D4 nD4 => ?_⟩
          refine lc_list (K := K) (a := l9) (xs := DD.map V.str) (fun i H3 => Same H9 H3 ∧ ∃ ows : List V, H3 D4 = some (.lst ows) ∧ Paired (OptW H3) ows ((DD.take i).map wishR)) ⟨same_upd nD4, [], upd_same, .nil⟩ (fun i H3 _ p => .inl (.inl (p.1 _ _ h9))) (fun i x H3 hx p => ?_) (fun H10 p => ?_)
          · obtain ⟨x0, ex, rfl⟩ := map_get hx
            obtain ⟨s3, ows, hD, pr⟩ := p
            refine ⟨rfl, yes_if ⟨.str x0, rfl, x0, rfl, wdD x0 (List.mem_of_getElem? ex), fun H4 v s4 ov => ⟨ows, s4 _ _ hD, ?_, same_put (s3.trans s4) nD4, ows ++ [v], upd_same, ?_⟩⟩⟩
            · have z := pairedLen pr
              rw [List.length_map, List.length_take] at z
              exact Nat.lt_of_le_of_lt (show ows.length ≤ 10000 by omega) (by decide)
            · rw [take_snoc ex, List.map_append]
              have tp : Tups H4 (upd H4 D4 (.lst (ows ++ [v]))) := fun b xs e => by
                rw [upd_ne (fun z => by rw [z, s4 _ _ hD] at e; cases e)]
                exact e
              exact pairedSnoc (pairedMap (fun _ _ e => optW_tups (e.same s4) tp) pr) (optW_tups ov tp)
          obtain ⟨s10, ows, hD4, pr4⟩ := p
          rw [List.length_map, List.take_length] at pr4
          refine ⟨D4, _, rfl, .inl ⟨.inl (.inl hD4), fun wt nwt => ?_⟩⟩
          have s11 := same_upd (o := .tup ows) nwt
          refine ⟨(by show 3 ≤ sizeLine; decide), fun ri nri => ?_⟩
          have s12 := same_upd (o := .tup [.int many, .int hues, .ref wt]) nri
          have S12 := (((S9.trans s10).trans s11).trans s12)
          have hri : upd (upd H10 wt (.tup ows)) ri (.tup [.int many, .int hues, .ref wt]) ri = some (.tup [.int many, .int hues, .ref wt]) := upd_same
          have hwt := s12 _ _ (upd_same (H := H10) (a := wt) (o := .tup ows))
          have pr12 : Paired (OptW (upd (upd H10 wt (.tup ows)) ri (.tup [.int many, .int hues, .ref wt]))) ows (DD.map wishR) := pairedMap (fun _ _ e => (OptW.same e s11).same s12) pr4
          generalize upd (upd H10 wt (.tup ows)) ri (.tup [.int many, .int hues, .ref wt]) = H12 at s12 S12 hri hwt pr12
          have lO : (DD.map wishR).length ≤ 10000 := by rw [List.length_map]; omega
          generalize DD.map wishR = os at eR pr12 lO
          refine ⟨.ref ri, rfl, (by show 2 ≤ sizeLine; decide), fun l13 n13 => ?_⟩
          have s13 := same_upd (o := .lst [.non, .ref ri]) n13
          refine ⟨.ref ri, rfl, ri, wt, many, hues, ows, os, rfl, s13 _ _ hri, s13 _ _ hwt, pairedMap (fun _ _ e => OptW.same e s13) pr12, lO, fun H14 s14 => ?_⟩
          have S14 := (S12.trans s13).trans s14
          have h13 := s14 _ _ (upd_same (H := H12) (a := l13) (o := .lst [.non, .ref ri]))
          cases eb : lirB many hues os with
          | true =>
            refine .inr ⟨true, rfl, l13, _, 1, .ref ri, rfl, rfl, .inl (.inl h13), atI_nat (j := 1) rfl, ?_⟩
            obtain ⟨wds, rfl, bb, et⟩ := readS_text eR eb
            obtain ⟨was, rfl, pw⟩ := isRid_some pr12
            have s134 := s13.trans s14
            exact q _ ri many hues wds S14 ⟨wt, was, s134 _ _ hri, s134 _ _ hwt, pairedMap (fun _ _ e => IsWish.mono (tups_same s134) e) pw⟩ bb et
          | false =>
            refine .inr ⟨false, rfl, l13, _, 0, .non, rfl, rfl, .inl (.inl h13), atI_nat (j := 0) rfl, ?_⟩
            refine qn _ S14 fun many' hues' wds' b' e' => ?_
            have z := readS_of b'
            rw [e', eR] at z
            have z := Option.some.inj z
            simp only [Prod.mk.injEq] at z
            rw [z.1, z.2.1, z.2.2, lir_some, b'] at eb
            cases eb
        · have e9 : (!xs.isEmpty) = true := by
            cases xs with
            | nil => exact absurd rfl zx
            | cons _ _ => rfl
          rw [e9]
          refine iteT (qn _ S8 (no_read ?_))
          rw [eR, if_neg (fun z => zx (xe.mpr fun l hl => ?_))]
          simp only [List.mem_cons, List.not_mem_nil, or_false] at hl
          rcases hl with rfl | rfl
          · exact z.2.1
          · exact z.2.2
      · refine iteNT ch (qn _ S4 (no_read ?_))
        rw [eR, if_neg (fun z => ch z.1)]
    · refine iteNT (fun z => c4 (by have z := V.int.inj z; omega)) ?_
      refine iteT (qn _ S2 (no_read ?_))
      unfold readS
      rw [if_neg (fun z => c4 z.1)]
end
end Rd

set_option Elab.async false
set_option linter.all false
set_option maxRecDepth 100000
set_option maxHeartbeats 4000000
namespace Rd
open PySem PySem.Spec PyProof.Rows L2 Dt TL
theorem FnOk.or {P : Program} {w : World} {K : PySem.W.Frag} {mg : Str → Option Value} {base : Heap} {CX : CXT} {k : Nat} {f : Addr} {fd : FuncData} {ps : List Str} {sp sq : Sp} (a : FnOk P w K mg base CX k f fd ps sp) (b : FnOk P w K mg base CX k f fd ps sq) : FnOk P w K mg base CX k f fd ps (fun vs H Q E => sp vs H Q E ∨ sq vs H Q E) :=
  ⟨fun vs H Q E h => h.elim (a.len vs H Q E) (b.len vs H Q E), fun A outer s H args us vs Q E hr e0 hb r h => h.elim (a.run A outer s H args us vs Q E hr e0 hb r) (b.run A outer s H args us vs Q E hr e0 hb r)⟩
/-- what is no text is refused -/
def spRrx (K : PySem.W.Frag) (D : Addr) : Sp := fun vs H Q E => ∃ (v : V) (t : Value), vs = [v] ∧ TyX K H v t ∧ PySem.W.kitOne K t (.type "str") = some false ∧ E (.ref D) none H
section
variable {P : Program} {w : World} {K : PySem.W.Frag} {mg : Str → Option Value} {base : Heap}
set_option maxHeartbeats 16000000 in
theorem ok_rrx {f c Pt : Addr} {Ps AA Qs : List Addr} {D : Addr} {fd : FuncData} {k : Nat} (F : FunC K "read_riddle" "read_riddle" sRri f fd (.ref c)) (TB : GxR.TabB base mg c Pt) (hP : Pt ∈ Qs) (C : ClsT K mg D) (T : TxtF3 P w K mg base Ps AA Qs) : FnOk P w K mg base (L2.CX P w) (k + 9) f fd ["text"] (spRrx K D) := by
  refine F.okX scRri (fun vs H Q E h => ?_) (fun A outer s H vs Q E hr h => ?_)
  · obtain ⟨v, t, rfl, _⟩ := h
    rfl
  · obtain ⟨v, t, rfl, ty, kt, qx⟩ := h
    refine ⟨_, (pss_cons (ps_if (pt_not (pt_val (pe_callB call_isi (by rfl) T.m_isinstance (by decide +kernel) (pa_cons (pv 0) (pa_cons (pe_bltn (v := .ty "str") (by rfl) T.m_str (by decide +kernel) rfl) pa_nil)))))
  (pss_one (ps_raise rfl (takes_of rfl rfl rfl rfl) (pmk_own PySem.F.excBase_ValueError C.x C.g_NoText C.k (raises_own C.b C.t) (by rfl)))) pss_nil)
  (pss_cons (ps_set (i := 1) scRri.nd rfl (Or.inl rfl) (pe_split (pv 0) pe_str))
  (pss_cons (ps_set (i := 2) scRri.nd rfl (Or.inl rfl) (pe_split (pe_ix ix_list (pv 1) pe_int (fun _ _ => rfl)) pe_str))
  (pss_cons (ps_if (pt_cmpR op_ne (pe_callB call_len_seq (by rfl) T.m_len (by decide +kernel) (pa_cons (pv 2) pa_nil)) pe_int (nomark _))
  (pss_one (ps_raise rfl (takes_of rfl rfl rfl rfl) (pmk_own PySem.F.excBase_ValueError C.x C.g_NoText C.k (raises_own C.b C.t) (by rfl)))) pss_nil)
  (pss_cons (ps_set (i := 3) scRri.nd rfl (Or.inl rfl) (pe_tup (pa_cons (pe_cal T.c_figure (hr.mono (by omega)) (by rfl) (pa_cons (pe_ix ix_list (pv 2) pe_int (fun _ _ => rfl)) pa_nil)) (pa_cons (pe_cal T.c_figure (hr.mono (by omega)) (by rfl) (pa_cons (pe_ix ix_list (pv 2) pe_int (fun _ _ => rfl)) pa_nil)) (pa_cons (Gx.pe_tupN (own := [("line", 4)]) (AA := AA) (g := gName 4) (tt := tYes) (te := fun _ => tCall (spRwi AA Qs) [] E0 (tCons (tVar 4) tNil)) hr (by rfl) T.m_tuple rfl scRri.nd TB hP rfl (blkOk_by (own := [("line", 4)]) (N := nRri) (sc := defScope sRri) (by decide +kernel)) ⟨rfl, by decide +kernel, rfl⟩ (pi_list (pe_slice sl_list (pv 1) (po_some pe_int) po_none))
   (fun _ _ _ _ _ _ hA => (pg_name (i := 4) scRri.nd rfl (Or.inl rfl))) (fun _ _ _ _ _ _ hA => pts_nil) (fun _ _ _ _ code _ hA => (pe_cal T.c_read_wish (hA.mono (by omega)) (by rfl) (pa_cons (pv 4) pa_nil)))) pa_nil)))))
  (pss_cons (ps_if (PW.pt (pw_or (pt_not (pt_val (pe_cal T.c_is_riddle (hr.mono (by omega)) (by rfl) (pa_cons (pv 3) pa_nil)))) (pw_or1 (pt_cmpR op_ne (pe_cal T.c_show_riddle (hr.mono (by omega)) (by rfl) (pa_cons (pv 3) pa_nil)) (pv 0) (nomark _)))))
  (pss_one (ps_raise rfl (takes_of rfl rfl rfl rfl) (pmk_own PySem.F.excBase_ValueError C.x C.g_NoText C.k (raises_own C.b C.t) (by rfl)))) pss_nil)
  (pss_one (ps_ret (pv 3))))))))), ?_⟩
    exact ⟨v, rfl, v, .ty "str", t, .type "str", false, rfl, .ty _, ty, kt, false, rfl, iteT qx⟩
end
end Rd

set_option Elab.async false
set_option linter.all false
set_option maxRecDepth 100000
set_option maxHeartbeats 4000000
namespace Rd
open PySem PySem.Spec PyProof.Rows L2 Dt TL
abbrev sRfs : Stmt := topS 52
abbrev nRfs : List Str := ["thing", "caught", "seen", "e"]
theorem scRfs : FnScope nRfs ["thing"] (defScope sRfs) := ⟨rfl, rfl, rfl, by decide +kernel, rfl, by decide +kernel, by decide +kernel⟩
/-- no text, or a text that no riddle writes -/
def NoRid (K : PySem.W.Frag) (H : Hp) (v : V) : Prop := (∃ t, TyX K H v t ∧ PySem.W.kitOne K t (.type "str") = some false) ∨ ∃ t : Str, v = .str t ∧ t.length ≤ 6000 ∧ ∀ many hues wds, irdB many hues wds = true → ridT many hues wds ≠ t
def spRef (K : PySem.W.Frag) (Ps AA Qs : List Addr) (D : Addr) : Sp := fun vs H Q E => ∃ v : V, vs = [v] ∧ NoRid K H v ∧ Tabs Ps H ∧ Gx.Nests AA Qs H ∧ (∀ P ∈ Ps, P ∈ AA) ∧ (∀ P ∈ Qs, P ∉ Ps) ∧ ∀ H', NFr AA Qs H H' → E (.ref D) none H'
theorem FnOk.imp {P : Program} {w : World} {K : PySem.W.Frag} {mg : Str → Option Value} {base : Heap} {CX : CXT} {k : Nat} {f : Addr} {fd : FuncData} {ps : List Str} {sp sq : Sp} (a : FnOk P w K mg base CX k f fd ps sp) (h : ∀ vs H Q E, sq vs H Q E → sp vs H Q E) : FnOk P w K mg base CX k f fd ps sq :=
  ⟨fun vs H Q E q => a.len vs H Q E (h _ _ _ _ q), fun A outer s H args us vs Q E hr e0 hb r q => a.run A outer s H args us vs Q E hr e0 hb r (h _ _ _ _ q)⟩
def spRrA (K : PySem.W.Frag) (Ps AA Qs : List Addr) (D : Addr) : Sp := fun vs H Q E => spRri Ps AA Qs D vs H Q E ∨ spRef K Ps AA Qs D vs H Q E
def spRfd (K : PySem.W.Frag) (Ps AA Qs : List Addr) : Sp := fun vs H Q _ => ∃ (v : V) (r : Str), vs = [v] ∧ NoRid K H v ∧ Tabs Ps H ∧ Gx.Nests AA Qs H ∧ (∀ P ∈ Ps, P ∈ AA) ∧ (∀ P ∈ Qs, P ∉ Ps) ∧ (∀ H', NFr AA Qs H H' → RepV K H' v r) ∧ ∀ H', NFr AA Qs H H' → Q (.bl true) H'
structure TxtQ1 (P : Program) (w : World) (K : PySem.W.Frag) (mg : Str → Option Value) (base : Heap) (Ps AA Qs : List Addr) (C : Nat → Addr) : Prop extends ClsX K mg C where
  m_repr : mg "repr" = none
  c_read_riddle : CalX P w K mg base 9 "read_riddle" ["text"] (spRrA K Ps AA Qs (C 6))
section
variable {P : Program} {w : World} {K : PySem.W.Frag} {mg : Str → Option Value} {base : Heap}
theorem ok_rrA {f c Pt : Addr} {Ps AA Qs : List Addr} {D : Addr} {fd : FuncData} {k : Nat} (F : FunC K "read_riddle" "read_riddle" sRri f fd (.ref c)) (TB : GxR.TabB base mg c Pt) (hP : Pt ∈ Qs) (C : ClsT K mg D) (T : TxtF3 P w K mg base Ps AA Qs) : FnOk P w K mg base (L2.CX P w) (k + 9) f fd ["text"] (spRrA K Ps AA Qs D) := by
  refine FnOk.imp (FnOk.or (ok_rri F TB hP C T) (ok_rrx F TB hP C T)) fun vs H Q E h => ?_
  rcases h with h | ⟨v, rfl, ⟨t, ty, kt⟩ | ⟨t, rfl, tl, no⟩, hT, hN, sub, dis, qx⟩
  · exact .inl h
  · exact .inr ⟨v, t, rfl, ty, kt, qx H (NFr.refl hN)⟩
  · exact .inl ⟨t, rfl, tl, hT, hN, sub, dis, fun H' ri many hues wds _ _ _ b e => absurd e (no many hues wds b), fun H' f _ => qx H' f⟩
set_option maxHeartbeats 16000000 in
theorem ok_rfd {f : Addr} {Ps AA Qs : List Addr} {C : Nat → Addr} {fd : FuncData} {k : Nat} (F : Fun K "_law_refused" "_law_refused" sRfs f fd) (T : TxtQ1 P w K mg base Ps AA Qs C) : FnG P w K mg base (k + 10) f fd ["thing"] (spRfd K Ps AA Qs) := by
  refine Fun.okG F scRfs (fun vs H Q E h => ?_) (fun cdv A outer s H vs Q gd hr h => ?_)
  · obtain ⟨v, r, rfl, _⟩ := h
    rfl
  · obtain ⟨v, r, rfl, no, hT, hN, sub, dis, rep, q⟩ := h
    refine ⟨_, (pss_cons (ps_set (i := 1) scRfs.nd rfl (Or.inl rfl) pe_non)
  (pss_cons (ps_set (i := 2) scRfs.nd rfl (Or.inl rfl) (pe_callB (call_reprV gd hr.units) (by rfl) T.m_repr (by decide +kernel) (pa_cons (pv 0) pa_nil)))
  (pss_cons (ps_try_keep (i := 3) rfl rfl rfl scRfs.nd rfl rfl ⟨by rfl, by decide, .inl T.g_DrawError⟩ takes0
  (fun W pn xe tk _ => (pss_one (ps_expr (pe_calX T.c_read_riddle (hr.mono (by omega)) tk (by rfl) (pa_cons (pv 0) pa_nil)))))
  (fun a pn => (pss_one (ps_set (i := 1) scRfs.nd rfl (Or.inl rfl) (pv 3)))))
  (pss_cons (ps_if (pt_cmpR op_ne (pe_callB (call_reprV gd hr.units) (by rfl) T.m_repr (by decide +kernel) (pa_cons (pv 0) pa_nil)) (pv 2) (nomark _))
  (pss_one (ps_ret pe_bl)) pss_nil)
  (pss_cons (ps_if (pt_val (pe_callB call_isDT (by rfl) T.m_isinstance (by decide +kernel) (pa_cons (pv 1) (pa_cons (pe_tup (pa_cons (pe_gref (by rfl) T.g_NoEnd) (pa_cons (pe_gref (by rfl) T.g_NoLog) (pa_cons (pe_gref (by rfl) T.g_NoName) (pa_cons (pe_gref (by rfl) T.g_NoRow) (pa_cons (pe_gref (by rfl) T.g_NoStep) (pa_cons (pe_gref (by rfl) T.g_NoTable) (pa_cons (pe_gref (by rfl) T.g_NoWish) (pa_cons (pe_gref (by rfl) T.g_Spent) (pa_cons (pe_gref (by rfl) T.g_Told) (pa_cons (pe_gref (by rfl) T.g_TooMany) pa_nil))))))))))) pa_nil))))
  (pss_one (ps_ret pe_bl)) pss_nil)
  (pss_one (ps_ret (pe_and (pe_callB call_isD (by rfl) T.m_isinstance (by decide +kernel) (pa_cons (pv 1) (pa_cons (pe_gref (by rfl) T.g_NoText) pa_nil))) (pe_one (pe_callB call_isD (by rfl) T.m_isinstance (by decide +kernel) (pa_cons (pv 1) (pa_cons (pe_bltn (v := .ty "ValueError") (by rfl) T.m_ValueError (by decide +kernel) rfl) pa_nil)))))))))))), ?_⟩
    refine ⟨v, rfl, v, r, rfl, rep H (NFr.refl hN), ?_⟩
    refine ⟨v, rfl, .inr ⟨v, rfl, no, hT, hN, sub, dis, fun H2 f2 => ?_⟩⟩
    refine ⟨true, T.exm 6 (by decide), fun _ a na => ?_, fun z => nomatch z⟩
    have s3 := same_upd (o := ExD (.ref (C 6)) none a) na
    have f3 := f2.same s3
    have ha : upd H2 a (ExD (.ref (C 6)) none a) a = some (ExD (.ref (C 6)) none a) := upd_same
    generalize upd H2 a (ExD (.ref (C 6)) none a) = H3 at s3 f3 ha
    refine ⟨.ref a, rfl, ?_⟩
    refine ⟨v, rfl, v, r, rfl, rep H3 f3, .str r, rfl, rfl, _, rfl, iteNS rfl ?_⟩
    refine ⟨.ref a, rfl, (by show 10 ≤ sizeLine; decide), fun tp ntp => ?_⟩
    have s4 := same_upd (o := .tup ([C 0, C 1, C 2, C 3, C 4, C 5, C 7, C 8, C 9, C 10].map V.ref)) ntp
    refine ⟨a, C 6, tp, [C 0, C 1, C 2, C 3, C 4, C 5, C 7, C 8, C 9, C 10], false, rfl, s4 _ _ ha, T.e 6 (by decide), .inl (.inl upd_same), kit_none fun c hc => ?_, false, rfl, iteF ?_⟩
    · simp only [List.map_cons, List.map_nil, List.mem_cons, List.not_mem_nil, or_false] at hc
      rcases hc with rfl | rfl | rfl | rfl | rfl | rfl | rfl | rfl | rfl | rfl
      · exact T.kit 6 (by decide) 0 (by decide)
      · exact T.kit 6 (by decide) 1 (by decide)
      · exact T.kit 6 (by decide) 2 (by decide)
      · exact T.kit 6 (by decide) 3 (by decide)
      · exact T.kit 6 (by decide) 4 (by decide)
      · exact T.kit 6 (by decide) 5 (by decide)
      · exact T.kit 6 (by decide) 7 (by decide)
      · exact T.kit 6 (by decide) 8 (by decide)
      · exact T.kit 6 (by decide) 9 (by decide)
      · exact T.kit 6 (by decide) 10 (by decide)
    have ha4 := s4 _ _ ha
    have f4 := f3.same s4
    refine ⟨.ref a, rfl, a, C 6, _, _, true, rfl, ha4, T.e 6 (by decide), .own _, T.kit 6 (by decide) 6 (by decide), true, rfl, iteT ?_⟩
    refine ⟨.ref a, rfl, a, C 6, _, _, true, rfl, ha4, T.e 6 (by decide), .ty _, T.kitV 6 (by decide), ?_⟩
    exact q _ f4
end
end Rd

set_option Elab.async false
set_option linter.all false
set_option maxRecDepth 100000
set_option maxHeartbeats 4000000
namespace Rd
open PySem PySem.Spec PyProof.Rows L2 Dt TL
/-! what the law hands in that is no text -/
def Keeps (H H' : Hp) : Prop := ∀ b o, (∀ ps, o ≠ .tbl ps) → H b = some o → H' b = some o
def Thg (K : PySem.W.Frag) (H : Hp) (v : V) : Prop := NoRid K H v ∧ ∃ r, ∀ H', Keeps H H' → RepV K H' v r
theorem repr_few {t : Str} (k : okS t) (l : t.length ≤ 4000) : (reprText t).length ≤ 40002 := by
  have z := StrLaws.reprText_len t fun c hc => by
    have := k c hc
    exact Nat.lt_of_lt_of_le this (by decide)
  omega
theorem join_one (r : Str) : ((Str.ofString ", ").join [r]).length ≤ r.length + 2 := by
  have z := StrLaws.join_length_le (Str.ofString ", ") [r]
  have e : (Str.ofString ", ").length = 2 := by decide +kernel
  rw [e] at z
  simpa using z
theorem tupT_few (r : Str) : (tupleText [r]).length ≤ r.length + 5 := by
  have z := join_one r
  unfold tupleText
  rw [len_app, len_app]
  have e1 : (Str.ofString "(").length = 1 := by decide +kernel
  have e2 : (Str.ofString (if ([r].length == 1) = true then ",)" else ")")).length = 2 := by
    show (Str.ofString ",)").length = 2
    decide +kernel
  omega
theorem lstT_few (r : Str) : (listText [r]).length ≤ r.length + 2 := by
  unfold listText
  rw [len_app]
  have e : textFrom 0 (Str.ofString "[") [r] = Str.ofString "[" ++ r := rfl
  have e1 : (Str.ofString "[").length = 1 := by decide +kernel
  have e2 : (Str.ofString "]").length = 1 := by decide +kernel
  rw [e, len_app]
  omega
theorem dctT_few (r : Str) : (dictText [r]).length ≤ r.length + 4 := by
  have z := join_one r
  unfold dictText
  rw [len_app, len_app]
  have e1 : (Str.ofString "{").length = 1 := by decide +kernel
  have e2 : (Str.ofString "}").length = 1 := by decide +kernel
  omega
section
variable {K : PySem.W.Frag} {H : Hp}
theorem thg_non : Thg K H .non := ⟨.inl ⟨.type "NoneType", .base .non, kit_ty (by decide +kernel)⟩, _, fun H' _ => .inl fun X e Q q => by rw [e]; exact .inl ⟨rfl, q⟩⟩
theorem thg_int {i : Int} (h : i.natAbs.log2 < 1920) : Thg K H (.int i) := ⟨.inl ⟨.type "int", .base (.int _), kit_ty (by decide +kernel)⟩, _, fun H' _ => .inl fun X e Q q => by rw [e]; exact .inr (.inl ⟨i, rfl, h, q⟩)⟩
theorem thg_bl : Thg K H (.bl true) := ⟨.inl ⟨.type "bool", .base (.bl _), kit_ty (by decide +kernel)⟩, _, fun H' _ => .inl fun X e Q q => by rw [e]; exact .inr (.inr (.inl ⟨true, rfl, q⟩))⟩
theorem rep_text {t : Str} (k : okS t) (l : t.length ≤ 4000) (H' : Hp) : RepV K H' (.str t) (reprText t) := .inl fun X e Q q => by
  rw [e]
  exact .inr (.inr (.inr ⟨t, rfl, Nat.le_trans (repr_few k l) (by decide), q⟩))
theorem thg_tup {t : Str} {p : Addr} (k : okS t) (l : t.length ≤ 4000) (h : H p = some (.tup [.str t])) : Thg K H (.ref p) := by
  have b := repr_few k l
  refine ⟨.inl ⟨.type "tuple", .base (.tup h), kit_ty (by decide +kernel)⟩, _, fun H' kp => .inr (.inl ⟨p, .tuple [.str t], rfl, .tup (.inl (.inl (kp _ _ (fun _ z => by cases z) h))) (.cons (.str _) .nil), ?_, ?_, ?_, ?_, rfl⟩)⟩
  · simp [PyData.showable, PyData.showableAll]
  · simp [PyData.hasDict, PyData.hasDictAll]
  · simp [PyData.depth, PyData.depthAll]
  · have e : (PyData.tuple [.str t]).shown = tupleText [reprText t] := by simp [PyData.shown, PyData.shownAll]
    rw [e]
    have : (100000 : Nat) ≤ sizeLine := by decide
    have := tupT_few (reprText t)
    omega
theorem thg_lst {t : Str} {p : Addr} (k : okS t) (l : t.length ≤ 4000) (h : H p = some (.lst [.str t])) : Thg K H (.ref p) := by
  have b := repr_few k l
  refine ⟨.inl ⟨.type "list", .base (.lst h), kit_ty (by decide +kernel)⟩, _, fun H' kp => .inr (.inl ⟨p, .list [.str t], rfl, .lst (.inl (.inl (kp _ _ (fun _ z => by cases z) h))) (.cons (.str _) .nil), ?_, ?_, ?_, ?_, rfl⟩)⟩
  · simp [PyData.showable, PyData.showableAll]
  · simp [PyData.hasDict, PyData.hasDictAll]
  · simp [PyData.depth, PyData.depthAll]
  · simp only [PyData.shown, PyData.shownAll]
    have : (100000 : Nat) ≤ sizeLine := by decide
    have := lstT_few (reprText t)
    omega
theorem thg_dict {t : Str} {p : Addr} (k : okS t) (l : t.length ≤ 4000) (h : H p = some (.dK [(.inr t, .int 1)])) : Thg K H (.ref p) := by
  have b := repr_few k l
  refine ⟨.inl ⟨.type "dict", .base (.dK h), kit_ty (by decide +kernel)⟩, _, fun H' kp => .inr (.inr ⟨p, t, 1, rfl, kp _ _ (fun _ z => by cases z) h, ?_, ?_, rfl⟩)⟩
  · simp [PyData.showable, PyData.showableKv]
    decide
  · simp only [PyData.shown, PyData.shownKv]
    have : (100000 : Nat) ≤ sizeLine := by decide
    have z := dctT_few (reprText t ++ Str.ofString ": " ++ Str.ofString (toString (1 : Int)))
    rw [len_app, len_app] at z
    have e1 : (Str.ofString ": ").length = 2 := by decide +kernel
    have e2 : (Str.ofString (toString (1 : Int))).length = 1 := by decide +kernel
    omega
theorem thg_nil {p : Addr} (h : H p = some (.tup [])) : Thg K H (.ref p) := by
  refine ⟨.inl ⟨.type "tuple", .base (.tup h), kit_ty (by decide +kernel)⟩, _, fun H' kp => .inr (.inl ⟨p, .tuple [], rfl, .tup (.inl (.inl (kp _ _ (fun _ z => by cases z) h))) .nil, ?_, ?_, ?_, ?_, rfl⟩)⟩ <;> decide +kernel
end
end Rd

set_option Elab.async false
set_option linter.all false
set_option maxRecDepth 100000
set_option maxHeartbeats 4000000
namespace Rd
open PySem PySem.Spec PyProof.Rows L2 Dt TL
abbrev sLaw : Stmt := topS 53
abbrev nLaw : List Str := ["script", "well", "turn", "times", "none", "text", "again", "thing", "due"]
theorem scLaw : FnScope nLaw ["script"] (defScope sLaw) := ⟨rfl, rfl, rfl, by decide +kernel, rfl, by decide +kernel, by decide +kernel⟩
structure TxtL (P : Program) (w : World) (K : PySem.W.Frag) (mg : Str → Option Value) (base : Heap) (Ps AA Qs : List Addr) (D : Addr) : Prop where
  m_range : mg "range" = none
  m_repr : mg "repr" = none
  c__law_well : Cal P w K mg base 1 "_law_well" ["script"] (spWell K)
  c__law_draw : Cal P w K mg base 1 "_law_draw" ["well", "many"] spDraw
  c__law_riddle : Cal P w K mg base 3 "_law_riddle" ["well", "most_places", "most_wishes"] spRid
  c__law_text : Cal P w K mg base 1 "_law_text" ["riddle"] spLtx
  c__law_bent_text : Cal P w K mg base 2 "_law_bent_text" ["well", "text"] spLbt
  c__law_refused : CalG P w K mg base 10 "_law_refused" ["thing"] (spRfd K Ps AA Qs)
  c__law_read : Cal P w K mg base 4 "_law_read" ["text"] spLrd
  c_read_riddle : CalX P w K mg base 9 "read_riddle" ["text"] (spRrA K Ps AA Qs D)
theorem Drawn.nests {AA Qs : List Addr} {H H' : Hp} {wl cl : Addr} (w : Well H wl cl) (a : Drawn wl cl H H') (t : Gx.Nests AA Qs H) : Gx.Nests AA Qs H' := by
  obtain ⟨cs, b, c, h1, h2, hc⟩ := w
  obtain ⟨cs', b', c', g1, g2, gc⟩ := a.2
  refine nests_keep t (fun x hx n z => ?_) fun x o h e => a.1 x o (fun z => ?_) (fun z => ?_) e
  · by_cases x1 : x = wl
    · rw [x1, g1] at z
      cases z
    · by_cases x2 : x = cl
      · rw [x2, g2] at z
        cases z
      · cases e : H x with
        | none => exact n e
        | some o =>
          rw [a.1 x o x1 x2 e] at z
          cases z
  · rw [z, h1] at e
    rcases h with ⟨_, h⟩ | ⟨_, h⟩ <;> rw [h] at e <;> cases e
  · rw [z, h2] at e
    rcases h with ⟨_, h⟩ | ⟨_, h⟩ <;> rw [h] at e <;> cases e
theorem Well.nfr {AA Qs : List Addr} {H H' : Hp} {wl cl : Addr} (w : Well H wl cl) (f : NFr AA Qs H H') : Well H' wl cl := by
  obtain ⟨cs, b, c, h1, h2, hc⟩ := w
  exact ⟨cs, b, c, f.seqs.2 _ _ h1, f.seqs.2 _ _ h2, hc⟩
theorem risI_of' {ns : List Int} (h : ns.Pairwise (· < ·)) : risI ns = true := by
  refine List.all_eq_true.mpr fun k hk => ?_
  have hk := List.mem_range.mp hk
  have h1 : k < ns.length := by omega
  have h2 : k + 1 < ns.length := by omega
  rw [List.getD_eq_getElem?_getD, List.getD_eq_getElem?_getD, List.getElem?_eq_getElem h1, List.getElem?_eq_getElem h2]
  exact decide_eq_true (List.pairwise_iff_getElem.mp h k (k + 1) h1 h2 (Nat.lt_succ_self _))
theorem risR_of' {rs : List Dt.Row} (h : rs.Pairwise fun f g => HT.lexLt f g = true) : risR rs = true := by
  refine List.all_eq_true.mpr fun k hk => ?_
  have hk := List.mem_range.mp hk
  have h1 : k < rs.length := by omega
  have h2 : k + 1 < rs.length := by omega
  rw [List.getD_eq_getElem?_getD, List.getD_eq_getElem?_getD, List.getElem?_eq_getElem h1, List.getElem?_eq_getElem h2]
  exact List.pairwise_iff_getElem.mp h k (k + 1) h1 h2 (Nat.lt_succ_self _)
theorem rid_len {many hues : Int} {wds : List WD} (g : GoodR many hues wds) : (ridT many hues wds).length ≤ 3000 := by
  have m1 := g.m1
  have h2 := g.h2
  have e8 := g.eight
  have z := len_join (Str.ofString "\n") ([headT many hues] ++ wds.map wishT) 300 fun x hx => by
    rw [List.singleton_append] at hx
    rcases List.mem_cons.mp hx with rfl | hx
    · have := len_head (by omega : 0 ≤ many) g.m6 (by omega : 0 ≤ hues) g.h4
      omega
    · obtain ⟨wd, hw, rfl⟩ := List.mem_map.mp hx
      exact len_wish g.m6 g.h4 (g.each wd hw)
  have e : (Str.ofString "\n").length = 1 := by decide +kernel
  rw [List.length_append, List.length_singleton, List.length_map, e] at z
  unfold ridT
  omega
theorem NFr.keeps {A Qs : List Addr} {H H' : Hp} (f : NFr A Qs H H') : Keeps H H' := f.keep
theorem times_at {d : Int} (d0 : 0 ≤ d) (d1 : d < 8) : ∃ n : Nat, n ≤ 2 ∧ atI [V.int 0, .int 1, .int 1, .int 1, .int 1, .int 1, .int 2, .int 2] d = some (.int n) := by
  obtain ⟨k, rfl⟩ : ∃ k : Nat, d = k := ⟨d.toNat, by omega⟩
  match k, d1 with
  | 0, _ => exact ⟨0, by decide, rfl⟩
  | 1, _ => exact ⟨1, by decide, rfl⟩
  | 2, _ => exact ⟨1, by decide, rfl⟩
  | 3, _ => exact ⟨1, by decide, rfl⟩
  | 4, _ => exact ⟨1, by decide, rfl⟩
  | 5, _ => exact ⟨1, by decide, rfl⟩
  | 6, _ => exact ⟨2, by decide, rfl⟩
  | 7, _ => exact ⟨2, by decide, rfl⟩
  | k + 8, h => omega
def bnd : Nat → Nat
  | 0 => 2400
  | n + 1 => 3 * bnd n + 4000
section
variable {P : Program} {w : World} {K : PySem.W.Frag} {mg : Str → Option Value} {base : Heap}
set_option maxHeartbeats 32000000 in
theorem body_law {fa a : Addr} {Ps AA Qs : List Addr} {D : Addr} {s : Shared} {H : Hp} {cdv : Value} {ns : List Int} (T : TxtL P w K mg base Ps AA Qs D) (sub : ∀ P ∈ Ps, P ∈ AA) (dis : ∀ P ∈ Qs, P ∉ Ps) (hl : ns.length ≤ 63) (hb : ∀ z ∈ ns, Builtin.Int.intBits z ≤ 1048576) (hT : Tabs Ps H) (hN : Gx.Nests AA Qs H) (hS : SqL K H a (ns.map V.int))
    (hr : Room 11 (callerA.deeper (envOfC (Str.ofString "law") (defScope sLaw) s.heap.objs.size fa cdv))) :
    ∃ t, PSs (cxOf CX0 P w K mg base nLaw (Str.ofString "law") (defScope sLaw) fa cdv callerA [] s H (fun _ _ _ => False)).nox (defBody sLaw) t ∧ t { nx := fun _ _ => False, rt := fun v _ => v = .bl true } (start nLaw [.ref a]) H := by
  have hg : (callerA.deeper (envOfC (Str.ofString "law") (defScope sLaw) s.heap.objs.size fa cdv)).guards = some [] := rfl
  refine ⟨_, (pss_cons (ps_set (i := 1) scLaw.nd rfl (Or.inl rfl) (pe_cal T.c__law_well (hr.mono (by omega)) (by rfl) (pa_cons (pv 0) pa_nil)))
  (pss_cons (ps_for PassesOwn.never rfl (pi_range1 (by rfl) T.m_range (pa_cons pe_int pa_nil)) (pg_name (i := 2) scLaw.nd rfl (Or.inl rfl))
  (pss_cons (ps_set (i := 3) scLaw.nd rfl (Or.inl rfl) (pe_ix ix_list (pe_lst (pa_cons pe_int (pa_cons pe_int (pa_cons pe_int (pa_cons pe_int (pa_cons pe_int (pa_cons pe_int (pa_cons pe_int (pa_cons pe_int pa_nil))))))))) (pe_cal T.c__law_draw (hr.mono (by omega)) (by rfl) (pa_cons (pv 1) (pa_cons pe_int pa_nil))) (fun _ _ => rfl)))
  (pss_cons (ps_set (i := 4) scLaw.nd rfl (Or.inl rfl) (pe_cal T.c__law_draw (hr.mono (by omega)) (by rfl) (pa_cons (pv 1) (pa_cons pe_int pa_nil))))
  (pss_cons (ps_set (i := 5) scLaw.nd rfl (Or.inl rfl) (pe_slice sl_str (pe_cal T.c__law_text (hr.mono (by omega)) (by rfl) (pa_cons (pe_cal T.c__law_riddle (hr.mono (by omega)) (by rfl) (pa_cons (pv 1) (pa_cons pe_int (pa_cons pe_int pa_nil)))) pa_nil)) po_none (po_some pe_int)))
  (pss_cons (ps_for PassesOwn.never rfl (pi_range1 (by rfl) T.m_range (pa_cons (pv 3) pa_nil)) (pg_name (i := 6) scLaw.nd rfl (Or.inl rfl))
  (pss_one (ps_set (i := 5) scLaw.nd rfl (Or.inl rfl) (pe_cal T.c__law_bent_text (hr.mono (by omega)) (by rfl) (pa_cons (pv 1) (pa_cons (pv 5) pa_nil))))))
  (pss_cons (ps_set (i := 5) scLaw.nd rfl (Or.inl rfl) (pe_slice sl_str (pv 5) po_none (po_some pe_int)))
  (C8.pss_cut (ps_if (pt_cmpR op_eq (pv 4) pe_int (nomark _))
  (pss_cons (ps_set (i := 7) scLaw.nd rfl (Or.inl rfl) (pe_ix ix_list (pe_lst (pa_cons pe_non (pa_cons pe_int (pa_cons pe_bl (pa_cons (pe_tup (pa_cons (pv 5) pa_nil)) (pa_cons (pe_lst (pa_cons (pv 5) pa_nil)) (pa_cons (pe_disp (pps_cons (pv 5) pe_int pps_nil) (by rfl) (by rfl) (fun z => by cases z) (by decide)) (pa_cons (pe_tup pa_nil) (pa_cons pe_int pa_nil))))))))) (pe_cal T.c__law_draw (hr.mono (by omega)) (by rfl) (pa_cons (pv 1) (pa_cons pe_int pa_nil))) (fun _ _ => rfl)))
  (pss_one (ps_if (pt_not (pt_val (pe_calG T.c__law_refused hg (hr.mono (by omega)) (by rfl) (pa_cons (pv 7) pa_nil))))
  (pss_one (ps_ret pe_bl)) pss_nil))) pss_nil)
  (pss_cons (ps_set (i := 8) scLaw.nd rfl (Or.inl rfl) (pe_cal T.c__law_read (hr.mono (by omega)) (by rfl) (pa_cons (pv 5) pa_nil)))
  (pss_cons (ps_if (PW.pt (pw_and (pt_cmpR op_isN (pv 8) pe_non (nomark _)) (pw_and1 (pt_not (pt_val (pe_calG T.c__law_refused hg (hr.mono (by omega)) (by rfl) (pa_cons (pv 5) pa_nil)))))))
  (pss_one (ps_ret pe_bl)) pss_nil)
  (pss_one (ps_if (PW.pt (pw_and (pt_cmpR op_notN (pv 8) pe_non (nomark _)) (pw_and1 (pt_cmpR op_ne (pe_callB (Lg.call_repr hg hr.units) (by rfl) T.m_repr (by decide +kernel) (pa_cons (pe_calX T.c_read_riddle (hr.mono (by omega)) takes0 (by rfl) (pa_cons (pv 5) pa_nil)) pa_nil)) (pe_callB (Lg.call_repr hg hr.units) (by rfl) T.m_repr (by decide +kernel) (pa_cons (pv 8) pa_nil)) (nomark _)))))
  (pss_one (ps_ret pe_bl)) pss_nil)))))))))))
  (pss_one (ps_ret pe_bl)))), ?_⟩
  refine ⟨.ref a, rfl, a, ns, rfl, hS, hl, hb, fun H1 wl cl s1 nwl ncl hW => ?_⟩
  have hN1 := nests_same hN s1
  have hT1 := hT.same s1
  refine ⟨8, rfl, by decide, by decide, for_range (lo := 0) (n := 8) (fun i σ H2 => (Tabs Ps H2 ∧ Gx.Nests AA Qs H2 ∧ Well H2 wl cl) ∧ ∃ y2 y3 y4 y5 y6 y7 y8, σ = [some (.ref a), some (.ref wl), y2, y3, y4, y5, y6, y7, y8]) ⟨⟨hT1, hN1, hW⟩, none, none, none, none, none, none, none, rfl⟩ (fun i σ H2 hi p => ?_) (fun σ H2 p => ?_)⟩
  · obtain ⟨⟨hT2, hN2, hW2⟩, y2, y3, y4, y5, y6, y7, y8, rfl⟩ := p
    -- times
    refine ⟨(by show 8 ≤ sizeLine; decide), fun l1 n1 => ?_⟩
    have s2 := same_upd (o := .lst [.int 0, .int 1, .int 1, .int 1, .int 1, .int 1, .int 2, .int 2]) n1
    have n1w := hW2.new n1
    have hW2' := hW2.same s2
    refine ⟨.ref wl, rfl, wl, cl, 8, rfl, hW2', by decide, by decide, fun H3 d D3 d0 d1 => ?_⟩
    obtain ⟨tm, tm2, etm⟩ := times_at d0 d1
    have hT3 := D3.tabs hW2' (hT2.same s2)
    have hN3 := Drawn.nests hW2' D3 (nests_same hN2 s2)
    have hW3 := D3.2
    refine ⟨l1, _, d, _, rfl, rfl, .inl (.inl (D3.1 l1 _ n1w.1 n1w.2 upd_same)), etm, ?_⟩
    -- none
    refine ⟨.ref wl, rfl, wl, cl, 12, rfl, hW3, by decide, by decide, fun H4 nn D4 _ _ => ?_⟩
    have hT4 := D4.tabs hW3 hT3
    have hN4 := Drawn.nests hW3 D4 hN3
    have hW4 := D4.2
    -- text
    refine ⟨.ref wl, rfl, wl, cl, 8, rfl, hW4, by decide, by decide, fun H5 ri many hues wds D5 rid gr neat w8 k256 => ?_⟩
    have hT5 := D5.tabs hW4 hT4
    have hN5 := Drawn.nests hW4 D5 hN4
    have hW5 := D5.2
    have lT := rid_len gr
    have big : 100000 ≤ sizeLine := by decide
    refine ⟨ri, many, hues, wds, rfl, rid, gr, fun H6 s6 => ?_⟩
    refine ⟨2400, rfl, _, rfl, by omega, ?_⟩
    have kt : okS (cutS (ridT many hues wds) none (some 2400)) := okS_cut (okS_rid gr)
    have lt : (cutS (ridT many hues wds) none (some 2400)).length ≤ 2400 := cut_few _ 2400
    generalize cutS (ridT many hues wds) none (some 2400) = t0 at kt lt
    have hT6 := hT5.same s6
    have hN6 := nests_same hN5 s6
    have hW6 := hW5.same s6
    -- bent
    refine ⟨.int tm, rfl, tm, rfl, by omega, by omega, for_range (lo := 0) (n := tm) (fun j σ H7 => (Tabs Ps H7 ∧ Gx.Nests AA Qs H7 ∧ Well H7 wl cl) ∧ ∃ t y6, σ = [some (.ref a), some (.ref wl), some (.int (0 + (i : Nat))), some (.int tm), some (.int nn), some (.str t), y6, y7, y8] ∧ okS t ∧ t.length ≤ bnd j) ⟨⟨hT6, hN6, hW6⟩, t0, _, rfl, kt, lt⟩ (fun j σ H7 hj p => ?_) (fun σ H7 p => ?_)⟩
    · obtain ⟨⟨hT7, hN7, hW7⟩, t, y6', rfl, kt, lt⟩ := p
      have lj : t.length ≤ 12000 := by
        have : j = 0 ∨ j = 1 := by omega
        rcases this with rfl | rfl
        · exact Nat.le_trans lt (by decide)
        · exact Nat.le_trans lt (by decide)
      refine ⟨.ref wl, rfl, .str t, rfl, wl, cl, t, rfl, hW7, lj, kt, fun H8 t' D8 lt' kt' => ?_⟩
      exact ⟨⟨D8.tabs hW7 hT7, Drawn.nests hW7 D8 hN7, D8.2⟩, t', _, rfl, kt', Nat.le_trans lt' (by show _ ≤ 3 * bnd j + 4000; omega)⟩
    obtain ⟨⟨hT7, hN7, hW7⟩, t, y6', rfl, kt, lt⟩ := p
    have lt : t.length ≤ 40000 := by
      have : tm = 0 ∨ tm = 1 ∨ tm = 2 := by omega
      rcases this with rfl | rfl | rfl <;> exact Nat.le_trans lt (by decide)
    refine ⟨.str t, rfl, 4000, rfl, t, rfl, by omega, ?_⟩
    have kx : okS (cutS t none (some 4000)) := okS_cut kt
    have lx : (cutS t none (some 4000)).length ≤ 4000 := cut_few _ 4000
    generalize cutS t none (some 4000) = x at kx lx
    -- what is no text
    refine ⟨fun σ H8 => (Tabs Ps H8 ∧ Gx.Nests AA Qs H8 ∧ Well H8 wl cl) ∧ ∃ y7, σ = [some (.ref a), some (.ref wl), some (.int (0 + (i : Nat))), some (.int tm), some (.int nn), some (.str x), y6', y7, y8], ?_, fun σ H8 p => ?_⟩
    · refine ⟨.int nn, rfl, rfl, _, rfl, ite2 (fun _ => ?_) (fun _ => ⟨⟨hT7, hN7, hW7⟩, _, rfl⟩)⟩
      refine ⟨.str x, rfl, (by show 1 ≤ sizeLine; decide), fun p1 n1 => ?_⟩
      have s8 := same_upd (o := .tup [.str x]) n1
      have h1 := upd_same (H := H7) (a := p1) (o := .tup [.str x])
      refine ⟨.str x, rfl, (by show 1 ≤ sizeLine; decide), fun p2 n2 => ?_⟩
      have s9 := same_upd (o := .lst [.str x]) n2
      have h2 := upd_same (H := upd H7 p1 (.tup [.str x])) (a := p2) (o := .lst [.str x])
      have h12 := s9 _ _ h1
      have S9 := s8.trans s9
      generalize upd (upd H7 p1 (.tup [.str x])) p2 (.lst [.str x]) = H9 at s9 h2 h12 S9
      intro p3 n3
      refine ⟨.str x, rfl, ?_⟩
      have s10 : Same H9 (upd (upd H9 p3 (.dK [])) p3 (.dK [(.inr x, .int 1)])) := same_put (same_upd n3) n3
      have h3 : upd (upd H9 p3 (.dK [])) p3 (.dK [(.inr x, .int 1)]) p3 = some (.dK [(.inr x, .int 1)]) := upd_same
      refine ⟨upd_same, [(.inr x, .int 1)], rfl, (by show 1 ≤ 15; decide), ?_⟩
      show _
      have em : mergeK [] [((.inr x : Key), V.int 1)] = [(.inr x, .int 1)] := rfl
      rw [em]
      have S10 := S9.trans s10
      have h110 := s10 _ _ h12
      have h210 := s10 _ _ h2
      generalize upd (upd H9 p3 (.dK [])) p3 (.dK [(.inr x, .int 1)]) = H10 at s10 h3 S10 h110 h210
      refine ⟨(by show 0 ≤ sizeLine; decide), fun p4 n4 => ?_⟩
      have s11 := same_upd (o := .tup []) n4
      have h4 := upd_same (H := H10) (a := p4) (o := .tup [])
      refine ⟨(by show 8 ≤ sizeLine; decide), fun l n5 => ?_⟩
      have s12 := same_upd (o := .lst [.non, .int 5, .bl true, .ref p1, .ref p2, .ref p3, .ref p4, .int 0]) n5
      have hl5 := upd_same (H := upd H10 p4 (.tup [])) (a := l) (o := .lst [.non, .int 5, .bl true, .ref p1, .ref p2, .ref p3, .ref p4, .int 0])
      have s1112 := s11.trans s12
      have S12 := S10.trans s1112
      have g1 := s1112 _ _ h110
      have g2 := s1112 _ _ h210
      have g3 := s1112 _ _ h3
      have g4 := s12 _ _ h4
      generalize upd (upd H10 p4 (.tup [])) l (.lst [.non, .int 5, .bl true, .ref p1, .ref p2, .ref p3, .ref p4, .int 0]) = H12 at s12 hl5 s1112 S12 g1 g2 g3 g4
      have hW12 := hW7.same S12
      have w1 := hW7.new n1
      have w2 := hW7.new (s8.free n2)
      have w3 := hW7.new (S9.free n3)
      have w4 := hW7.new (S10.free n4)
      have w5 := hW7.new ((S10.trans s11).free n5)
      have hT12 := hT7.same S12
      have hN12 := nests_same hN7 S12
      refine ⟨.ref wl, rfl, wl, cl, 8, rfl, hW12, by decide, by decide, fun H13 e D13 e0 e1 => ?_⟩
      have hT13 := D13.tabs hW12 hT12
      have hN13 := Drawn.nests hW12 D13 hN12
      have hW13 := D13.2
      obtain ⟨v, ev, th⟩ : ∃ v, atI [V.non, .int 5, .bl true, .ref p1, .ref p2, .ref p3, .ref p4, .int 0] e = some v ∧ Thg K H13 v := by
        obtain ⟨k, rfl⟩ : ∃ k : Nat, e = k := ⟨e.toNat, by omega⟩
        match k, e1 with
        | 0, _ => exact ⟨_, rfl, thg_non⟩
        | 1, _ => exact ⟨_, rfl, thg_int (by decide)⟩
        | 2, _ => exact ⟨_, rfl, thg_bl⟩
        | 3, _ => exact ⟨_, rfl, thg_tup kx lx (D13.1 _ _ w1.1 w1.2 g1)⟩
        | 4, _ => exact ⟨_, rfl, thg_lst kx lx (D13.1 _ _ w2.1 w2.2 g2)⟩
        | 5, _ => exact ⟨_, rfl, thg_dict kx lx (D13.1 _ _ w3.1 w3.2 g3)⟩
        | 6, _ => exact ⟨_, rfl, thg_nil (D13.1 _ _ w4.1 w4.2 g4)⟩
        | 7, _ => exact ⟨_, rfl, thg_int (by decide)⟩
        | k + 8, h => omega
      refine ⟨l, _, e, v, rfl, rfl, .inl (.inl (D13.1 _ _ w5.1 w5.2 hl5)), ev, ?_⟩
      obtain ⟨no, r, rp⟩ := th
      refine ⟨v, rfl, v, r, rfl, no, hT13, hN13, sub, dis, fun H' F => rp H' F.keeps, fun H14 F14 => ⟨true, rfl, iteF ?_⟩⟩
      exact ⟨⟨F14.tab hT13, F14.nest, hW13.nfr F14⟩, _, rfl⟩
    obtain ⟨⟨hT8, hN8, hW8⟩, y7', rfl⟩ := p
    -- due
    refine ⟨.str x, rfl, x, rfl, by omega, kx, fun H9 rj many' hues' wds' s9 ridj b9 e9 => ?_, fun H9 s9 no => ?_⟩
    · have hT9 := hT8.same s9
      have hN9 := nests_same hN8 s9
      have hW9 := hW8.same s9
      have g9 := (ird_good b9).1
      have fR := fine_rid g9
      refine ⟨.ref rj, rfl, rfl, _, rfl, iteF ?_⟩
      refine ⟨.ref rj, rfl, rfl, _, rfl, iteT ?_⟩
      refine ⟨.str x, rfl, .inl ⟨x, rfl, by omega, hT9, hN9, sub, dis, fun H10 rk m2 h2 w2 F10 ridk _ b10 e10 => ?_, fun H10 F10 no => ?_⟩⟩
      · obtain ⟨rfl, rfl, rfl⟩ := rid_inj (ird_good b10).1 g9 (e10.trans e9.symm)
        refine ⟨rk, _, rfl, dpRid ridk, fR.sho, fR.noD, Nat.lt_of_le_of_lt fR.dep (by decide), fR.shows (by decide) (by decide), ?_⟩
        refine ⟨.ref rj, rfl, rj, _, rfl, dpRid (ridj.mono F10.seqs.1), fR.sho, fR.noD, Nat.lt_of_le_of_lt fR.dep (by decide), fR.shows (by decide) (by decide), rfl, _, rfl, iteNS rfl ?_⟩
        exact ⟨⟨F10.tab hT9, F10.nest, hW9.nfr F10⟩, _, _, _, _, _, _, _, rfl⟩
      · have rr := rid_read g9
        rw [e9] at rr
        exact absurd e9 (no _ _ _ rr b9)
    · have hT9 := hT8.same s9
      have hN9 := nests_same hN8 s9
      have hW9 := hW8.same s9
      refine ⟨.non, rfl, rfl, _, rfl, iteT ?_⟩
      refine ⟨.str x, rfl, .str x, _, rfl, .inr ⟨x, rfl, by omega, no⟩, hT9, hN9, sub, dis, fun H' _ => rep_text kx lx H', fun H10 F10 => ⟨true, rfl, iteF ?_⟩⟩
      refine ⟨.non, rfl, rfl, _, rfl, iteF ?_⟩
      exact ⟨⟨F10.tab hT9, F10.nest, hW9.nfr F10⟩, _, _, _, _, _, _, _, rfl⟩
  · obtain ⟨_, y2, y3, y4, y5, y6, y7, y8, rfl⟩ := p
    exact rfl
end
end Rd

set_option Elab.async false
set_option linter.all false
set_option maxRecDepth 100000
set_option maxHeartbeats 4000000
namespace Rd
open PySem PySem.Spec PyProof.Rows L2 Dt
theorem all_mk {l : PySem.W.OpenLaw} {w : World} {K : PySem.W.Frag} {h : Heap} {mg : Str → Option Value} {fa : Addr} {tb : Str → Addr × Addr} (X : K.In h) (G : h.Ns mainGlobals mg) (hfa : mg "law" = some (.ref fa)) (ht : ∀ y ∈ [("is_rising" : Str), ("are_places" : Str), ("are_hues" : Str), ("are_rows" : Str), ("is_riddle" : Str), ("show_wish" : Str), ("read_wish" : Str), ("read_riddle" : Str)], Lg.TabOf mg h y (tb y))
    {f1 f2 f3 f4 f5 f6 f7 f8 f9 f10 f11 f12 f13 f14 f15 f16 f17 f18 f19 f20 f21 f22 f23 f24 f25 f26 f27 f28 f29 f30 f31 : Addr} {od1 an1 od2 an2 od3 an3 od4 an4 od5 an5 od6 an6 od7 an7 od8 an8 od9 an9 od10 an10 od11 an11 od12 an12 od13 an13 od14 an14 od15 an15 od16 an16 od17 an17 od18 an18 od19 an19 od20 an20 od21 an21 od22 an22 od23 an23 od24 an24 od25 an25 od26 an26 od27 an27 od28 an28 od29 an29 od30 an30 od31 an31 : Option Addr} {sl1 sl2 sl3 sl4 sl5 sl6 sl7 sl8 sl9 sl10 sl11 sl12 sl13 sl14 sl15 sl16 sl17 sl18 sl19 sl20 sl21 sl22 sl23 sl24 sl25 sl26 sl27 sl28 sl29 sl30 sl31 : Array (Option Value)} {oc1 kV1 dc1 pm1 cd1 ct1 oc2 kV2 dc2 pm2 cd2 ct2 oc3 kV3 dc3 pm3 cd3 ct3 oc4 kV4 dc4 pm4 cd4 ct4 oc5 kV5 dc5 pm5 cd5 ct5 oc6 kV6 dc6 pm6 cd6 ct6 oc7 kV7 dc7 pm7 cd7 ct7 oc8 kV8 dc8 pm8 cd8 ct8 oc9 kV9 dc9 pm9 cd9 ct9 oc10 kV10 dc10 pm10 cd10 ct10 oc11 kV11 dc11 pm11 cd11 ct11 oc12 kV12 dc12 pm12 cd12 ct12 oc13 kV13 dc13 pm13 cd13 ct13 oc14 kV14 dc14 pm14 cd14 ct14 oc15 kV15 dc15 pm15 cd15 ct15 oc16 kV16 dc16 pm16 cd16 ct16 oc17 kV17 dc17 pm17 cd17 ct17 oc18 kV18 dc18 pm18 cd18 ct18 oc19 kV19 dc19 pm19 cd19 ct19 oc20 kV20 dc20 pm20 cd20 ct20 oc21 kV21 dc21 pm21 cd21 ct21 oc22 kV22 dc22 pm22 cd22 ct22 oc23 kV23 dc23 pm23 cd23 ct23 oc24 kV24 dc24 pm24 cd24 ct24 oc25 kV25 dc25 pm25 cd25 ct25 oc26 kV26 dc26 pm26 cd26 ct26 oc27 kV27 dc27 pm27 cd27 ct27 oc28 kV28 dc28 pm28 cd28 ct28 oc29 kV29 dc29 pm29 cd29 ct29 oc30 kV30 dc30 pm30 cd30 ct30 oc31 kV31 dc31 pm31 cd31 ct31 : Value} {tk_MOST_PLACES : Tok} {tk_LEAST_HUES : Tok} {tk_MOST_HUES : Tok} {tk_MOST_FILLINGS : Tok} {tk_MOST_WISHES : Tok} {tk_MOST_PLACES_OF_A_WISH : Tok} {tk_FIGURES : Tok} {q0 q1 q2 q3 q4 q5 q6 q7 q8 q9 q10 q11 : Addr} {qn0 : Addr}
    (a1 : PySem.W.nsIn K mainGlobals "is_number" = some (some (.ref f1))) (l1 : K.lookup f1 = some ⟨oc1, od1, .func (PySem.W.fnOf "is_number" "is_number" (defArgs sNum) (defBody sNum) (defScope sNum) .none kV1 dc1 pm1 an1 cd1 ct1), sl1⟩) (c1 : PySem.W.codeIn K cd1 "is_number" = true) (k1 : PySem.W.keepIn K (.ref f1) = true)
    (a2 : PySem.W.nsIn K mainGlobals "is_rising" = some (some (.ref f2))) (l2 : K.lookup f2 = some ⟨oc2, od2, .func (PySem.W.fnOf "is_rising" "is_rising" (defArgs sRis) (defBody sRis) (defScope sRis) .none kV2 dc2 pm2 an2 cd2 ct2), sl2⟩) (c2 : PySem.W.codeIn K cd2 "is_rising" = true) (k2 : PySem.W.keepIn K (.ref f2) = true)
    (a3 : PySem.W.nsIn K mainGlobals "fillings_number" = some (some (.ref f3))) (l3 : K.lookup f3 = some ⟨oc3, od3, .func (PySem.W.fnOf "fillings_number" "fillings_number" (defArgs sFnu) (defBody sFnu) (defScope sFnu) .none kV3 dc3 pm3 an3 cd3 ct3), sl3⟩) (c3 : PySem.W.codeIn K cd3 "fillings_number" = true) (k3 : PySem.W.keepIn K (.ref f3) = true)
    (a4 : PySem.W.nsIn K mainGlobals "is_size" = some (some (.ref f4))) (l4 : K.lookup f4 = some ⟨oc4, od4, .func (PySem.W.fnOf "is_size" "is_size" (defArgs sSiz) (defBody sSiz) (defScope sSiz) .none kV4 dc4 pm4 an4 cd4 ct4), sl4⟩) (c4 : PySem.W.codeIn K cd4 "is_size" = true) (k4 : PySem.W.keepIn K (.ref f4) = true)
    (a5 : PySem.W.nsIn K mainGlobals "are_places" = some (some (.ref f5))) (l5 : K.lookup f5 = some ⟨oc5, od5, .func (PySem.W.fnOf "are_places" "are_places" (defArgs sPls) (defBody sPls) (defScope sPls) .none kV5 dc5 pm5 an5 cd5 ct5), sl5⟩) (c5 : PySem.W.codeIn K cd5 "are_places" = true) (k5 : PySem.W.keepIn K (.ref f5) = true)
    (a6 : PySem.W.nsIn K mainGlobals "are_hues" = some (some (.ref f6))) (l6 : K.lookup f6 = some ⟨oc6, od6, .func (PySem.W.fnOf "are_hues" "are_hues" (defArgs sHus) (defBody sHus) (defScope sHus) .none kV6 dc6 pm6 an6 cd6 ct6), sl6⟩) (c6 : PySem.W.codeIn K cd6 "are_hues" = true) (k6 : PySem.W.keepIn K (.ref f6) = true)
    (a7 : PySem.W.nsIn K mainGlobals "are_rows" = some (some (.ref f7))) (l7 : K.lookup f7 = some ⟨oc7, od7, .func (PySem.W.fnOf "are_rows" "are_rows" (defArgs sRws) (defBody sRws) (defScope sRws) .none kV7 dc7 pm7 an7 cd7 ct7), sl7⟩) (c7 : PySem.W.codeIn K cd7 "are_rows" = true) (k7 : PySem.W.keepIn K (.ref f7) = true)
    (a8 : PySem.W.nsIn K mainGlobals "is_wish" = some (some (.ref f8))) (l8 : K.lookup f8 = some ⟨oc8, od8, .func (PySem.W.fnOf "is_wish" "is_wish" (defArgs sWsh) (defBody sWsh) (defScope sWsh) .none kV8 dc8 pm8 an8 cd8 ct8), sl8⟩) (c8 : PySem.W.codeIn K cd8 "is_wish" = true) (k8 : PySem.W.keepIn K (.ref f8) = true)
    (a9 : PySem.W.nsIn K mainGlobals "is_riddle" = some (some (.ref f9))) (l9 : K.lookup f9 = some ⟨oc9, od9, .func (PySem.W.fnOf "is_riddle" "is_riddle" (defArgs sIrd) (defBody sIrd) (defScope sIrd) .none kV9 dc9 pm9 an9 cd9 ct9), sl9⟩) (c9 : PySem.W.codeIn K cd9 "is_riddle" = true) (k9 : PySem.W.keepIn K (.ref f9) = true)
    (a10 : PySem.W.nsIn K mainGlobals "show_wish" = some (some (.ref f10))) (l10 : K.lookup f10 = some ⟨oc10, od10, .func (PySem.W.fnOf "show_wish" "show_wish" (defArgs sSwi) (defBody sSwi) (defScope sSwi) .none kV10 dc10 pm10 an10 cd10 ct10), sl10⟩) (c10 : PySem.W.codeIn K cd10 "show_wish" = true) (k10 : PySem.W.keepIn K (.ref f10) = true)
    (a11 : PySem.W.nsIn K mainGlobals "show_riddle" = some (some (.ref f11))) (l11 : K.lookup f11 = some ⟨oc11, od11, .func (PySem.W.fnOf "show_riddle" "show_riddle" (defArgs sSri) (defBody sSri) (defScope sSri) .none kV11 dc11 pm11 an11 cd11 ct11), sl11⟩) (c11 : PySem.W.codeIn K cd11 "show_riddle" = true) (k11 : PySem.W.keepIn K (.ref f11) = true)
    (a12 : PySem.W.nsIn K mainGlobals "figure" = some (some (.ref f12))) (l12 : K.lookup f12 = some ⟨oc12, od12, .func (PySem.W.fnOf "figure" "figure" (defArgs sFig) (defBody sFig) (defScope sFig) .none kV12 dc12 pm12 an12 cd12 ct12), sl12⟩) (c12 : PySem.W.codeIn K cd12 "figure" = true) (k12 : PySem.W.keepIn K (.ref f12) = true)
    (a13 : PySem.W.nsIn K mainGlobals "read_wish" = some (some (.ref f13))) (l13 : K.lookup f13 = some ⟨oc13, od13, .func (PySem.W.fnOf "read_wish" "read_wish" (defArgs sRwi) (defBody sRwi) (defScope sRwi) .none kV13 dc13 pm13 an13 cd13 ct13), sl13⟩) (c13 : PySem.W.codeIn K cd13 "read_wish" = true) (k13 : PySem.W.keepIn K (.ref f13) = true)
    (a14 : PySem.W.nsIn K mainGlobals "read_riddle" = some (some (.ref f14))) (l14 : K.lookup f14 = some ⟨oc14, od14, .func (PySem.W.fnOf "read_riddle" "read_riddle" (defArgs sRri) (defBody sRri) (defScope sRri) .none kV14 dc14 pm14 an14 cd14 ct14), sl14⟩) (c14 : PySem.W.codeIn K cd14 "read_riddle" = true) (k14 : PySem.W.keepIn K (.ref f14) = true)
    (a15 : PySem.W.nsIn K mainGlobals "_law_well" = some (some (.ref f15))) (l15 : K.lookup f15 = some ⟨oc15, od15, .func (PySem.W.fnOf "_law_well" "_law_well" (defArgs sWell) (defBody sWell) (defScope sWell) .none kV15 dc15 pm15 an15 cd15 ct15), sl15⟩) (c15 : PySem.W.codeIn K cd15 "_law_well" = true) (k15 : PySem.W.keepIn K (.ref f15) = true)
    (a16 : PySem.W.nsIn K mainGlobals "_law_draw" = some (some (.ref f16))) (l16 : K.lookup f16 = some ⟨oc16, od16, .func (PySem.W.fnOf "_law_draw" "_law_draw" (defArgs sDraw) (defBody sDraw) (defScope sDraw) .none kV16 dc16 pm16 an16 cd16 ct16), sl16⟩) (c16 : PySem.W.codeIn K cd16 "_law_draw" = true) (k16 : PySem.W.keepIn K (.ref f16) = true)
    (a17 : PySem.W.nsIn K mainGlobals "_law_power" = some (some (.ref f17))) (l17 : K.lookup f17 = some ⟨oc17, od17, .func (PySem.W.fnOf "_law_power" "_law_power" (defArgs sPow) (defBody sPow) (defScope sPow) .none kV17 dc17 pm17 an17 cd17 ct17), sl17⟩) (c17 : PySem.W.codeIn K cd17 "_law_power" = true) (k17 : PySem.W.keepIn K (.ref f17) = true)
    (a18 : PySem.W.nsIn K mainGlobals "_law_wish" = some (some (.ref f18))) (l18 : K.lookup f18 = some ⟨oc18, od18, .func (PySem.W.fnOf "_law_wish" "_law_wish" (defArgs sWis) (defBody sWis) (defScope sWis) .none kV18 dc18 pm18 an18 cd18 ct18), sl18⟩) (c18 : PySem.W.codeIn K cd18 "_law_wish" = true) (k18 : PySem.W.keepIn K (.ref f18) = true)
    (a19 : PySem.W.nsIn K mainGlobals "_law_riddle" = some (some (.ref f19))) (l19 : K.lookup f19 = some ⟨oc19, od19, .func (PySem.W.fnOf "_law_riddle" "_law_riddle" (defArgs sRid) (defBody sRid) (defScope sRid) .none kV19 dc19 pm19 an19 cd19 ct19), sl19⟩) (c19 : PySem.W.codeIn K cd19 "_law_riddle" = true) (k19 : PySem.W.keepIn K (.ref f19) = true)
    (a20 : PySem.W.nsIn K mainGlobals "_law_whole" = some (some (.ref f20))) (l20 : K.lookup f20 = some ⟨oc20, od20, .func (PySem.W.fnOf "_law_whole" "_law_whole" (defArgs sLwh) (defBody sLwh) (defScope sLwh) .none kV20 dc20 pm20 an20 cd20 ct20), sl20⟩) (c20 : PySem.W.codeIn K cd20 "_law_whole" = true) (k20 : PySem.W.keepIn K (.ref f20) = true)
    (a21 : PySem.W.nsIn K mainGlobals "_law_rising" = some (some (.ref f21))) (l21 : K.lookup f21 = some ⟨oc21, od21, .func (PySem.W.fnOf "_law_rising" "_law_rising" (defArgs sLri) (defBody sLri) (defScope sLri) .none kV21 dc21 pm21 an21 cd21 ct21), sl21⟩) (c21 : PySem.W.codeIn K cd21 "_law_rising" = true) (k21 : PySem.W.keepIn K (.ref f21) = true)
    (a22 : PySem.W.nsIn K mainGlobals "_law_is_wish" = some (some (.ref f22))) (l22 : K.lookup f22 = some ⟨oc22, od22, .func (PySem.W.fnOf "_law_is_wish" "_law_is_wish" (defArgs sLiw) (defBody sLiw) (defScope sLiw) .none kV22 dc22 pm22 an22 cd22 ct22), sl22⟩) (c22 : PySem.W.codeIn K cd22 "_law_is_wish" = true) (k22 : PySem.W.keepIn K (.ref f22) = true)
    (a23 : PySem.W.nsIn K mainGlobals "_law_is_riddle" = some (some (.ref f23))) (l23 : K.lookup f23 = some ⟨oc23, od23, .func (PySem.W.fnOf "_law_is_riddle" "_law_is_riddle" (defArgs sLir) (defBody sLir) (defScope sLir) .none kV23 dc23 pm23 an23 cd23 ct23), sl23⟩) (c23 : PySem.W.codeIn K cd23 "_law_is_riddle" = true) (k23 : PySem.W.keepIn K (.ref f23) = true)
    (a24 : PySem.W.nsIn K mainGlobals "_law_text" = some (some (.ref f24))) (l24 : K.lookup f24 = some ⟨oc24, od24, .func (PySem.W.fnOf "_law_text" "_law_text" (defArgs sLtx) (defBody sLtx) (defScope sLtx) .none kV24 dc24 pm24 an24 cd24 ct24), sl24⟩) (c24 : PySem.W.codeIn K cd24 "_law_text" = true) (k24 : PySem.W.keepIn K (.ref f24) = true)
    (a25 : PySem.W.nsIn K mainGlobals "_law_figures" = some (some (.ref f25))) (l25 : K.lookup f25 = some ⟨oc25, od25, .func (PySem.W.fnOf "_law_figures" "_law_figures" (defArgs sLfg) (defBody sLfg) (defScope sLfg) .none kV25 dc25 pm25 an25 cd25 ct25), sl25⟩) (c25 : PySem.W.codeIn K cd25 "_law_figures" = true) (k25 : PySem.W.keepIn K (.ref f25) = true)
    (a26 : PySem.W.nsIn K mainGlobals "_law_wish_read" = some (some (.ref f26))) (l26 : K.lookup f26 = some ⟨oc26, od26, .func (PySem.W.fnOf "_law_wish_read" "_law_wish_read" (defArgs sLwr) (defBody sLwr) (defScope sLwr) .none kV26 dc26 pm26 an26 cd26 ct26), sl26⟩) (c26 : PySem.W.codeIn K cd26 "_law_wish_read" = true) (k26 : PySem.W.keepIn K (.ref f26) = true)
    (a27 : PySem.W.nsIn K mainGlobals "_law_read" = some (some (.ref f27))) (l27 : K.lookup f27 = some ⟨oc27, od27, .func (PySem.W.fnOf "_law_read" "_law_read" (defArgs sLrd) (defBody sLrd) (defScope sLrd) .none kV27 dc27 pm27 an27 cd27 ct27), sl27⟩) (c27 : PySem.W.codeIn K cd27 "_law_read" = true) (k27 : PySem.W.keepIn K (.ref f27) = true)
    (a28 : PySem.W.nsIn K mainGlobals "_law_signs" = some (some (.ref f28))) (l28 : K.lookup f28 = some ⟨oc28, od28, .func (PySem.W.fnOf "_law_signs" "_law_signs" (defArgs sLsg) (defBody sLsg) (defScope sLsg) .none kV28 dc28 pm28 an28 cd28 ct28), sl28⟩) (c28 : PySem.W.codeIn K cd28 "_law_signs" = true) (k28 : PySem.W.keepIn K (.ref f28) = true)
    (a29 : PySem.W.nsIn K mainGlobals "_law_bent_text" = some (some (.ref f29))) (l29 : K.lookup f29 = some ⟨oc29, od29, .func (PySem.W.fnOf "_law_bent_text" "_law_bent_text" (defArgs sLbt) (defBody sLbt) (defScope sLbt) .none kV29 dc29 pm29 an29 cd29 ct29), sl29⟩) (c29 : PySem.W.codeIn K cd29 "_law_bent_text" = true) (k29 : PySem.W.keepIn K (.ref f29) = true)
    (a30 : PySem.W.nsIn K mainGlobals "_law_refused" = some (some (.ref f30))) (l30 : K.lookup f30 = some ⟨oc30, od30, .func (PySem.W.fnOf "_law_refused" "_law_refused" (defArgs sRfs) (defBody sRfs) (defScope sRfs) .none kV30 dc30 pm30 an30 cd30 ct30), sl30⟩) (c30 : PySem.W.codeIn K cd30 "_law_refused" = true) (k30 : PySem.W.keepIn K (.ref f30) = true)
    (a31 : PySem.W.nsIn K mainGlobals "law" = some (some (.ref f31))) (l31 : K.lookup f31 = some ⟨oc31, od31, .func (PySem.W.fnOf "law" "law" (defArgs sLaw) (defBody sLaw) (defScope sLaw) .none kV31 dc31 pm31 an31 cd31 ct31), sl31⟩) (c31 : PySem.W.codeIn K cd31 "law" = true) (k31 : PySem.W.keepIn K (.ref f31) = true)
    (z_ValueError : PySem.W.nsIn K mainGlobals "ValueError" = some none)
    (z_abs : PySem.W.nsIn K mainGlobals "abs" = some none)
    (z_all : PySem.W.nsIn K mainGlobals "all" = some none)
    (z_bool : PySem.W.nsIn K mainGlobals "bool" = some none)
    (z_int : PySem.W.nsIn K mainGlobals "int" = some none)
    (z_isinstance : PySem.W.nsIn K mainGlobals "isinstance" = some none)
    (z_len : PySem.W.nsIn K mainGlobals "len" = some none)
    (z_list : PySem.W.nsIn K mainGlobals "list" = some none)
    (z_max : PySem.W.nsIn K mainGlobals "max" = some none)
    (z_min : PySem.W.nsIn K mainGlobals "min" = some none)
    (z_range : PySem.W.nsIn K mainGlobals "range" = some none)
    (z_repr : PySem.W.nsIn K mainGlobals "repr" = some none)
    (z_sorted : PySem.W.nsIn K mainGlobals "sorted" = some none)
    (z_str : PySem.W.nsIn K mainGlobals "str" = some none)
    (z_tuple : PySem.W.nsIn K mainGlobals "tuple" = some none)
    (q_MOST_PLACES : PySem.W.nsIn K mainGlobals "MOST_PLACES" = some (some (.int 6 tk_MOST_PLACES)))
    (q_LEAST_HUES : PySem.W.nsIn K mainGlobals "LEAST_HUES" = some (some (.int 2 tk_LEAST_HUES)))
    (q_MOST_HUES : PySem.W.nsIn K mainGlobals "MOST_HUES" = some (some (.int 4 tk_MOST_HUES)))
    (q_MOST_FILLINGS : PySem.W.nsIn K mainGlobals "MOST_FILLINGS" = some (some (.int 256 tk_MOST_FILLINGS)))
    (q_MOST_WISHES : PySem.W.nsIn K mainGlobals "MOST_WISHES" = some (some (.int 8 tk_MOST_WISHES)))
    (q_MOST_PLACES_OF_A_WISH : PySem.W.nsIn K mainGlobals "MOST_PLACES_OF_A_WISH" = some (some (.int 3 tk_MOST_PLACES_OF_A_WISH)))
    (q_FIGURES : PySem.W.nsIn K mainGlobals "FIGURES" = some (some (.str "0123456789" tk_FIGURES)))
    (cl0 : PySem.W.nsIn K mainGlobals "NoEnd" = some (some (.ref q0)))
    (cl1 : PySem.W.nsIn K mainGlobals "NoLog" = some (some (.ref q1)))
    (cl2 : PySem.W.nsIn K mainGlobals "NoName" = some (some (.ref q2)))
    (cl3 : PySem.W.nsIn K mainGlobals "NoRow" = some (some (.ref q3)))
    (cl4 : PySem.W.nsIn K mainGlobals "NoStep" = some (some (.ref q4)))
    (cl5 : PySem.W.nsIn K mainGlobals "NoTable" = some (some (.ref q5)))
    (cl6 : PySem.W.nsIn K mainGlobals "NoText" = some (some (.ref q6)))
    (cl7 : PySem.W.nsIn K mainGlobals "NoWish" = some (some (.ref q7)))
    (cl8 : PySem.W.nsIn K mainGlobals "Spent" = some (some (.ref q8)))
    (cl9 : PySem.W.nsIn K mainGlobals "Told" = some (some (.ref q9)))
    (cl10 : PySem.W.nsIn K mainGlobals "TooMany" = some (some (.ref q10)))
    (cl11 : PySem.W.nsIn K mainGlobals "DrawError" = some (some (.ref q11)))
    (hA : allOkX K [q0, q1, q2, q3, q4, q5, q6, q7, q8, q9, q10, q11] = true)
    (nq0 : PySem.W.nsIn K mainGlobals "NoText" = some (some (.ref qn0)))
    (hq0 : okC1 K qn0 = true)
    (hD : tabsApart K [f2, f5, f6, f7, f9] [f10, f13, f14] = true) :
    ∃ fd : FuncData, Fun K "law" "law" sLaw fa fd ∧ (∀ (s : Shared) (v : Value), BindsTo s fd ⟨[v], []⟩ [("script", v)]) ∧ ∀ (base : Heap) (H : Hp) (cdv : Value) (a : Addr) (ns : List Int) (s : Shared), K.In base → base.Ns mainGlobals mg → (∀ y ∈ [("is_rising" : Str), ("are_places" : Str), ("are_hues" : Str), ("are_rows" : Str), ("is_riddle" : Str), ("show_wish" : Str), ("read_wish" : Str), ("read_riddle" : Str)], GxR.TabB base mg (tb y).1 (tb y).2) → (∀ y ∈ [("is_rising" : Str), ("are_places" : Str), ("are_hues" : Str), ("are_rows" : Str), ("is_riddle" : Str), ("show_wish" : Str), ("read_wish" : Str), ("read_riddle" : Str)], H (tb y).2 = some (.tbl #[])) → ns.length ≤ 63 → (∀ z ∈ ns, Builtin.Int.intBits z ≤ 1048576) → SqL K H a (ns.map V.int) → Room 11 (callerA.deeper (envOfC "law" (defScope sLaw) s.heap.objs.size fa cdv)) →
        ∃ t, PSs (cxOf CX0 l.prog w K mg base nLaw "law" (defScope sLaw) fa cdv callerA [] s H (fun _ _ _ => False)).nox (defBody sLaw) t ∧ t { nx := fun _ _ => False, rt := fun v _ => v = .bl true } (start nLaw [.ref a]) H := by
  have e := hfa.symm.trans (PySem.W.mg_of X G a31)
  cases e
  have F1 := fun_mk (st := sNum) l1 c1 k1
  have F2 := fun_mk (st := sRis) l2 c2 k2
  have F3 := fun_mk (st := sFnu) l3 c3 k3
  have F4 := fun_mk (st := sSiz) l4 c4 k4
  have F5 := fun_mk (st := sPls) l5 c5 k5
  have F6 := fun_mk (st := sHus) l6 c6 k6
  have F7 := fun_mk (st := sRws) l7 c7 k7
  have F8 := fun_mk (st := sWsh) l8 c8 k8
  have F9 := fun_mk (st := sIrd) l9 c9 k9
  have F10 := fun_mk (st := sSwi) l10 c10 k10
  have F11 := fun_mk (st := sSri) l11 c11 k11
  have F12 := fun_mk (st := sFig) l12 c12 k12
  have F13 := fun_mk (st := sRwi) l13 c13 k13
  have F14 := fun_mk (st := sRri) l14 c14 k14
  have F15 := fun_mk (st := sWell) l15 c15 k15
  have F16 := fun_mk (st := sDraw) l16 c16 k16
  have F17 := fun_mk (st := sPow) l17 c17 k17
  have F18 := fun_mk (st := sWis) l18 c18 k18
  have F19 := fun_mk (st := sRid) l19 c19 k19
  have F20 := fun_mk (st := sLwh) l20 c20 k20
  have F21 := fun_mk (st := sLri) l21 c21 k21
  have F22 := fun_mk (st := sLiw) l22 c22 k22
  have F23 := fun_mk (st := sLir) l23 c23 k23
  have F24 := fun_mk (st := sLtx) l24 c24 k24
  have F25 := fun_mk (st := sLfg) l25 c25 k25
  have F26 := fun_mk (st := sLwr) l26 c26 k26
  have F27 := fun_mk (st := sLrd) l27 c27 k27
  have F28 := fun_mk (st := sLsg) l28 c28 k28
  have F29 := fun_mk (st := sLbt) l29 c29 k29
  have F30 := fun_mk (st := sRfs) l30 c30 k30
  have F31 := fun_mk (st := sLaw) l31 c31 k31
  have b1 := F1.binds (ps := ["thing", "low", "high"]) fun _ _ _ _ _ _ us hl => match us, hl with | [_, _, _], _ => rfl
  have b2 := F2.binds (ps := ["parts"]) fun _ _ _ _ _ _ us hl => match us, hl with | [_], _ => rfl
  have b3 := F3.binds (ps := ["many", "hues"]) fun _ _ _ _ _ _ us hl => match us, hl with | [_, _], _ => rfl
  have b4 := F4.binds (ps := ["many", "hues"]) fun _ _ _ _ _ _ us hl => match us, hl with | [_, _], _ => rfl
  have b5 := F5.binds (ps := ["thing", "many"]) fun _ _ _ _ _ _ us hl => match us, hl with | [_, _], _ => rfl
  have b6 := F6.binds (ps := ["thing", "length", "hues"]) fun _ _ _ _ _ _ us hl => match us, hl with | [_, _, _], _ => rfl
  have b7 := F7.binds (ps := ["thing", "length", "hues"]) fun _ _ _ _ _ _ us hl => match us, hl with | [_, _, _], _ => rfl
  have b8 := F8.binds (ps := ["thing", "many", "hues"]) fun _ _ _ _ _ _ us hl => match us, hl with | [_, _, _], _ => rfl
  have b9 := F9.binds (ps := ["thing"]) fun _ _ _ _ _ _ us hl => match us, hl with | [_], _ => rfl
  have b10 := F10.binds (ps := ["wish"]) fun _ _ _ _ _ _ us hl => match us, hl with | [_], _ => rfl
  have b11 := F11.binds (ps := ["riddle"]) fun _ _ _ _ _ _ us hl => match us, hl with | [_], _ => rfl
  have b12 := F12.binds (ps := ["word"]) fun _ _ _ _ _ _ us hl => match us, hl with | [_], _ => rfl
  have b13 := F13.binds (ps := ["line"]) fun _ _ _ _ _ _ us hl => match us, hl with | [_], _ => rfl
  have b14 := F14.binds (ps := ["text"]) fun _ _ _ _ _ _ us hl => match us, hl with | [_], _ => rfl
  have b15 := F15.binds (ps := ["script"]) fun _ _ _ _ _ _ us hl => match us, hl with | [_], _ => rfl
  have b16 := F16.binds (ps := ["well", "many"]) fun _ _ _ _ _ _ us hl => match us, hl with | [_, _], _ => rfl
  have b17 := F17.binds (ps := ["number", "many"]) fun _ _ _ _ _ _ us hl => match us, hl with | [_, _], _ => rfl
  have b18 := F18.binds (ps := ["well", "many", "hues"]) fun _ _ _ _ _ _ us hl => match us, hl with | [_, _, _], _ => rfl
  have b19 := F19.binds (ps := ["well", "most_places", "most_wishes"]) fun _ _ _ _ _ _ us hl => match us, hl with | [_, _, _], _ => rfl
  have b20 := F20.binds (ps := ["thing", "low", "high"]) fun _ _ _ _ _ _ us hl => match us, hl with | [_, _, _], _ => rfl
  have b21 := F21.binds (ps := ["things"]) fun _ _ _ _ _ _ us hl => match us, hl with | [_], _ => rfl
  have b22 := F22.binds (ps := ["thing", "many", "hues"]) fun _ _ _ _ _ _ us hl => match us, hl with | [_, _, _], _ => rfl
  have b23 := F23.binds (ps := ["thing"]) fun _ _ _ _ _ _ us hl => match us, hl with | [_], _ => rfl
  have b24 := F24.binds (ps := ["riddle"]) fun _ _ _ _ _ _ us hl => match us, hl with | [_], _ => rfl
  have b25 := F25.binds (ps := ["word"]) fun _ _ _ _ _ _ us hl => match us, hl with | [_], _ => rfl
  have b26 := F26.binds (ps := ["row"]) fun _ _ _ _ _ _ us hl => match us, hl with | [_], _ => rfl
  have b27 := F27.binds (ps := ["text"]) fun _ _ _ _ _ _ us hl => match us, hl with | [_], _ => rfl
  have b28 := F28.binds (ps := []) fun _ _ _ _ _ _ us hl => match us, hl with | [], _ => rfl
  have b29 := F29.binds (ps := ["well", "text"]) fun _ _ _ _ _ _ us hl => match us, hl with | [_, _], _ => rfl
  have b30 := F30.binds (ps := ["thing"]) fun _ _ _ _ _ _ us hl => match us, hl with | [_], _ => rfl
  have m_ValueError := PySem.W.mg_none_of X G z_ValueError
  have m_abs := PySem.W.mg_none_of X G z_abs
  have m_all := PySem.W.mg_none_of X G z_all
  have m_bool := PySem.W.mg_none_of X G z_bool
  have m_int := PySem.W.mg_none_of X G z_int
  have m_isinstance := PySem.W.mg_none_of X G z_isinstance
  have m_len := PySem.W.mg_none_of X G z_len
  have m_list := PySem.W.mg_none_of X G z_list
  have m_max := PySem.W.mg_none_of X G z_max
  have m_min := PySem.W.mg_none_of X G z_min
  have m_range := PySem.W.mg_none_of X G z_range
  have m_repr := PySem.W.mg_none_of X G z_repr
  have m_sorted := PySem.W.mg_none_of X G z_sorted
  have m_str := PySem.W.mg_none_of X G z_str
  have m_tuple := PySem.W.mg_none_of X G z_tuple
  have g1 := PySem.W.mg_of X G a1
  have g2 := PySem.W.mg_of X G a2
  have g3 := PySem.W.mg_of X G a3
  have g4 := PySem.W.mg_of X G a4
  have g5 := PySem.W.mg_of X G a5
  have g6 := PySem.W.mg_of X G a6
  have g7 := PySem.W.mg_of X G a7
  have g8 := PySem.W.mg_of X G a8
  have g9 := PySem.W.mg_of X G a9
  have g10 := PySem.W.mg_of X G a10
  have g11 := PySem.W.mg_of X G a11
  have g12 := PySem.W.mg_of X G a12
  have g13 := PySem.W.mg_of X G a13
  have g14 := PySem.W.mg_of X G a14
  have g15 := PySem.W.mg_of X G a15
  have g16 := PySem.W.mg_of X G a16
  have g17 := PySem.W.mg_of X G a17
  have g18 := PySem.W.mg_of X G a18
  have g19 := PySem.W.mg_of X G a19
  have g20 := PySem.W.mg_of X G a20
  have g21 := PySem.W.mg_of X G a21
  have g22 := PySem.W.mg_of X G a22
  have g23 := PySem.W.mg_of X G a23
  have g24 := PySem.W.mg_of X G a24
  have g25 := PySem.W.mg_of X G a25
  have g26 := PySem.W.mg_of X G a26
  have g27 := PySem.W.mg_of X G a27
  have g28 := PySem.W.mg_of X G a28
  have g29 := PySem.W.mg_of X G a29
  have g30 := PySem.W.mg_of X G a30
  have g31 := PySem.W.mg_of X G a31
  have tc2 := (ht "is_rising" (by decide)).code X g2 l2
  cases tc2
  have tc5 := (ht "are_places" (by decide)).code X g5 l5
  cases tc5
  have tc6 := (ht "are_hues" (by decide)).code X g6 l6
  cases tc6
  have tc7 := (ht "are_rows" (by decide)).code X g7 l7
  cases tc7
  have tc9 := (ht "is_riddle" (by decide)).code X g9 l9
  cases tc9
  have tc10 := (ht "show_wish" (by decide)).code X g10 l10
  cases tc10
  have tc13 := (ht "read_wish" (by decide)).code X g13 l13
  cases tc13
  have tc14 := (ht "read_riddle" (by decide)).code X g14 l14
  cases tc14
  refine ⟨_, F31, fun s v => .of_eq rfl, fun base H cdv a ns s kb gb tB tH hl hb hS hrm => ?_⟩
  have TB2 := tB "is_rising" (by decide)
  have TH2 := tH "is_rising" (by decide)
  have TB5 := tB "are_places" (by decide)
  have TH5 := tH "are_places" (by decide)
  have TB6 := tB "are_hues" (by decide)
  have TH6 := tH "are_hues" (by decide)
  have TB7 := tB "are_rows" (by decide)
  have TH7 := tH "are_rows" (by decide)
  have TB9 := tB "is_riddle" (by decide)
  have TH9 := tH "is_riddle" (by decide)
  have TB10 := tB "show_wish" (by decide)
  have TH10 := tH "show_wish" (by decide)
  have TB13 := tB "read_wish" (by decide)
  have TH13 := tH "read_wish" (by decide)
  have TB14 := tB "read_riddle" (by decide)
  have TH14 := tH "read_riddle" (by decide)
  have eq0 : q6 = qn0 := by
    have z := cl6.symm.trans nq0
    injection z with z
    injection z with z
    injection z
  subst eq0
  have CT0 : ClsT K mg q6 := { toCls1 := cls1_of hq0, g_NoText := PySem.W.mg_of X G nq0 }
  have CL := clsX_of X G cl0 cl1 cl2 cl3 cl4 cl5 cl6 cl7 cl8 cl9 cl10 cl11 m_isinstance m_ValueError hA
  have C3 : Cal l.prog w K mg base 1 "fillings_number" ["many", "hues"] spFno := ⟨_, _, ok_fno (k := 0) F3 { m_isinstance := m_isinstance, m_int := m_int, m_bool := m_bool, m_tuple := m_tuple, m_len := m_len, m_all := m_all, m_range := m_range, g_MOST_PLACES := ⟨_, PySem.W.mg_of X G q_MOST_PLACES, ⟨_, rfl⟩⟩, g_LEAST_HUES := ⟨_, PySem.W.mg_of X G q_LEAST_HUES, ⟨_, rfl⟩⟩, g_MOST_HUES := ⟨_, PySem.W.mg_of X G q_MOST_HUES, ⟨_, rfl⟩⟩, g_MOST_FILLINGS := ⟨_, PySem.W.mg_of X G q_MOST_FILLINGS, ⟨_, rfl⟩⟩, g_MOST_WISHES := ⟨_, PySem.W.mg_of X G q_MOST_WISHES, ⟨_, rfl⟩⟩, g_MOST_PLACES_OF_A_WISH := ⟨_, PySem.W.mg_of X G q_MOST_PLACES_OF_A_WISH, ⟨_, rfl⟩⟩ }, g3, k3, b3⟩
  have C1 : Cal l.prog w K mg base 1 "is_number" ["thing", "low", "high"] spNum := ⟨_, _, ok_num (k := 0) F1 { m_isinstance := m_isinstance, m_int := m_int, m_bool := m_bool, m_tuple := m_tuple, m_len := m_len, m_all := m_all, m_range := m_range, g_MOST_PLACES := ⟨_, PySem.W.mg_of X G q_MOST_PLACES, ⟨_, rfl⟩⟩, g_LEAST_HUES := ⟨_, PySem.W.mg_of X G q_LEAST_HUES, ⟨_, rfl⟩⟩, g_MOST_HUES := ⟨_, PySem.W.mg_of X G q_MOST_HUES, ⟨_, rfl⟩⟩, g_MOST_FILLINGS := ⟨_, PySem.W.mg_of X G q_MOST_FILLINGS, ⟨_, rfl⟩⟩, g_MOST_WISHES := ⟨_, PySem.W.mg_of X G q_MOST_WISHES, ⟨_, rfl⟩⟩, g_MOST_PLACES_OF_A_WISH := ⟨_, PySem.W.mg_of X G q_MOST_PLACES_OF_A_WISH, ⟨_, rfl⟩⟩ }, g1, k1, b1⟩
  have C2 : Cal l.prog w K mg base 2 "is_rising" ["parts"] (spRis [(tb "is_rising").2, (tb "are_places").2, (tb "are_hues").2, (tb "are_rows").2, (tb "is_riddle").2]) := ⟨_, _, ok_ris (k := 0) ⟨⟨_, _, _, _, _, _, _, _, rfl, l2, c2⟩⟩ TB2 (by simp) { m_isinstance := m_isinstance, m_int := m_int, m_bool := m_bool, m_tuple := m_tuple, m_len := m_len, m_all := m_all, m_range := m_range, g_MOST_PLACES := ⟨_, PySem.W.mg_of X G q_MOST_PLACES, ⟨_, rfl⟩⟩, g_LEAST_HUES := ⟨_, PySem.W.mg_of X G q_LEAST_HUES, ⟨_, rfl⟩⟩, g_MOST_HUES := ⟨_, PySem.W.mg_of X G q_MOST_HUES, ⟨_, rfl⟩⟩, g_MOST_FILLINGS := ⟨_, PySem.W.mg_of X G q_MOST_FILLINGS, ⟨_, rfl⟩⟩, g_MOST_WISHES := ⟨_, PySem.W.mg_of X G q_MOST_WISHES, ⟨_, rfl⟩⟩, g_MOST_PLACES_OF_A_WISH := ⟨_, PySem.W.mg_of X G q_MOST_PLACES_OF_A_WISH, ⟨_, rfl⟩⟩ }, g2, k2, b2⟩
  have C4 : Cal l.prog w K mg base 2 "is_size" ["many", "hues"] spSiz := ⟨_, _, ok_siz (k := 0) F4 { m_isinstance := m_isinstance, m_int := m_int, m_bool := m_bool, m_tuple := m_tuple, m_len := m_len, m_all := m_all, m_range := m_range, g_MOST_PLACES := ⟨_, PySem.W.mg_of X G q_MOST_PLACES, ⟨_, rfl⟩⟩, g_LEAST_HUES := ⟨_, PySem.W.mg_of X G q_LEAST_HUES, ⟨_, rfl⟩⟩, g_MOST_HUES := ⟨_, PySem.W.mg_of X G q_MOST_HUES, ⟨_, rfl⟩⟩, g_MOST_FILLINGS := ⟨_, PySem.W.mg_of X G q_MOST_FILLINGS, ⟨_, rfl⟩⟩, g_MOST_WISHES := ⟨_, PySem.W.mg_of X G q_MOST_WISHES, ⟨_, rfl⟩⟩, g_MOST_PLACES_OF_A_WISH := ⟨_, PySem.W.mg_of X G q_MOST_PLACES_OF_A_WISH, ⟨_, rfl⟩⟩, c_is_number := C1, c_fillings_number := C3 }, g4, k4, b4⟩
  have C5 : Cal l.prog w K mg base 3 "are_places" ["thing", "many"] (spPls [(tb "is_rising").2, (tb "are_places").2, (tb "are_hues").2, (tb "are_rows").2, (tb "is_riddle").2]) := ⟨_, _, ok_pls (k := 0) ⟨⟨_, _, _, _, _, _, _, _, rfl, l5, c5⟩⟩ TB5 (by simp) { m_isinstance := m_isinstance, m_int := m_int, m_bool := m_bool, m_tuple := m_tuple, m_len := m_len, m_all := m_all, m_range := m_range, g_MOST_PLACES := ⟨_, PySem.W.mg_of X G q_MOST_PLACES, ⟨_, rfl⟩⟩, g_LEAST_HUES := ⟨_, PySem.W.mg_of X G q_LEAST_HUES, ⟨_, rfl⟩⟩, g_MOST_HUES := ⟨_, PySem.W.mg_of X G q_MOST_HUES, ⟨_, rfl⟩⟩, g_MOST_FILLINGS := ⟨_, PySem.W.mg_of X G q_MOST_FILLINGS, ⟨_, rfl⟩⟩, g_MOST_WISHES := ⟨_, PySem.W.mg_of X G q_MOST_WISHES, ⟨_, rfl⟩⟩, g_MOST_PLACES_OF_A_WISH := ⟨_, PySem.W.mg_of X G q_MOST_PLACES_OF_A_WISH, ⟨_, rfl⟩⟩, c_is_number := C1, c_fillings_number := C3, c_is_rising := C2 }, g5, k5, b5⟩
  have C6 : Cal l.prog w K mg base 3 "are_hues" ["thing", "length", "hues"] (spHus [(tb "is_rising").2, (tb "are_places").2, (tb "are_hues").2, (tb "are_rows").2, (tb "is_riddle").2]) := ⟨_, _, ok_hus (k := 0) ⟨⟨_, _, _, _, _, _, _, _, rfl, l6, c6⟩⟩ TB6 (by simp) { m_isinstance := m_isinstance, m_int := m_int, m_bool := m_bool, m_tuple := m_tuple, m_len := m_len, m_all := m_all, m_range := m_range, g_MOST_PLACES := ⟨_, PySem.W.mg_of X G q_MOST_PLACES, ⟨_, rfl⟩⟩, g_LEAST_HUES := ⟨_, PySem.W.mg_of X G q_LEAST_HUES, ⟨_, rfl⟩⟩, g_MOST_HUES := ⟨_, PySem.W.mg_of X G q_MOST_HUES, ⟨_, rfl⟩⟩, g_MOST_FILLINGS := ⟨_, PySem.W.mg_of X G q_MOST_FILLINGS, ⟨_, rfl⟩⟩, g_MOST_WISHES := ⟨_, PySem.W.mg_of X G q_MOST_WISHES, ⟨_, rfl⟩⟩, g_MOST_PLACES_OF_A_WISH := ⟨_, PySem.W.mg_of X G q_MOST_PLACES_OF_A_WISH, ⟨_, rfl⟩⟩, c_is_number := C1, c_fillings_number := C3, c_is_rising := C2 }, g6, k6, b6⟩
  have C7 : Cal l.prog w K mg base 5 "are_rows" ["thing", "length", "hues"] (spRws [(tb "is_rising").2, (tb "are_places").2, (tb "are_hues").2, (tb "are_rows").2, (tb "is_riddle").2]) := ⟨_, _, ok_rws (k := 0) ⟨⟨_, _, _, _, _, _, _, _, rfl, l7, c7⟩⟩ TB7 (by simp) { m_isinstance := m_isinstance, m_int := m_int, m_bool := m_bool, m_tuple := m_tuple, m_len := m_len, m_all := m_all, m_range := m_range, g_MOST_PLACES := ⟨_, PySem.W.mg_of X G q_MOST_PLACES, ⟨_, rfl⟩⟩, g_LEAST_HUES := ⟨_, PySem.W.mg_of X G q_LEAST_HUES, ⟨_, rfl⟩⟩, g_MOST_HUES := ⟨_, PySem.W.mg_of X G q_MOST_HUES, ⟨_, rfl⟩⟩, g_MOST_FILLINGS := ⟨_, PySem.W.mg_of X G q_MOST_FILLINGS, ⟨_, rfl⟩⟩, g_MOST_WISHES := ⟨_, PySem.W.mg_of X G q_MOST_WISHES, ⟨_, rfl⟩⟩, g_MOST_PLACES_OF_A_WISH := ⟨_, PySem.W.mg_of X G q_MOST_PLACES_OF_A_WISH, ⟨_, rfl⟩⟩, c_is_number := C1, c_fillings_number := C3, c_is_rising := C2, c_are_hues := C6 }, g7, k7, b7⟩
  have C8 : Cal l.prog w K mg base 6 "is_wish" ["thing", "many", "hues"] (spWsh [(tb "is_rising").2, (tb "are_places").2, (tb "are_hues").2, (tb "are_rows").2, (tb "is_riddle").2]) := ⟨_, _, ok_wsh (k := 0) F8 { m_isinstance := m_isinstance, m_int := m_int, m_bool := m_bool, m_tuple := m_tuple, m_len := m_len, m_all := m_all, m_range := m_range, g_MOST_PLACES := ⟨_, PySem.W.mg_of X G q_MOST_PLACES, ⟨_, rfl⟩⟩, g_LEAST_HUES := ⟨_, PySem.W.mg_of X G q_LEAST_HUES, ⟨_, rfl⟩⟩, g_MOST_HUES := ⟨_, PySem.W.mg_of X G q_MOST_HUES, ⟨_, rfl⟩⟩, g_MOST_FILLINGS := ⟨_, PySem.W.mg_of X G q_MOST_FILLINGS, ⟨_, rfl⟩⟩, g_MOST_WISHES := ⟨_, PySem.W.mg_of X G q_MOST_WISHES, ⟨_, rfl⟩⟩, g_MOST_PLACES_OF_A_WISH := ⟨_, PySem.W.mg_of X G q_MOST_PLACES_OF_A_WISH, ⟨_, rfl⟩⟩, c_are_places := C5, c_are_rows := C7 }, g8, k8, b8⟩
  have C9 : Cal l.prog w K mg base 8 "is_riddle" ["thing"] (spIrd [(tb "is_rising").2, (tb "are_places").2, (tb "are_hues").2, (tb "are_rows").2, (tb "is_riddle").2]) := ⟨_, _, ok_ird (k := 0) ⟨⟨_, _, _, _, _, _, _, _, rfl, l9, c9⟩⟩ TB9 (by simp) { m_isinstance := m_isinstance, m_int := m_int, m_bool := m_bool, m_tuple := m_tuple, m_len := m_len, m_all := m_all, m_range := m_range, g_MOST_PLACES := ⟨_, PySem.W.mg_of X G q_MOST_PLACES, ⟨_, rfl⟩⟩, g_LEAST_HUES := ⟨_, PySem.W.mg_of X G q_LEAST_HUES, ⟨_, rfl⟩⟩, g_MOST_HUES := ⟨_, PySem.W.mg_of X G q_MOST_HUES, ⟨_, rfl⟩⟩, g_MOST_FILLINGS := ⟨_, PySem.W.mg_of X G q_MOST_FILLINGS, ⟨_, rfl⟩⟩, g_MOST_WISHES := ⟨_, PySem.W.mg_of X G q_MOST_WISHES, ⟨_, rfl⟩⟩, g_MOST_PLACES_OF_A_WISH := ⟨_, PySem.W.mg_of X G q_MOST_PLACES_OF_A_WISH, ⟨_, rfl⟩⟩, c_is_size := C4, c_is_wish := C8 }, g9, k9, b9⟩
  have C10 : Cal l.prog w K mg base 6 "show_wish" ["wish"] (spSwi ([(tb "is_rising").2, (tb "are_places").2, (tb "are_hues").2, (tb "are_rows").2, (tb "is_riddle").2] ++ [(tb "show_wish").2, (tb "read_wish").2, (tb "read_riddle").2]) [(tb "show_wish").2, (tb "read_wish").2, (tb "read_riddle").2]) := ⟨_, _, ok_swi (k := 0) ⟨⟨_, _, _, _, _, _, _, _, rfl, l10, c10⟩⟩ TB10 (by simp) { m_str := m_str }, g10, k10, b10⟩
  have C11 : Cal l.prog w K mg base 7 "show_riddle" ["riddle"] (spSri ([(tb "is_rising").2, (tb "are_places").2, (tb "are_hues").2, (tb "are_rows").2, (tb "is_riddle").2] ++ [(tb "show_wish").2, (tb "read_wish").2, (tb "read_riddle").2]) [(tb "show_wish").2, (tb "read_wish").2, (tb "read_riddle").2]) := ⟨_, _, ok_sri (k := 0) F11 { c_show_wish := C10 }, g11, k11, b11⟩
  have C12 : Cal l.prog w K mg base 1 "figure" ["word"] spFig := ⟨_, _, ok_fig (k := 0) F12 { g_FIGURES := ⟨_, PySem.W.mg_of X G q_FIGURES, ⟨_, rfl⟩⟩ }, g12, k12, b12⟩
  have C13 : Cal l.prog w K mg base 6 "read_wish" ["line"] (spRwi ([(tb "is_rising").2, (tb "are_places").2, (tb "are_hues").2, (tb "are_rows").2, (tb "is_riddle").2] ++ [(tb "show_wish").2, (tb "read_wish").2, (tb "read_riddle").2]) [(tb "show_wish").2, (tb "read_wish").2, (tb "read_riddle").2]) := ⟨_, _, ok_rwi (k := 0) ⟨⟨_, _, _, _, _, _, _, _, rfl, l13, c13⟩⟩ TB13 (by simp) { m_tuple := m_tuple, c_figure := C12 }, g13, k13, b13⟩
  have C14 : CalX l.prog w K mg base 9 "read_riddle" ["text"] (spRrA K [(tb "is_rising").2, (tb "are_places").2, (tb "are_hues").2, (tb "are_rows").2, (tb "is_riddle").2] ([(tb "is_rising").2, (tb "are_places").2, (tb "are_hues").2, (tb "are_rows").2, (tb "is_riddle").2] ++ [(tb "show_wish").2, (tb "read_wish").2, (tb "read_riddle").2]) [(tb "show_wish").2, (tb "read_wish").2, (tb "read_riddle").2] q6) := ⟨_, _, ok_rrA (k := 0) ⟨⟨_, _, _, _, _, _, _, _, rfl, l14, c14⟩⟩ TB14 (by simp) CT0 { m_isinstance := m_isinstance, m_str := m_str, m_len := m_len, m_tuple := m_tuple, c_figure := C12, c_read_wish := C13, c_is_riddle := C9, c_show_riddle := C11 }, g14, k14, b14⟩
  have C15 : Cal l.prog w K mg base 1 "_law_well" ["script"] (spWell K) := ⟨_, _, ok_well (k := 0) F15 m_abs, g15, k15, b15⟩
  have C16 : Cal l.prog w K mg base 1 "_law_draw" ["well", "many"] spDraw := ⟨_, _, ok_draw (k := 0) F16, g16, k16, b16⟩
  have C17 : Cal l.prog w K mg base 1 "_law_power" ["number", "many"] spPow := ⟨_, _, ok_pow (k := 0) F17 m_range, g17, k17, b17⟩
  have C18 : Cal l.prog w K mg base 2 "_law_wish" ["well", "many", "hues"] spWis := ⟨_, _, ok_wis (k := 0) F18 { m_range := m_range, m_list := m_list, m_min := m_min, m_max := m_max, m_len := m_len, m_sorted := m_sorted, m_tuple := m_tuple, c__law_draw := C16, c__law_power := C17 }, g18, k18, b18⟩
  have C19 : Cal l.prog w K mg base 3 "_law_riddle" ["well", "most_places", "most_wishes"] spRid := ⟨_, _, ok_rid (k := 0) F19 { m_range := m_range, m_list := m_list, m_min := m_min, m_max := m_max, m_len := m_len, m_sorted := m_sorted, m_tuple := m_tuple, c__law_draw := C16, c__law_power := C17, c__law_wish := C18 }, g19, k19, b19⟩
  have C24 : Cal l.prog w K mg base 1 "_law_text" ["riddle"] spLtx := ⟨_, _, ok_ltx (k := 0) F24 { m_str := m_str }, g24, k24, b24⟩
  have C28 : Cal l.prog w K mg base 1 "_law_signs" [] spLsg := ⟨_, _, ok_lsg (k := 0) F28, g28, k28, b28⟩
  have C29 : Cal l.prog w K mg base 2 "_law_bent_text" ["well", "text"] spLbt := ⟨_, _, ok_lbt (k := 0) F29 { m_len := m_len, c__law_draw := C16, c__law_signs := C28 }, g29, k29, b29⟩
  have C20 : Cal l.prog w K mg base 1 "_law_whole" ["thing", "low", "high"] spNum := ⟨_, _, ok_lwh (k := 0) F20 { m_isinstance := m_isinstance, m_int := m_int, m_bool := m_bool, m_tuple := m_tuple, m_len := m_len, m_range := m_range }, g20, k20, b20⟩
  have C21 : Cal l.prog w K mg base 1 "_law_rising" ["things"] spLri := ⟨_, _, ok_lri (k := 0) F21 { m_isinstance := m_isinstance, m_int := m_int, m_bool := m_bool, m_tuple := m_tuple, m_len := m_len, m_range := m_range }, g21, k21, b21⟩
  have C22 : Cal l.prog w K mg base 2 "_law_is_wish" ["thing", "many", "hues"] spLiw := ⟨_, _, ok_liw (k := 0) F22 { m_isinstance := m_isinstance, m_int := m_int, m_bool := m_bool, m_tuple := m_tuple, m_len := m_len, m_range := m_range, c__law_whole := C20, c__law_rising := C21 }, g22, k22, b22⟩
  have C23 : Cal l.prog w K mg base 3 "_law_is_riddle" ["thing"] spLir := ⟨_, _, ok_lir (k := 0) F23 { m_isinstance := m_isinstance, m_int := m_int, m_bool := m_bool, m_tuple := m_tuple, m_len := m_len, m_range := m_range, c__law_whole := C20, c__law_power := C17, c__law_is_wish := C22 }, g23, k23, b23⟩
  have C25 : Cal l.prog w K mg base 1 "_law_figures" ["word"] spLfg := ⟨_, _, ok_lfg (k := 0) F25 { m_isinstance := m_isinstance, m_int := m_int, m_bool := m_bool, m_tuple := m_tuple, m_len := m_len, m_range := m_range }, g25, k25, b25⟩
  have C26 : Cal l.prog w K mg base 2 "_law_wish_read" ["row"] spLwr := ⟨_, _, ok_lwr (k := 0) F26 { m_isinstance := m_isinstance, m_int := m_int, m_bool := m_bool, m_tuple := m_tuple, m_len := m_len, m_range := m_range, c__law_figures := C25 }, g26, k26, b26⟩
  have C27 : Cal l.prog w K mg base 4 "_law_read" ["text"] spLrd := ⟨_, _, ok_lrd (k := 0) F27 { m_isinstance := m_isinstance, m_int := m_int, m_bool := m_bool, m_tuple := m_tuple, m_len := m_len, m_range := m_range, c__law_figures := C25, c__law_wish_read := C26, c__law_is_riddle := C23 }, g27, k27, b27⟩
  have C30 : CalG l.prog w K mg base 10 "_law_refused" ["thing"] (spRfd K [(tb "is_rising").2, (tb "are_places").2, (tb "are_hues").2, (tb "are_rows").2, (tb "is_riddle").2] ([(tb "is_rising").2, (tb "are_places").2, (tb "are_hues").2, (tb "are_rows").2, (tb "is_riddle").2] ++ [(tb "show_wish").2, (tb "read_wish").2, (tb "read_riddle").2]) [(tb "show_wish").2, (tb "read_wish").2, (tb "read_riddle").2]) := ⟨_, _, ok_rfd (k := 0) F30 { toClsX := CL, m_repr := m_repr, c_read_riddle := C14 }, g30, k30, b30⟩
  have hTs : Tabs [(tb "is_rising").2, (tb "are_places").2, (tb "are_hues").2, (tb "are_rows").2, (tb "is_riddle").2] H := fun P hP => by
    simp only [List.mem_cons, List.not_mem_nil, or_false] at hP
    rcases hP with rfl | rfl | rfl | rfl | rfl
    · exact ⟨#[], TH2, trivial⟩
    · exact ⟨#[], TH5, trivial⟩
    · exact ⟨#[], TH6, trivial⟩
    · exact ⟨#[], TH7, trivial⟩
    · exact ⟨#[], TH9, trivial⟩
  have hNs : Gx.Nests ([(tb "is_rising").2, (tb "are_places").2, (tb "are_hues").2, (tb "are_rows").2, (tb "is_riddle").2] ++ [(tb "show_wish").2, (tb "read_wish").2, (tb "read_riddle").2]) [(tb "show_wish").2, (tb "read_wish").2, (tb "read_riddle").2] H := by
    refine ⟨fun P hP => ?_, fun P hP => ⟨List.mem_append_right _ hP, ?_⟩⟩
    · simp only [List.cons_append, List.nil_append, List.mem_cons, List.not_mem_nil, or_false] at hP
      rcases hP with rfl | rfl | rfl | rfl | rfl | rfl | rfl | rfl
      · (rw [TH2]; exact fun z => nomatch z)
      · (rw [TH5]; exact fun z => nomatch z)
      · (rw [TH6]; exact fun z => nomatch z)
      · (rw [TH7]; exact fun z => nomatch z)
      · (rw [TH9]; exact fun z => nomatch z)
      · (rw [TH10]; exact fun z => nomatch z)
      · (rw [TH13]; exact fun z => nomatch z)
      · (rw [TH14]; exact fun z => nomatch z)
    · simp only [List.mem_cons, List.not_mem_nil, or_false] at hP
      rcases hP with rfl | rfl | rfl
      · exact Gx.NestG.new TH10
      · exact Gx.NestG.new TH13
      · exact Gx.NestG.new TH14
  have hSub : ∀ P ∈ [(tb "is_rising").2, (tb "are_places").2, (tb "are_hues").2, (tb "are_rows").2, (tb "is_riddle").2], P ∈ ([(tb "is_rising").2, (tb "are_places").2, (tb "are_hues").2, (tb "are_rows").2, (tb "is_riddle").2] ++ [(tb "show_wish").2, (tb "read_wish").2, (tb "read_riddle").2]) := fun P hP => List.mem_append_left _ hP
  have hDis : ∀ P ∈ [(tb "show_wish").2, (tb "read_wish").2, (tb "read_riddle").2], P ∉ [(tb "is_rising").2, (tb "are_places").2, (tb "are_hues").2, (tb "are_rows").2, (tb "is_riddle").2] := by
    refine apart_of (mg := mg) X [("is_rising", f2), ("are_places", f5), ("are_hues", f6), ("are_rows", f7), ("is_riddle", f9)] [("show_wish", f10), ("read_wish", f13), ("read_riddle", f14)] (fun x hx => ?_) hD
    simp only [List.cons_append, List.nil_append, List.mem_cons, List.not_mem_nil, or_false] at hx
    rcases hx with rfl | rfl | rfl | rfl | rfl | rfl | rfl | rfl
    · exact ⟨ht "is_rising" (by decide), g2⟩
    · exact ⟨ht "are_places" (by decide), g5⟩
    · exact ⟨ht "are_hues" (by decide), g6⟩
    · exact ⟨ht "are_rows" (by decide), g7⟩
    · exact ⟨ht "is_riddle" (by decide), g9⟩
    · exact ⟨ht "show_wish" (by decide), g10⟩
    · exact ⟨ht "read_wish" (by decide), g13⟩
    · exact ⟨ht "read_riddle" (by decide), g14⟩
  exact body_law (Ps := [(tb "is_rising").2, (tb "are_places").2, (tb "are_hues").2, (tb "are_rows").2, (tb "is_riddle").2]) (AA := ([(tb "is_rising").2, (tb "are_places").2, (tb "are_hues").2, (tb "are_rows").2, (tb "is_riddle").2] ++ [(tb "show_wish").2, (tb "read_wish").2, (tb "read_riddle").2])) (Qs := [(tb "show_wish").2, (tb "read_wish").2, (tb "read_riddle").2]) (D := q6) { m_range := m_range, m_repr := m_repr, c__law_well := C15, c__law_draw := C16, c__law_riddle := C19, c__law_text := C24, c__law_bent_text := C29, c__law_refused := C30, c__law_read := C27, c_read_riddle := C14 } hSub hDis hl hb hTs hNs hS hrm
end Rd

set_option Elab.async false
set_option linter.all false
set_option maxRecDepth 100000
set_option maxHeartbeats 4000000
open PySem PySem.W PyProof.Rows
set_option maxHeartbeats 0 in
theorem PySem.Challenge.cw_redraw_k71_riddles_read_holds : PySem.Challenge.rw_redraw_k71_riddles_read.Holds := by
  w_on; o_law; k_head; (case hw => w_witness2)
  k_fill
  refine Lg.walk_of (l := PySem.Challenge.rw_redraw_k71_riddles_read) (n := 63) (k := 11) (x := "law") (qual := "law") (par := "script") (st := Rd.sLaw) (N := Rd.nLaw) ["is_rising", "are_places", "are_hues", "are_rows", "is_riddle", "show_wish", "read_wish", "read_riddle"] rfl (by decide) rfl ⟨rfl, by decide, by decide⟩ (by rfl) ?hK (fun w h Y => PySem.W.kIn_of Y) Rd.scLaw ?F
  case hK => intro w; kernel_rfl
  case F =>
    intro w mg fa h tb KX G hmg ht
    refine' Rd.all_mk KX G hmg ht ?a1 ?l1 ?c1 ?k1 ?a2 ?l2 ?c2 ?k2 ?a3 ?l3 ?c3 ?k3 ?a4 ?l4 ?c4 ?k4 ?a5 ?l5 ?c5 ?k5 ?a6 ?l6 ?c6 ?k6 ?a7 ?l7 ?c7 ?k7 ?a8 ?l8 ?c8 ?k8 ?a9 ?l9 ?c9 ?k9 ?a10 ?l10 ?c10 ?k10 ?a11 ?l11 ?c11 ?k11 ?a12 ?l12 ?c12 ?k12 ?a13 ?l13 ?c13 ?k13 ?a14 ?l14 ?c14 ?k14 ?a15 ?l15 ?c15 ?k15 ?a16 ?l16 ?c16 ?k16 ?a17 ?l17 ?c17 ?k17 ?a18 ?l18 ?c18 ?k18 ?a19 ?l19 ?c19 ?k19 ?a20 ?l20 ?c20 ?k20 ?a21 ?l21 ?c21 ?k21 ?a22 ?l22 ?c22 ?k22 ?a23 ?l23 ?c23 ?k23 ?a24 ?l24 ?c24 ?k24 ?a25 ?l25 ?c25 ?k25 ?a26 ?l26 ?c26 ?k26 ?a27 ?l27 ?c27 ?k27 ?a28 ?l28 ?c28 ?k28 ?a29 ?l29 ?c29 ?k29 ?a30 ?l30 ?c30 ?k30 ?a31 ?l31 ?c31 ?k31 ?z_ValueError ?z_abs ?z_all ?z_bool ?z_int ?z_isinstance ?z_len ?z_list ?z_max ?z_min ?z_range ?z_repr ?z_sorted ?z_str ?z_tuple ?q_MOST_PLACES ?q_LEAST_HUES ?q_MOST_HUES ?q_MOST_FILLINGS ?q_MOST_WISHES ?q_MOST_PLACES_OF_A_WISH ?q_FIGURES ?cl0 ?cl1 ?cl2 ?cl3 ?cl4 ?cl5 ?cl6 ?cl7 ?cl8 ?cl9 ?cl10 ?cl11 ?hA ?nq0 ?hq0 ?hD
    (case a1 => k_is); (case l1 => k_is); (case c1 => k_is); (case k1 => k_is); (case a2 => k_is); (case l2 => k_is); (case c2 => k_is); (case k2 => k_is); (case a3 => k_is); (case l3 => k_is); (case c3 => k_is); (case k3 => k_is); (case a4 => k_is); (case l4 => k_is); (case c4 => k_is); (case k4 => k_is); (case a5 => k_is); (case l5 => k_is); (case c5 => k_is); (case k5 => k_is); (case a6 => k_is); (case l6 => k_is); (case c6 => k_is); (case k6 => k_is); (case a7 => k_is); (case l7 => k_is); (case c7 => k_is); (case k7 => k_is); (case a8 => k_is); (case l8 => k_is); (case c8 => k_is); (case k8 => k_is); (case a9 => k_is); (case l9 => k_is); (case c9 => k_is); (case k9 => k_is); (case a10 => k_is); (case l10 => k_is); (case c10 => k_is); (case k10 => k_is); (case a11 => k_is); (case l11 => k_is); (case c11 => k_is); (case k11 => k_is); (case a12 => k_is); (case l12 => k_is); (case c12 => k_is); (case k12 => k_is); (case a13 => k_is); (case l13 => k_is); (case c13 => k_is); (case k13 => k_is); (case a14 => k_is); (case l14 => k_is); (case c14 => k_is); (case k14 => k_is); (case a15 => k_is); (case l15 => k_is); (case c15 => k_is); (case k15 => k_is); (case a16 => k_is); (case l16 => k_is); (case c16 => k_is); (case k16 => k_is); (case a17 => k_is); (case l17 => k_is); (case c17 => k_is); (case k17 => k_is); (case a18 => k_is); (case l18 => k_is); (case c18 => k_is); (case k18 => k_is); (case a19 => k_is); (case l19 => k_is); (case c19 => k_is); (case k19 => k_is); (case a20 => k_is); (case l20 => k_is); (case c20 => k_is); (case k20 => k_is); (case a21 => k_is); (case l21 => k_is); (case c21 => k_is); (case k21 => k_is); (case a22 => k_is); (case l22 => k_is); (case c22 => k_is); (case k22 => k_is); (case a23 => k_is); (case l23 => k_is); (case c23 => k_is); (case k23 => k_is); (case a24 => k_is); (case l24 => k_is); (case c24 => k_is); (case k24 => k_is); (case a25 => k_is); (case l25 => k_is); (case c25 => k_is); (case k25 => k_is); (case a26 => k_is); (case l26 => k_is); (case c26 => k_is); (case k26 => k_is); (case a27 => k_is); (case l27 => k_is); (case c27 => k_is); (case k27 => k_is); (case a28 => k_is); (case l28 => k_is); (case c28 => k_is); (case k28 => k_is); (case a29 => k_is); (case l29 => k_is); (case c29 => k_is); (case k29 => k_is); (case a30 => k_is); (case l30 => k_is); (case c30 => k_is); (case k30 => k_is); (case a31 => k_is); (case l31 => k_is); (case c31 => k_is); (case k31 => k_is); (case z_ValueError => k_is); (case z_abs => k_is); (case z_all => k_is); (case z_bool => k_is); (case z_int => k_is); (case z_isinstance => k_is); (case z_len => k_is); (case z_list => k_is); (case z_max => k_is); (case z_min => k_is); (case z_range => k_is); (case z_repr => k_is); (case z_sorted => k_is); (case z_str => k_is); (case z_tuple => k_is); (case q_MOST_PLACES => k_is); (case q_LEAST_HUES => k_is); (case q_MOST_HUES => k_is); (case q_MOST_FILLINGS => k_is); (case q_MOST_WISHES => k_is); (case q_MOST_PLACES_OF_A_WISH => k_is); (case q_FIGURES => k_is); (case cl0 => k_is); (case cl1 => k_is); (case cl2 => k_is); (case cl3 => k_is); (case cl4 => k_is); (case cl5 => k_is); (case cl6 => k_is); (case cl7 => k_is); (case cl8 => k_is); (case cl9 => k_is); (case cl10 => k_is); (case cl11 => k_is); (case hA => kernel_rfl); (case nq0 => k_is); (case hq0 => kernel_rfl); (case hD => kernel_rfl)
